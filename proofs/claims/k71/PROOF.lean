import PyProof.Rows.All
import Wide.All
import OpenK.AllK
import Wide.FinOn
import Lean
import PyProof.EqAt
import PyProof.EqKinds
import PyProof.TupleCall
import PyProof.NeKinds
import KE.KUnpack
import PyProof.CallStr
import PySem.Challenge.RW_latticeworks_k71_plans_gone_through
set_option Elab.async false
set_option autoImplicit true
set_option relaxedAutoImplicit true
set_option linter.all false
set_option maxRecDepth 100000
local macro_rules|`(def $i:declId$s:optDeclSig$v:declVal)=>`(noncomputable def $i:declId$s:optDeclSig$v:declVal)
local macro_rules|`(@[irreducible]def $i:declId$s:optDeclSig$v:declVal)=>`(@[irreducible]noncomputable def $i:declId$s:optDeclSig$v:declVal)
local macro_rules|`(abbrev $i:declId$s:optDeclSig$v:declVal)=>`(noncomputable abbrev $i:declId$s:optDeclSig$v:declVal)
local macro_rules|`(tactic|let $d:letDecl)=>`(tactic|have $d:letDecl)
local macro_rules|`(tactic|show $t)=>`(tactic|refine $t)
local macro_rules|`(tactic|simp![$l,*]$[$k]?)=>`(tactic|simp only[$l,*]$[$k]?)
def Xi:=@PySem.wpAny_bind
def Xj:=@PySem.Heap.get?_push_of_some
def Xk:=@List.length_map
def Xl:=@Nat.le_refl
def Xm:=@List.getElem?_eq_some_iff
def Xn:=@if_neg
def Xo:=@Nat.le_of_ble_eq_true
def Xp:=@Ne.symm
def Xq:=@List.getElem?_set_ne
def Xr:=@if_pos
def Xs:=@List.getElem?_append_left
def Xu:=@Nat.le_trans
def Xv:=@List.getElem?_eq_getElem
def Xw:=@List.getD_eq_getElem?_getD
def Xx:=@List.getElem?_set_self
def Xy:=@List.size_toArray
def Xz:=@PySem.wpAny_pure
def XA:=@List.length_set
def XB:=@List.getElem?_map
def XC:=@PySem.Heap.lt_size
def XD:=@Nat.pow_le_pow_right
def XE:=@PySem.Heap.get?_push_size
def XF:=@Nat.lt_of_lt_of_le
def XG:=@decide_eq_false
def XH:=@List.length_cons
def XI:=@List.mem_append_right
def XJ:=@List.mem_cons
def XM:=@List.mem_cons_of_mem
def XN:=@List.drop_eq_getElem_cons
def XO:=@List.mem_of_getElem?
def XQ:=@decide_eq_true
def XR:=@List.not_mem_nil
def XS:=@Nat.not_lt_zero
def XT:=@List.mem_cons_self
def XU:=@Nat.ne_of_lt
def XW:=@List.mem_singleton
def XX:=@Int.toNat_natCast
def XY:=@Nat.zero_le
def XZ:=@List.mem_append
def X5:=@List.mem_map
def X6:=@Nat.mul_le_mul
def X7:=@Nat.lt_succ_of_lt
def X8:=@List.mem_iff_getElem
def X9:=@Bool.and_eq_true
def X_:=@Nat.lt_succ_self
def Yb:=@PySem.W.mg_none_of
def Yc:=@PySem.mem_of_lookup
def Yd:=@PySem.wpAny_field
def Ye:=@List.map_cons
def Yg:=@List.getElem?_append_right
def Yh:=@Int.fdiv_eq_ediv_of_nonneg
def Yi:=@List.all_eq_true
def Yj:=@PySem.Heap.size_push
def Yk:=@List.map_map
def Yl:=@Int.mul_zero
def Ym:=@Int.natAbs_mul
def Yn:=@List.length_append
def Yo:=@PySem.wpAny_setField_rec
def Yp:=@List.replicate_succ
def Yq:=@Option.some.inj
def Yr:=@List.lookup_cons
def Ys:=@PySem.wpAny_seqItems
def Yt:=@not_false_eq_true
def Yu:=@List.take_of_length_le
def Yv:=@Int.fmod_nonneg_of_pos
def Yw:=@Bool.false_ne_true
def Yx:=@List.length_take
def Yy:=@List.getElem_mem
def Yz:=@PySem.wpAny_callSpecial?_slot
def YA:=@Nat.pow_succ
def YB:=@List.mem_append_left
def YC:=@List.length_drop
def YD:=@Int.add_zero
def YE:=@PyProof.Rows.callWith_type1
def YF:=@PyProof.Rows.slot_tuple_getitem
def YG:=@Int.fmod_lt_of_pos
def YH:=@Nat.le_of_lt
def YI:=@PySem.W.kia_one
def YJ:=@List.getElem?_cons_succ
def YK:=@Nat.mul_le_mul_right
def YL:=@Nat.lt_irrefl
def YM:=@List.mem_range
def YN:=@PySem.wpAny_truthy_bool
def YO:=@List.flatten_cons
def YQ:=@congrArg
def YR:=@PySem.Heap.SameBut.update
def YS:=@List.map_append
def YT:=@PySem.wpAny_call_entry
def YU:=@Nat.succ_mul
def YV:=@Nat.mul_comm
def YW:=@Int.mul_assoc
def YX:=@Int.natAbs_neg
def YY:=@List.length_eq_zero_iff
def YZ:=@List.append_nil
def Y0:=@Nat.ne_of_gt
def Y1:=@List.range_succ_eq_map
def Y2:=@List.drop_of_length_le
def Y3:=@PySem.wpAny_mono
def Y4:=@PySem.wpAny_onRaise
def Y5:=@List.mem_or_eq_of_mem_set
def Y6:=@Classical.byContradiction
def Y7:=@Nat.pow_add
def Y8:=@List.getElem?_take_of_lt
def Y9:=@PySem.F.slot_zip_next
def Y_:=@Int.mul_comm
def Za:=@Int.mul_ne_zero
def Zb:=@Int.mul_le_mul_of_nonneg_left
def Zc:=@beq_eq_false_iff_ne
def Zd:=@List.map_congr_left
def Ze:=@Nat.le_add_right
def Zf:=@List.getElem_map
def Zg:=@PySem.sizeLine_eq
def Zh:=@beq_iff_eq
def Zi:=@PySem.W.cellsFrom_some
def Zj:=@List.drop_eq_nil_of_le
def Zk:=@PySem.wpAny_Call_Name_kw
def Zl:=@Int.zero_mul
def Zm:=@PySem.wpAny_passesOwn
def Zn:=@List.nodup_cons
def Zo:=@List.length_nil
def Zp:=@PySem.F.slot_tuple_iterator_next
def Zq:=@and_true
def Zr:=@PySem.wpAny_newObj_type
def Zs:=@decide_eq_true_eq
def Zt:=@PySem.wpAny_letGo
def Zu:=@Int.one_mul
def Zv:=@Int.neg_mul
def Zw:=@Nat.mul_one
def Zx:=@Nat.one_mul
def Zy:=@Option.isSome_iff_exists
def Zz:=@Nat.le_of_not_lt
def ZA:=@or_false
def ZC:=@Nat.lt_or_ge
def ZD:=@List.map_set
def ZE:=@Array.length_toList
def ZF:=@Nat.mul_le_mul_left
def ZG:=@PySem.wpAny_holding
def ZH:=@if_true
def ZI:=@List.all_cons
def ZJ:=@List.sum_cons
def ZK:=@Bool.false_eq_true
def ZL:=@Option.map_some
def ZM:=@PySem.wpAny_pyIter_tuple
def ZN:=@PySem.wpAny_rule
def ZO:=@Nat.one_le_two_pow
def ZP:=@of_decide_eq_false
def ZQ:=@Nat.pow_pos
def ZR:=@List.append_assoc
def ZS:=@List.length_range
def ZT:=@Nat.sub_self
def ZU:=@List.getElem?_eq_none
def ZV:=@not_or
def ZW:=@Int.zero_add
def ZX:=@Int.ne_of_gt
def ZY:=@if_false
def ZZ:=@PySem.call_meets
def Z0:=@List.length_dropLast
def Z_:=@PySem.F.slot_tuple_mul
def aaa:=@decide_eq_decide
def aab:=@List.mem_of_mem_take
def aac:=@PySem.wpAny_attempt
def aad:=@Nat.mul_assoc
def aae:=@PySem.W.mg_of
def aaf:=@Nat.add_mul
def aag:=@List.filterMap_cons
def aah:=@List.getElem?_range
def aai:=@List.forIn_cons
def aaj:=@PyProof.Rows.get?_update_seq
def aak:=@Nat.min_eq_left
def aal:=@List.range_succ
def aam:=@List.mem_filterMap
def aan:=@PySem.F.args_tuple_add_2
def aao:=@Nat.zero_add
def aap:=@Nat.lt_trans
def aaq:=@Int.natCast_nonneg
def aar:=@Int.sub_eq_add_neg
def aas:=@List.forIn_nil
def aat:=@List.getElem?_replicate
def aau:=@PySem.F.entry_tuple_add
def aav:=@Nat.le_mul_of_pos_right
def aaw:=@PySem.W.kitx_list
def aax:=@PySem.W.kitx_dict
def aay:=@PySem.wpAny_pyIter_list
def aaz:=@PySem.F.args_zip_next_1
def aaA:=@List.pairwise_map
def aaB:=@of_decide_eq_true
def aaC:=@PySem.F.slot_tuple_add
def aaD:=@Int.le_ediv_iff_mul_le
def aaE:=@beq_self_eq_true
def aaF:=@List.zipIdx_cons
def aaG:=@PySem.F.entry_zip_next
def aaH:=@PySem.wpAny_pyIter_zip
def aaI:=@Nat.min_eq_right
def aaJ:=@PySem.Heap.get?_update_self
def aaK:=@List.length_singleton
def aaL:=@Int.mul_fdiv_add_fmod
def aaM:=@PySem.wpAny_execs_nil
def aaN:=@Bool.eq_iff_iff
def aaO:=@List.of_mem_zip
def aaP:=@PySem.F.slot_int_rmul
def aaQ:=@PySem.wpAny_ite_false
def aaR:=@bne_iff_ne
def aaS:=@Bool.or_eq_true
def aaT:=@List.zipIdx_nil
def aaU:=@PySem.wpAny_updateSeq_pair
def aaV:=@List.cons.injEq
def aaW:=@Bool.and_eq_true_iff
def aaX:=@Rat.intCast_inj
def aaY:=@Int.mul_le_mul_of_nonpos_left
def aaZ:=@PySem.W.plainGet_of
def aa0:=@List.mem_map_of_mem
def aa1:=@PySem.F.args_tuple_iterator_next_1
def aa2:=@Int.le_refl
def aa3:=@PySem.W.callWith_K
def aa4:=@PySem.F.args_tuple_mul_2
def aa5:=@PySem.F.entry_tuple_iterator_next
def aa6:=@List.pairwise_cons
def aa7:=@Nat.lt_or_gt_of_ne
def aa8:=@List.getElem_range
def aa9:=@PySem.Calls.Name_function_global
def aa_:=@PySem.wpAny_standAt
def aba:=@PyProof.Rows.listUpdate_at
def abb:=@List.cons.inj
def abc:=@List.map_take
def abd:=@List.perm_append_singleton
def abe:=@Nat.le_of_succ_le
def abf:=@PySem.F.entry_tuple_mul
def abg:=@Nat.le_of_lt_succ
def abh:=@Nat.mul_left_comm
def abi:=@Nat.lt_trichotomy
def abj:=@PySem.typeIs_int
def abk:=@PySem.wpAny_binaryOp_repeat_ref
def abl:=@List.getElem?_eq_none_iff
def abm:=@PySem.wpAny_letOwnedTupleGo_zip
def abn:=@Int.natAbs_ediv_le_natAbs
def abo:=@Nat.le_of_eq
def abp:=@PySem.codeAny_mono
def abq:=@PySem.noFill_tuple_add
def abr:=@Nat.min_le_right
def abt:=@PyProof.noPylong_of_log2
def abu:=@PySem.Around.in1_units
def abv:=@PySem.wpAny_isInstance
def abw:=@Nat.zero_mul
def abx:=@Nat.succ_lt_succ
def aby:=@Int.mul_fdiv_cancel_left
def abz:=@Nat.sub_zero
def abA:=@PySem.F.plainAttrs_list
def abB:=@List.getElem?_cons_zero
def abC:=@Nat.min_le_left
def abD:=@beq_false_of_ne
def abE:=@Nat.le_antisymm
def abF:=@Rat.intCast_add
def abG:=@Rat.intCast_mul
def abH:=@PySem.seqIndex_of
def abI:=@Prod.mk.inj
def abJ:=@Nat.le_mul_of_pos_left
def abK:=@List.pairwise_lt_range
def abL:=@PySem.W.methodCall_KW
def abM:=@Bool.and_false
def abN:=@PySem.wpAny_newTuple
def abO:=@PySem.isSubtype_stop
def abP:=@List.contains_iff_mem
def abQ:=@Nat.add_le_add
def abR:=@Rat.divInt_mul_divInt
def abS:=@List.count_set
def abT:=@List.set_append_right
def abU:=@List.filterMap_append
def abV:=@List.drop_zero
def abW:=@List.Perm.refl
def abX:=@Bool.and_true
def abY:=@Prod.mk.injEq
def abZ:=@Int.add_assoc
def ab0:=@List.map_drop
def ab1:=@Nat.min_self
def ab2:=@Int.le_of_lt
def ab3:=@Nat.gcd_comm
def ab4:=@Nat.add_zero
namespace L2
open PySem PySem.Spec PyProof.Rows
abbrev Key:=Sum Int Str
def NY:Key->Value->Bool
 | .inl k,v=>Value.isInt k v
 | .inr x,v=>Value.isStrOf x v
def WI(w:World):Key->Int
 | .inl k=>hashInt k
 | .inr x=>hashStr w x
def fN:∀ {k:Key} {v:Value},NY k v=true->(∃i t,k=Sum.inl i/\v=Value.int i t)\/(∃x t,k=Sum.inr x/\v=Value.str x t)
 | .inl i,v,h=>by
   obtain⟨t,e⟩:=Value.isInt_shape (k:=i) (v:=v) h;show .inl ⟨i,t,rfl,e⟩
 | .inr x,v,h=>by
   obtain⟨t,e⟩:=Value.isStrOf_shape (x:=x) (v:=v) h;show .inr ⟨x,t,rfl,e⟩
def S9(a b:Int):decide ((Sum.inl a:Key)=Sum.inl b)=(a==b):=by
 by_cases e:a=b
 . subst e;simp
 . have h:¬(Sum.inl a:Key)=Sum.inl b:=λq=>e (Sum.inl.inj q);rw[XG h];show(Zc.mpr e).symm
def Tc(a b:Str):decide ((Sum.inr a:Key)=Sum.inr b)=decide (a=b):=by
 by_cases e:a=b
 . subst e;simp
 . have h:¬(Sum.inr a:Key)=Sum.inr b:=λq=>e (Sum.inr.inj q);rw[XG h,XG e]
def Q6(a:Int)(b:Str):decide ((Sum.inl a:Key)=Sum.inr b)=false:=XG (λq=>nomatch q)
def Ra(a:Str)(b:Int):decide ((Sum.inr a:Key)=Sum.inl b)=false:=XG (λq=>nomatch q)
def F4(prog:Program)(w:World):PySem.KeyKind prog w Key where
 is:=NY
 hash:=WI w
 inj:=λv a b g d=>by
  rcases fN g with⟨i,t,rfl,rfl⟩|⟨x,t,rfl,rfl⟩
  . rcases fN d with⟨j,u,rfl,e⟩|⟨y,u,rfl,e⟩
    . injection e with e1 _;rw[e1]
    . show nomatch e
  . rcases fN d with⟨j,u,rfl,e⟩|⟨y,u,rfl,e⟩
    . show nomatch e
    . injection e with e1 _;rw[e1]
 byValue:=λk v h=>by
  rcases fN h with⟨i,t,rfl,rfl⟩|⟨x,t,rfl,rfl⟩<;>rfl
 pyHash:=λc h=>by
  rcases fN c with⟨i,t,rfl,rfl⟩|⟨x,t,rfl,rfl⟩
  . show wpAny_pyHash_int h
  . show wpAny_pyHash_str h
 eqBool:=λf c h=>by
  rcases fN f with⟨i,t,rfl,rfl⟩|⟨x,t,rfl,rfl⟩
  . rcases fN c with⟨j,u,rfl,rfl⟩|⟨y,u,rfl,rfl⟩
    . rw[S9]at h;show wpAny_eqBool_int h
    . rw[Q6]at h;show SeqAt.EqAt.int_str i t y u _ _ _ _ h
  . rcases fN c with⟨j,u,rfl,rfl⟩|⟨y,u,rfl,rfl⟩
    . rw[Ra]at h;show SeqAt.EqAt.str_int x t j u _ _ _ _ h
    . rw[Tc]at h;show wpAny_eqBool_str h
 «strs» :=λk x t v h=>by
  rcases fN h with⟨i,u,rfl,e⟩|⟨y,u,rfl,e⟩
  . show nomatch e
  . injection e with e1 _;subst e1;cases v<;>rfl
inductive V where
 |au|bl (b:Bool)|int (i:Int)|str (x:Str)|wJ (b:Array UInt8)|wR (b:UInt64)|ref (a:Addr)|ty (n:String)
 deriving DecidableEq
def RelV:V->Value->Prop
 | .au,u=>u=Value.none
 | .bl b,u=>u=Value.bool b
 | .int i,u=>∃t,u=Value.int i t
 | .str x,u=>∃t,u=Value.str x t
 | .wJ b,u=>∃t,u=Value.bytes b t
 | .wR b,u=>∃t,u=Value.float b t
 | .ref a,u=>u=Value.ref a
 | .ty n,u=>u=Value.type n
abbrev Vals:List V->List Value->Prop:=Paired RelV
def Vals.length{a:List V}{us:List Value}(r:Vals a us):a.length=us.length:=Paired.length r
def Vals.get:∀ {a:List V} {us:List Value} {i:Nat} {x:V},Vals a us->a[i]?=some x->∃u,us[i]?=some u/\RelV x u
 |_,_,_,_,.nil,e=>by simp at e
 |_,_,0,_,.cons r _,e=>by simp at e;subst e;show⟨_,rfl,r⟩
 |_,_,i+1,x,.cons _ t,e=>by
  obtain⟨u,c,b⟩:=Vals.get (i:=i) (x:=x) t (by simpa using e);show⟨u,by simpa using c,b⟩
def Vals.set(r:RelV x u):∀ {a:List V} {us:List Value} (i:Nat),Vals a us->Vals (a.set i x) (us.set i u)
 |_,_,_,.nil=> .nil
 |_,_,0,.cons _ t=> .cons r t
 |_,_,i+1,.cons q t=> .cons q (Vals.set r i t)
def Vals.append:∀ {a ys:List V} {us ws:List Value},Vals a us->Vals ys ws->Vals (a++ys) (us++ws)
 |_,_,_,_,.nil,s=>s
 |_,_,_,_,.cons r t,s=> .cons r (Vals.append t s)
def Vals.take:∀ {a:List V} {us:List Value} (n:Nat),Vals a us->Vals (a.take n) (us.take n)
 |_,_,0,_=> .nil
 |_,_,_+1,.nil=> .nil
 |_,_,n+1,.cons r t=> .cons r (Vals.take n t)
def Vals.drop:∀ {a:List V} {us:List Value} (n:Nat),Vals a us->Vals (a.drop n) (us.drop n)
 |_,_,0,r=>r
 |_,_,_+1,.nil=> .nil
 |_,_,n+1,.cons _ t=>Vals.drop n t
def rY:Option V->Option Value->Prop
 |some v,some u=>RelV v u
 |none,none=>True
 |_,_=>False
def KV{κ:Type}:List (κ×V)->List (κ×Value)->Prop:=Paired λ(p:κ×V) (q:κ×Value)=>p.1=q.1/\RelV p.2 q.2
def kV:Key->V
 | .inl i=> .int i
 | .inr x=> .str x
inductive HO where
 |lst (xs:List V)
 |tup (xs:List V)
 |dK (kvs:List (Key×V))|dT (kvs:List (List Key×V))
 |set (S:Int->Bool) (n:Nat)
 |ins (C dx:Addr) (fs:List (Str×V))
 |own (x:Addr)
 |xd (fs:List (Str×V))
 |met (f x:Addr)
 |RU (lo hi:Int)
 |iG (o:Obj) (u:HO)
 |mQ (ps:Array Value)
 |ext (φ:Heap->Prop)
abbrev Hp:=Addr->Option HO
def upd(H:Hp)(a:Addr)(o:HO):Hp:=λb=>if b=a then some o else H b
def a_:upd H a o a=some o:=by unfold upd;rw[Xr rfl]
def aD(h:b≠a):upd H a o b=H b:=by unfold upd;rw[Xn h]
def OR:upd (upd H a o) a u=upd H a u:=by
 funext b;unfold upd;split<;>rfl
def eA{H:Hp}{a b:Addr}{o:HO}(h:H a=some o)(h':H b=none):a≠b:=by
 intro e;subst e;rw[h]at h';cases h'
section
variable (P:Program)(w:World)
def d_(H:Hp)(h:Heap)(a:Addr):HO->Prop
 | .lst c=>c.length<=sizeLine/\∃(e:List Value) (n:Nat),Vals c e/\h.get? a=some {cls:= .type "list",data:= .seq e.toArray n}
 | .tup c=>c.length<=sizeLine/\∃e:List Value,Vals c e/\IsTup h a e.toArray
 | .dK b=>b.length<=sizeLine/\(a==sysModules)=false/\∃i,KV b i/\h.DictOf (F4 P w) a i
 | .dT b=>b.length<=sizeLine/\(a==sysModules)=false/\∃c:List (List Key×Addr×Value),
    Paired (λ(p:List Key×V) (q:List Key×Addr×Value)=>p.1=q.1/\H q.2.1=some (.tup (p.1.map kV))/\RelV p.2 q.2.2) b c/\
    ∃o l y,h.get? a=some o/\o.ExactDict/\o.data= .dict l y/\l.toList=c.map (entryOfKey (tupleKind (F4 P w)))/\(c.map (·.1)).Nodup
 | .set S n=>h.SetOf (intKind P w) a S n
 | .ins C g fs=>H g=some (.own a)/\fs.length<=1000/\g≠a/\h.get? a=some (PySem.W.instObj C g)/\
    ∃d,h.Ns1 g d/\(∀f,rY (fs.lookup f) (d f))/\PySem.Within d (fs.map (·.1))
 | .own _=>∃o,h.get? a=some o
 | .xd fs=>∃d,h.Ns1 a d/\∀f,rY (fs.lookup f) (d f)
 | .RU r s=>∃t u v,h.get? a=some {cls:= .type "range",data:= .fields #[.int r t,.int s u,.int 1 v]}
 | .iG o u=>h.get? a=some o/\d_ H h a u
 | .mQ m=>h.get? a=some {cls:= .none,data:= .fields m}
 | .met f x=>h.get? a=some (PySem.W.methodObj (.ref f) (.ref x))
 | .ext φ=>φ h/\(∃o,h.get? a=some o)/\∀k j:Heap,φ k->(∀o,k.get? a=some o->j.get? a=some o)->φ j
def jz(H:Hp)(h:Heap):Prop:=∀a o,H a=some o->d_ P w H h a o
end
section
variable {P:Program}{w:World}{H H':Hp}{h h':Heap}{a:Addr}{o:HO}
def d_.lt(x:d_ P w H h a o):a<h.objs.size:=by
 cases o with
 |lst c=>obtain⟨_,_,_,_,e⟩:=x;show XC e
 |tup c=>obtain⟨_,_,_,p⟩:=x;show p.lt
 |dK b=>obtain⟨_,_,_,_,o,_,_,e,_⟩:=x;show XC e
 |dT b=>obtain⟨_,_,_,_,o,_,_,e,_⟩:=x;show XC e
 |set S n=>obtain⟨o,_,_,_,e,_⟩:=x;show XC e
 |ins C k fs=>obtain⟨_,_,_,e,_⟩:=x;show XC e
 |own y=>obtain⟨_,e⟩:=x;show XC e
 |xd fs=>obtain⟨_,⟨_,_,_,e,_⟩,_⟩:=x;show XC e
 |RU i j=>obtain⟨_,_,_,e⟩:=x;show XC e
 |iG g u=>obtain⟨e,_⟩:=x;show XC e
 |mQ d=>show XC (show h.get? a=some _ from x)
 |met f y=>show XC (show h.get? a=some _ from x)
 |ext φ=>obtain⟨_,⟨_,e⟩,_⟩:=x;show XC e
def Paired.LZ{α β:Type}{F G:α->β->Prop}:∀ {c:List α} {l₂:List β},Paired F c l₂->(∀a b,F a b->G a b)->Paired G c l₂
 |_,_,.nil,_=> .nil
 |_,_,.cons r t,f=> .cons (f _ _ r) (Paired.LZ t f)
def d_.rT(x:d_ P w H h a o)(k:∀b u,(b=a\/H b=some (.own a))->h.get? b=some u->h'.get? b=some u)
 (K:∀b,H b=some (.own a)->H' b=some (.own a)) (J:∀b l,H b=some (.tup l)->H' b=some (.tup l)):d_ P w H' h' a o:=by
 induction o with
 |lst l=>obtain⟨z,B,n,r,e⟩:=x;show⟨z,B,n,r,k _ _ (.inl rfl) e⟩
 |tup l=>obtain⟨z,B,r,g,e,c⟩:=x;show⟨z,B,r,g,k _ _ (.inl rfl) e,c⟩
 |dK A=>obtain⟨z,y,F,r,g,i,j,e,c⟩:=x;show⟨z,y,F,r,g,i,j,k _ _ (.inl rfl) e,c⟩
 |dT A=>
  obtain⟨z,y,l,r,g,i,j,e,c⟩:=x;show⟨z,y,l,Paired.LZ r λp q z=>⟨z.1,J _ _ z.2.1,z.2.2⟩,g,i,j,k _ _ (.inl rfl) e,c⟩
 |set S n=>obtain⟨g,i,j,t,e,c⟩:=x;show⟨g,i,j,t,k _ _ (.inl rfl) e,c⟩
 |ins C O fs=>
  obtain⟨d,z,G,e,s,⟨m,i,j,L,c⟩,r⟩:=x;show⟨K _ d,z,G,k _ _ (.inl rfl) e,s,⟨m,i,j,k _ _ (.inr d) L,c⟩,r⟩
 |own y=>obtain⟨g,e⟩:=x;show⟨g,k _ _ (.inl rfl) e⟩
 |xd fs=>obtain⟨s,⟨m,i,j,e,c⟩,r⟩:=x;show⟨s,⟨m,i,j,k _ _ (.inl rfl) e,c⟩,r⟩
 |RU M N=>obtain⟨t,u,v,e⟩:=x;show⟨t,u,v,k _ _ (.inl rfl) e⟩
 |iG g u I=>obtain⟨e,q⟩:=x;show⟨k _ _ (.inl rfl) e,I q⟩
 |mQ E=>
  have e:h.get? a=some {cls:= .none,data:= .fields E}:=x;change h'.get? a=some {cls:= .none,data:= .fields E};show k a _ (.inl rfl) e
 |met f y=>
  have e:h.get? a=some (PySem.W.methodObj (.ref f) (.ref y)):=x;change h'.get? a=some (PySem.W.methodObj (.ref f) (.ref y));show k a _ (.inl rfl) e
 |ext φ=>obtain⟨p,⟨o,e⟩,D⟩:=x;show⟨D _ _ p λo q=>k _ _ (.inl rfl) q,⟨o,k _ _ (.inl rfl) e⟩,D⟩
def jz.lt(x:jz P w H h)(e:H a=some o):a<h.objs.size:=(x a o e).lt
def jz.fresh(x:jz P w H h)(e:h.objs.size<=a):H a=none:=by
 cases q:H a with
 |none=>rfl
 |some u=>show absurd (XF (x.lt q) e) (YL _)
def jz.kept(x:jz P w H h)(k:∀b u,h.get? b=some u->h'.get? b=some u):jz P w H h':=λa o e=>
 (x a o e).rT (λb u _ q=>k b u q) (λ_ q=>q) λ_ _ q=>q
def jz.laid(x:jz P w H h)(k:∀b u,h.get? b=some u->h'.get? b=some u)(g:h.objs.size<=a)(new:d_ P w (upd H a o) h' a o):jz P w (upd H a o) h':=λb u e=>by
 let d:=x.fresh g;by_cases f:b=a
 . subst f;rw[a_]at e;cases e;show new
 . rw[aD f]at e;show(x b u e).rT (λc v _ q=>k c v q) (λc q=>by rw[aD (eA q d)];show q) λc i q=>by rw[aD (eA q d)];show q
end
def Rd(H:Hp)(a:Addr)(u:HO):Prop:=H a=some u\/∃o,H a=some (.iG o u)
def Rd.of(h:H a=some u):Rd H a u:= .inl h
def Rd.ok(r:Rd H a u)(x:jz P w H h):d_ P w H h a u:=by
 rcases r with r|⟨o,r⟩
 . show x a u r
 . obtain⟨_,q⟩:=x a _ r;show q
def NM:Option HO->Prop
 |some (.lst _)=>True
 |some (.dK _)=>True
 |some (.dT _)=>True
 |some (.set _ _)=>True
 |some (.ins _ _ _)=>True
 |some (.ext _)=>True
 |_=>False
section
variable {P:Program}{w:World}{H:Hp}{h h':Heap}{x e:Addr}{o':HO}
def jz.write(ok:jz P w H h)(mu:NM (H x))(n:e=x\/H e=some (.own x))(k:∀b u,b≠e->h.get? b=some u->h'.get? b=some u)(l:∃u,h'.get? e=some u)
 (new:d_ P w (upd H x o') h' x o'):jz P w (upd H x o') h':=λb u q=>by
 let d:∀c y,H c=some (.own y)->c≠x:=λc y r z=>by subst z;rw[r]at mu;show mu
 let f:∀c g,H c=some (.tup g)->c≠x:=λc g r z=>by subst z;rw[r]at mu;show mu
 by_cases j:b=x
 . subst j;rw[a_]at q;cases q;show new
 . rw[aD j]at q;by_cases a:b=e
   . have m:H b=some (.own x):=by
      rcases n with z|z
      . show absurd (a.trans z) j
      . rw[a];show z
     rw[q]at m;cases m;obtain⟨v,o⟩:=l;show⟨v,by rw[a];show o⟩
   . show(ok b u q).rT (λc v i r=>k c v ?_ r) (λc r=>by rw[aD (d c b r)];show r) λc g r=>by rw[aD (f c g r)];show r
     rcases i with rfl|i
     . show a
     . rintro rfl;rcases n with z|z
       . show d c b i z
       . rw[i]at z;cases z;show j rfl
end
structure Un(fs ex:List Addr)(H H':Hp)(h h':Heap):Prop where
 keep:∀b o,h.get? b=some o->H b=none->b∉fs->b∉ex->h'.get? b=some o
 slot:∀b o,h.get? b=some o->H b=none->b∈fs->b∉ex->∃sl,h'.get? b=some {o with slots:=sl}
 free:∀b o,h.get? b=some o->H b=none->b∉ex->H' b=none
 there:∀b o,h.get? b=some o->b∉ex->∃o',h'.get? b=some o'
 rh:∀b xs,H b=some (.tup xs)->H' b=some (.tup xs)
 qB:∀b o u,H b=some (.iG o u)->H' b=some (.iG o u)
 pV:∀b ps,H b=some (.mQ ps)->∃more,H' b=some (.mQ (ps++more))
section
variable {fs fs' ex ex':List Addr}{H H1 H2:Hp}{h h1 h2 h':Heap}{a x e:Addr}{o:HO}
def Un.any(u:Un fs ex H H1 h h1)(q:h.get? b=some c)(n:H b=none)(d:b∉ex):∃g,h1.get? b=some {c with slots:=g}:=by
 by_cases f:b∈fs
 . show u.slot b c q n f d
 . show⟨c.slots,u.keep b c q n f d⟩
def Un.kept(k:∀b u,h.get? b=some u->h'.get? b=some u):Un fs ex H H h h':=
 ⟨λb c q _ _ _=>k b c q,λb c q _ _ _=>⟨c.slots,k b c q⟩,λ_ _ _ n _=>n,λb c q _=>⟨c,k b c q⟩,λ_ _ q=>q,λ_ _ _ q=>q,λ_ d q=>⟨#[],by rw[q];simp⟩⟩
def Un.refl:Un fs ex H H h h:=Un.kept λ_ _ q=>q
def Un.laid(k:∀b u,h.get? b=some u->h'.get? b=some u)(f:h.objs.size<=a)(c:H a=none):Un fs ex H (upd H a o) h h' where
 keep:=λb u q _ _ _=>k b u q
 slot:=λb u q _ _ _=>⟨u.slots,k b u q⟩
 free:=λb u q n _=>by rw[aD (XU (XF (XC q) f))];show n
 there:=λb u q _=>⟨u,k b u q⟩
 rh:=λb d q=>by rw[aD (eA q c)];show q
 qB:=λb u d q=>by rw[aD (eA q c)];show q
 pV:=λb g q=>⟨#[],by rw[aD (eA q c),q];simp⟩
def Un.write(mu:NM (H x))(l:e=x\/H e=some (.own x))(k:∀b u,b≠e->h.get? b=some u->h'.get? b=some u)(f:∃u,h'.get? e=some u):Un fs ex H (upd H x o) h h':=by
 let g:∀b,H b=none->b≠x:=λb n z=>by subst z;rw[n]at mu;show mu
 let i:∀b,H b=none->b≠e:=λb n z=>by
  subst z;rcases l with r|r
  . show g b n r
  . rw[n]at r;cases r
 let d:∀b u,H b=some u->¬NM (some u)->b≠x:=λb u q nm z=>by subst z;rw[q]at mu;show nm mu
 show⟨λb u q n _ _=>k b u (i b n) q,λb u q n _ _=>⟨u.slots,k b u (i b n) q⟩,λb u q n _=>by rw[aD (g b n)];show n,λb u q _=>?_,
  λb j q=>by rw[aD (d b _ q λz=>z)];show q,λb u j q=>by rw[aD (d b _ q λz=>z)];show q,λb m q=>⟨#[],by rw[aD (d b _ q λz=>z),q];simp⟩⟩
 by_cases c:b=e
 . subst c;show f
 . show⟨u,k b u c q⟩
end
def N4(h:Heap)(H:Hp):List Addr:=(List.range h.objs.size).filter λa=>(H a).isSome
def rG(h:Heap)(H:Hp):Heap:=PySem.W.hideAll h (N4 h H)
def II(h:Heap)(H:Hp):(rG h H).objs.size=h.objs.size:=PySem.W.hideAll_size _ _
def tj{h:Heap}(e:h.get? b=some o)(n:H b=none):(rG h H).get? b=some o:=
 PySem.W.hideAll_get _ e λa=>by
  let q:(H b).isSome=true:=(List.mem_filter.mp a).2;rw[n]at q;simp at q
def Qs{h:Heap}(e:(rG h H).get? b=some o):h.get? b=some o/\H b=none:=by
 let a:h.get? b=some o:=PySem.W.of_hideAll (N4 h H) e;show⟨a,?_⟩;cases q:H b with
 |none=>rfl
 |some x=>
  have c:b∈N4 h H:=List.mem_filter.mpr ⟨YM.mpr (XC a),by simp[q]⟩;let z:(rG h H).get? b=none:=PySem.W.hideAll_none (N4 h H) c;rw[z]at e;cases e
def PM(g h:Heap)(L:Addr):List (Addr×Obj):=(List.range h.objs.size).filterMap λa=>if a=L\/(g.get? a).isSome=true then none else(h.get? a).map λo=>(a,o)
def rest(g h:Heap)(L d:Addr):List (Addr×Obj):=(PM g h L).filter λp=>decide (p.1≠d)
structure Mod(K:PySem.W.Frag)(mg:Str->Option Value)(base:Heap):Prop where
 KC:K.In base
 glob:base.Ns mainGlobals mg
 blt:∃mb,base.Ns builtinsNs mb/\∀x:Str,x≠"__name__"->mb x=bootBuiltins x
 nolimit:base.NoLimit
 seer:base.NoSeer
 bmain:∃bm ob,mg "__builtins__"=some (.ref bm)/\bm≠builtinsNs/\base.get? bm=some ob/\ob.cls= .type "module"/\ob.dict=some builtinsNs/\ob.data= .plain
structure Cx where
 prog:Program
 w:World
 K:PySem.W.Frag
 mg:Str->Option Value
 base:Heap
 A:Around
 N:List Str
 s₀:Shared
 H₀:Hp
 env:Env
 outer:List Env
 stack:List Env
 ex:List Addr
 fn:Str->Bool
 calm:Bool
 pn:List (Addr×Obj)
 xe:Value->Shared->Prop
def sj(l:List Env):List Addr:=l.filterMap (·.frame)
abbrev Cx.fs(X:Cx):List Addr:=sj X.outer
def CT(a:Scope)(x:Str):Prop:=a.names.lookup x=some .local\/a.names.lookup x=some .cell\/a.names.lookup x=some .free
def Loc(a:Scope)(x:Str):Prop:=a.names.lookup x=some .local\/a.names.lookup x=some .cell
def Look(env:Env)(h:Heap)(m:Str->Option Value)(x:Str)(u:Value):Prop:=
 (env.kindOf x=some .local/\m x=some u)\/((env.kindOf x=some .cell\/env.kindOf x=some .free)/\∃c,env.cells.lookup x=some c/\h.IsCell c (some u))
structure Cx.Ok(X:Cx):Prop where
 mod:Mod X.K X.mg X.base
 kind:X.env.scope.kind= .function
 glob:X.env.globals=mainGlobals
 blt:X.env.builtins=builtinsNs
 above:X.s₀.heap.objs.size<=X.env.locals
 inj:∀x y c,X.env.cells.lookup x=some c->X.env.cells.lookup y=some c->x=y
 has:∀x,(X.env.kindOf x=some .cell\/X.env.kindOf x=some .free)->∃c,X.env.cells.lookup x=some c
 CC:∀x c,X.fn x=true->X.env.cells.lookup x=some c->X.s₀.heap.objs.size<=c
 hd:X.calm=true->X.A.handled=none
 frames:X.A.frames=some X.stack
 Gr:X.stack=X.outer\/(X.stack=X.env::X.outer/\X.env.frame=some X.env.locals)
 Ja:∀b∈X.ex,b≠X.env.locals/\∀x c,X.env.cells.lookup x=some c->c≠b
 bs:∀b o,X.base.get? b=some o->X.s₀.heap.get? b=some o/\X.H₀ b=none
 vm:X.base.objs.size<=X.s₀.heap.objs.size
 xJ:∀b o,X.base.get? b=some o->b∉X.ex
 xQ:∀b∈X.ex,b∉X.fs
 nv:X.s₀.heap.FunFrames X.base X.outer
 zh:∀b∈X.fs,X.H₀ b=none
 gt:X.prog.given.tree=none
structure Inv(X:Cx)(pins:List (Addr×Obj))(σ:List (Option V))(H:Hp)(s:Shared):Prop where
 ok:X.Ok
 os:s.os=X.s₀.os
 bare:AllBare s.gens
 base:Un X.fs X.ex X.H₀ H X.s₀.heap s.heap
 loc:∃m,s.heap.Ns X.env.locals m/\∀(i:Nat) (x:Str) (v:V),X.N[i]?=some x->σ[i]?=some (some v)->CT X.env.scope x->∃u,RelV v u/\Look X.env s.heap m x u
 cell:∀x c,X.env.cells.lookup x=some c->∃v,s.heap.IsCell c v
 free:H X.env.locals=none
 j5:∀x c,X.env.cells.lookup x=some c->H c=none
 pin:∀p∈X.pn++pins,s.heap.get? p.1=some p.2/\H p.1=none/\p.1≠X.env.locals/\p.1∉X.fs/\∀v,p.2.data≠ .cell v
 aK:jz X.prog X.w H s.heap
 len:σ.length=X.N.length
section
variable {X:Cx}{pins:List (Addr×Obj)}{σ:List (Option V)}{H H':Hp}{s:Shared}{h':Heap}
def Cx.Ok.Wv(ok:X.Ok)(e:X.base.get? b=some o):b∉X.fs:=λa=>by
 let:=(ok.nv.mem a).1;rw[e]at this;cases this
def Inv.bs(I:Inv X pins σ H s):∀b o,X.base.get? b=some o->s.heap.get? b=some o/\H b=none:=λb o e=>
 ⟨I.base.keep b o (I.ok.bs b o e).1 (I.ok.bs b o e).2 (I.ok.Wv e) (I.ok.xJ b o e),I.base.free b o (I.ok.bs b o e).1 (I.ok.bs b o e).2 (I.ok.xJ b o e)⟩
def Inv.bk(I:Inv X pins σ H s):∀b o,X.base.get? b=some o->s.heap.get? b=some o:=λb o e=>(I.bs b o e).1
def Inv.mod(I:Inv X pins σ H s):Mod X.K X.mg X.base:=I.ok.mod
def Inv.iH(I:Inv X pins σ H s):X.K.In s.heap:=I.ok.mod.KC.keeps I.bk
def Inv.nolimit(I:Inv X pins σ H s):s.heap.NoLimit:=I.ok.mod.nolimit.keeps I.bk
def Inv.lt(I:Inv X pins σ H s):X.env.locals<s.heap.objs.size:=let⟨_,hn,_⟩:=I.loc;hn.lt
def Inv.sz(I:Inv X pins σ H s):X.s₀.heap.objs.size<=s.heap.objs.size:=Xu I.ok.above (YH I.lt)
def Inv.Tf(I:Inv X pins σ H s){a:Addr}(h:s.heap.objs.size<=a):a∉X.fs:=λc=>by
 obtain⟨_,o,b,_⟩:=I.ok.nv.mem c;show absurd (XF (XC b) (Xu I.sz h)) (YL _)
def Inv.Dh(I:Inv X pins σ H s):∀x c,X.env.cells.lookup x=some c->c≠X.env.locals:=λx c e z=>by
 obtain⟨v,o,d,f⟩:=I.cell x c e;obtain⟨m,⟨g,h,i,a,b,_⟩,_⟩:=I.loc;rw[z,a]at d;cases d;rw[b]at f;cases f
def Inv.nv(I:Inv X pins σ H s):s.heap.FunFrames X.base X.outer:=by
 let all:∀(l:List Env),(∀b∈sj l,b∈X.fs)->X.s₀.heap.FunFrames X.base l->s.heap.FunFrames X.base l:=by
  intro l;induction l with
  |nil=>intro _ _;trivial
  |cons p r g=>
   intro f k;obtain⟨m,⟨L,o,a,j,i,n⟩,h⟩:=k;let d:L∈X.fs:=f L (by unfold sj;rw[aag,a];show XT);obtain⟨q,e⟩:=I.base.slot L o i (I.ok.zh L d) d λz=>I.ok.xQ L z d;show⟨m,⟨L,_,a,j,e,n⟩,g (λb c=>f b (by unfold sj;rw[aag,a];show XM _ c)) h⟩
 show all X.outer (λ_ c=>c) I.ok.nv
def Inv.stack(I:Inv X pins σ H s):s.heap.FunFrames X.base X.stack:=by
 rcases I.ok.Gr with e|⟨e,b⟩
 . rw[e];show I.nv
 . rw[e];obtain⟨m,a,_⟩:=I.loc;show .cons (by rw[I.ok.kind];decide) b a ?_ I.nv;show Heap.get?_none_of_le (Xu I.ok.vm I.ok.above)
def Inv.Ew(I:Inv X pins σ H s):∀b∈sj X.stack,b∈X.env.locals::X.fs:=λb a=>by
 rcases I.ok.Gr with e|⟨e,c⟩
 . rw[e]at a;show XM _ a
 . rw[e]at a;unfold sj at a;rw[aag,c]at a;show a
def Inv.zm(I:Inv X pins σ H s):∀b∈sj X.stack,H b=none:=λb a=>by
 rcases XJ.mp (I.Ew b a)with e|a
 . rw[e];show I.free
 . obtain⟨_,o,c,_⟩:=I.ok.nv.mem a;show I.base.free b o c (I.ok.zh b a) λz=>I.ok.xQ b z a
def Inv.step{g':Array GenState}{t':Nat}{d':Drawn}{ch:List Addr}(I:Inv X pins σ H s)
 (g:∀b∈ch,(b∈X.ex\/X.s₀.heap.objs.size<=b)/\b≠X.env.locals/\(∀x c,X.env.cells.lookup x=some c->c≠b)/\∀p∈X.pn++pins,p.1≠b)
 (keep:∀b o,b≠X.env.locals->b∉X.fs->b∉ch->s.heap.get? b=some o->H b=none->h'.get? b=some o)
 (slot:∀b o,b≠X.env.locals->b∈X.fs->b∉ch->s.heap.get? b=some o->H b=none->∃F,h'.get? b=some {o with slots:=F}) (free:∀b o,b∉ch->s.heap.get? b=some o->H b=none->H' b=none)
 (there:∀b o,b∉ch->s.heap.get? b=some o->∃o',h'.get? b=some o')
 (rh:∀b t,H b=some (.tup t)->H' b=some (.tup t)) (qB:∀b o u,H b=some (.iG o u)->H' b=some (.iG o u)) (pV:∀b D,H b=some (.mQ D)->∃B,H' b=some (.mQ (D++B)))
 (ns:∀m,s.heap.Ns X.env.locals m->h'.Ns X.env.locals m) (T:jz X.prog X.w H' h') (R:AllBare g'):
 Inv X pins σ H' {s with heap:=h',gens:=g',drawn:=d',toks:=t'}:=by
 let A:∀b o,X.s₀.heap.get? b=some o->b≠X.env.locals:=λb o e=>XU (XF (XC e) I.ok.above)
 let h:∀b o,X.s₀.heap.get? b=some o->b∉X.ex->b∉ch:=λb o e a w=>by
  rcases(g b w).1 with z|z
  . show a z
  . show absurd (XF (XC e) z) (YL _)
 let cellK:∀x c,X.env.cells.lookup x=some c->∀v,s.heap.IsCell c v->h'.IsCell c v:=λx c e v ⟨o,y,G⟩=>by
  let f:c∉ch:=λz=>(g c z).2.2.1 x c e rfl;by_cases M:c∈X.fs
  . obtain⟨F,q⟩:=slot c o (I.Dh x c e) M f y (I.j5 x c e);show⟨_,q,G⟩
  . show⟨o,keep c o (I.Dh x c e) M f y (I.j5 x c e),G⟩
 show⟨I.ok,I.os,R,⟨λb o e n w a=>?_,λb o e n w a=>?_,λb o e n a=>?_,λb o e a=>?_,λb t e=>rh b t (I.base.rh b t e),λb o t e=>qB b o t (I.base.qB b o t e),λb D e=>?_⟩,?_,λx c e=>?_,?_,λx c e=>?_,λp L=>?_,T,I.len⟩
 . show keep b o (A b o e) w (h b o e a) (I.base.keep b o e n w a) (I.base.free b o e n a)
 . obtain⟨F,j⟩:=I.base.slot b o e n w a;obtain⟨E,C⟩:=slot b _ (A b o e) w (h b o e a) j (I.base.free b o e n a);show⟨E,C⟩
 . obtain⟨o',j⟩:=I.base.there b o e a;show free b o' (h b o e a) j (I.base.free b o e n a)
 . obtain⟨o',j⟩:=I.base.there b o e a;show there b o' (h b o e a) j
 . obtain⟨O,j⟩:=I.base.pV b D e;obtain⟨N,C⟩:=pV b _ j;show⟨O++N,by rw[C,Array.append_assoc]⟩
 . obtain⟨m,P,Q⟩:=I.loc;show⟨m,ns m P,λi x v j C S=>?_⟩;obtain⟨u,r,l⟩:=Q i x v j C S;show⟨u,r,?_⟩;rcases l with l|⟨k,c,e,z⟩
   . show .inl l
   . show .inr ⟨k,c,e,cellK x c e _ z⟩
 . obtain⟨v,z⟩:=I.cell x c e;show⟨v,cellK x c e v z⟩
 . obtain⟨m,⟨o,_,_,y,_⟩,_⟩:=I.loc;show free _ o (λz=>(g _ z).2.1 rfl) y I.free
 . obtain⟨v,o,y,G⟩:=I.cell x c e;show free c o (λz=>(g c z).2.2.1 x c e rfl) y (I.j5 x c e)
 . obtain⟨e,n,K,J,d⟩:=I.pin p L;let f:p.1∉ch:=λz=>(g p.1 z).2.2.2 p L rfl;show⟨keep p.1 p.2 K J f e n,free p.1 p.2 f e n,K,J,d⟩
def Inv.un(I:Inv X pins σ H s)(u:Un X.fs [] H H' s.heap h')(k:jz X.prog X.w H' h'):Inv X pins σ H' {s with heap:=h',toks:=t'}:=by
 obtain⟨m,⟨o,t,v,g,r⟩,_⟩:=id I.loc;obtain⟨l,j⟩:=u.any g I.free (by simp)
 show I.step (g':=s.gens) (d':=s.drawn) (ch:=[]) (λ_ z=>nomatch z) (λb o _ c _ e n=>u.keep b o e n c (by simp)) (λb o _ c _ e n=>u.slot b o e n c (by simp)) (λb o _ e n=>u.free b o e n (by simp)) (λb o _ e=>u.there b o e (by simp)) u.rh u.qB u.pV (λq i=>by
  obtain⟨p,d,f,a,h⟩:=i;rw[g]at a;cases a;show⟨_,d,f,j,h⟩) k I.bare
def Inv.call(I:Inv X pins σ H s)(u:Un (sj X.stack) ch H H' s.heap h')(v:jz X.prog X.w H' h')(q:AllBare g')
 (f:∀b∈ch,(b∈X.ex\/X.s₀.heap.objs.size<=b)/\b≠X.env.locals/\(∀x c,X.env.cells.lookup x=some c->c≠b)/\∀p∈X.pn++pins,p.1≠b):
 Inv X pins σ H' {s with heap:=h',gens:=g',drawn:=d',toks:=t'}:=by
 obtain⟨m,⟨o,B,C,j,r⟩,_⟩:=id I.loc;obtain⟨w,g⟩:=u.any j I.free λz=>(f _ z).2.1 rfl
 show I.step (ch:=ch) f (λb o g t a e n=>u.keep b o e n (λz=>(XJ.mp (I.Ew b z)).elim g t) a) (λb o _ _ a e n=>u.any e n a) (λb o a e n=>u.free b o e n a) (λb o a e=>u.there b o e a) u.rh u.qB u.pV (λA l=>by
  obtain⟨y,h,i,d,k⟩:=l;rw[j]at d;cases d;show⟨_,h,i,g,k⟩) v q
def Inv.turned(I:Inv X pins σ H s)(k:∀b o,b≠it->s.heap.get? b=some o->h'.get? b=some o)(h:H it=none)(f:it≠X.env.locals)
 (w:it∈X.ex\/X.s₀.heap.objs.size<=it) (t:∀x c,X.env.cells.lookup x=some c->c≠it) (l:∀p∈X.pn++pins,p.1≠it):Inv X pins σ H {s with heap:=h',toks:=t'}:=by
 let d:∀b u,H b=some u->b≠it:=λb u e z=>by rw[z,h]at e;cases e
 show I.step (g':=s.gens) (d':=s.drawn) (ch:=[it]) (λb j=>?_) (λb o _ _ a e _=>k b o (λz=>a (by simp[z])) e) (λb o _ _ a e _=>⟨o.slots,k b o (λz=>a (by simp[z])) e⟩) (λ_ _ _ _ n=>n)
  (λb o a e=>⟨o,k b o (λz=>a (by simp[z])) e⟩) (λ_ _ e=>e) (λ_ _ _ e=>e) (λb B e=>⟨#[],by rw[e];simp⟩) (λm i=>?_) (λb u e=>?_) I.bare
 . have e:b=it:=by simpa using j
   subst e;show⟨w,f,t,l⟩
 . obtain⟨o,y,A,g,r⟩:=i;show⟨o,y,A,k _ o (Xp f) g,r⟩
 . show(I.aK b u e).rT (λc v a q=>k c v ?_ q) (λ_ q=>q) λ_ _ q=>q;rcases a with z|z
   . rw[z];show d b u e
   . show d c _ z
def Inv.tok(I:Inv X pins σ H s)(t:Nat):Inv X pins σ H {s with toks:=t}:=I.un (h':=s.heap) (t':=t) Un.refl I.aK
def Inv.kept(I:Inv X pins σ H s)(k:∀b u,s.heap.get? b=some u->h'.get? b=some u):Inv X pins σ H {s with heap:=h',toks:=t'}:=I.un (Un.kept k) (I.aK.kept k)
def Inv.laid{a:Addr}{o:HO}{t':Nat}(I:Inv X pins σ H s)(k:∀b u,s.heap.get? b=some u->h'.get? b=some u)(c:s.heap.objs.size<=a)(new:d_ X.prog X.w (upd H a o) h' a o):
 Inv X pins σ (upd H a o) {s with heap:=h',toks:=t'}:=I.un (Un.laid k c (I.aK.fresh c)) (I.aK.laid k c new)
def Inv.write{x e:Addr}(I:Inv X pins σ H s)(mu:NM (H x))(c:e=x\/H e=some (.own x))(k:∀b u,b≠e->s.heap.get? b=some u->h'.get? b=some u)(a:∃u,h'.get? e=some u)
 (new:d_ X.prog X.w (upd H x o) h' x o):Inv X pins σ (upd H x o) {s with heap:=h',toks:=t'}:=I.un (Un.write mu c k a) (I.aK.write mu c k a new)
def Inv.vN(I:Inv X pins σ H s)(h:∀p∈a,s.heap.get? p.1=some p.2/\H p.1=none/\p.1≠X.env.locals/\p.1∉X.fs/\∀v,p.2.data≠ .cell v):Inv X a σ H s:=
 ⟨I.ok,I.os,I.bare,I.base,I.loc,I.cell,I.free,I.j5,λp b=>(XZ.mp b).elim (λz=>I.pin p (YB _ z)) (h p),I.aK,I.len⟩
def CV{N:List Str}(c:N.Nodup){i j:Nat}{x:Str}(a:N[i]?=some x)(b:N[j]?=some x):i=j:=by
 obtain⟨g,e⟩:=Xm.mp a;obtain⟨f,d⟩:=Xm.mp b;show(List.getElem_inj c).mp (e.trans d.symm)
def A_(I:Inv X pins σ H s)(hN:X.N.Nodup)(N:X.N[i]?=some x)(t:Loc X.env.scope x)(r:RelV v u)
 (h:∀s',Inv X pins (σ.set i (some v)) H s'->(∃a,Heap.SameBut a s.heap s'.heap/\(a=X.env.locals\/X.env.cells.lookup x=some a))->Q () s') (hf:X.fn x=true\/X.env.scope.names.lookup x=some .local:=by first|show .inl rfl|show .inr rfl|assumption):wpAny M A (storeName X.env x u) Q E s:=by
 obtain⟨m,hn,hl⟩:=id I.loc;let O:(X.env.scope.kind== .class||(X.env.scope.kind== .module&&X.env.locals != X.env.globals))=false:=by rw[I.ok.kind];rfl
 let L:i<σ.length:=by rw[I.len];show(Xm.mp N).1
 let Dh:=I.Dh
 let tracked:∀ {a:Addr} {h':Heap},(∃o,s.heap.get? a=some o/\H a=none)->Heap.SameBut a s.heap h'->jz X.prog X.w H h':=λ{a h'} ha f b ob e=>by
  obtain⟨_,_,w⟩:=ha;show(I.aK b ob e).rT (λc S l q=>(f.2 c ?_).trans q) (λ_ q=>q) λ_ _ q=>q;rintro rfl;rcases l with rfl|l
  . rw[w]at e;cases e
  . rw[w]at l;cases l
 rcases t with C|C
 . show wpAny_storeName_local C hn (λh' ah f=>?_) O;obtain⟨oL,_,_,ab,_⟩:=id hn;show h _ ⟨I.ok,I.os,I.bare,⟨λb o e n G t=>?_,λb o e n G t=>?_,I.base.free,λb o e t=>?_,I.base.rh,I.base.qB,I.base.pV⟩,⟨_,ah,λj y W g B e3=>?_⟩,λy c e=>?_,I.free,I.j5,λp hp=>?_,tracked ⟨oL,ab,I.free⟩ f,by simpa using I.len⟩ ⟨_,f,.inl rfl⟩
   . show(f.2 b (XU (XF (XC e) I.ok.above))).trans (I.base.keep b o e n G t)
   . obtain⟨Z,g⟩:=I.base.slot b o e n G t;show⟨Z,(f.2 b (XU (XF (XC e) I.ok.above))).trans g⟩
   . obtain⟨o',g⟩:=I.base.there b o e t;show⟨o',(f.2 b (XU (XF (XC e) I.ok.above))).trans g⟩
   . by_cases D:j=i
     . subst D;rw[N]at g;cases g;rw[Xx L]at B;cases B;show⟨u,r,.inl ⟨C,by simp⟩⟩
     . rw[Xq (Xp D)]at B;obtain⟨Y,r',q⟩:=hl j y W g B e3;show⟨Y,r',?_⟩;rcases q with⟨k,e⟩|⟨k,c,e,z⟩
       . show .inl ⟨k,?_⟩;let:y≠x:=λe=>D (CV hN g (e▸N));simp[this,e]
       . show .inr ⟨k,c,e,z.sameBut f (Dh y c e)⟩
   . obtain⟨S,z⟩:=I.cell y c e;show⟨S,z.sameBut f (Dh y c e)⟩
   . obtain⟨e,n,T,nf,d⟩:=I.pin p hp;show⟨(f.2 p.1 T).trans e,n,T,nf,d⟩
 . have F:X.fn x=true:=by
    rcases hf with z|z
    . show z
    . rw[z]at C;cases C
   obtain⟨c,l⟩:=I.ok.has x (.inl C);obtain⟨S,z⟩:=I.cell x c l;show wpAny_storeName_cell I.ok.kind C l z (λh' R f=>?_);obtain⟨oc,K,J⟩:=id z;show h {s with heap:=h'} ⟨I.ok,I.os,I.bare,⟨λb o e n G t=>?_,λb o e n G t=>?_,I.base.free,λb o e t=>?_,I.base.rh,I.base.qB,I.base.pV⟩,⟨m,hn.sameBut f (Xp (Dh x c l)),λj y W g B e3=>?_⟩,λy U e=>?_,I.free,I.j5,λp hp=>?_,tracked ⟨oc,K,I.j5 x c l⟩ f,by simpa using I.len⟩ ⟨c,f,.inr l⟩
   . show(f.2 b (XU (XF (XC e) (I.ok.CC x c F l)))).trans (I.base.keep b o e n G t)
   . obtain⟨Z,g⟩:=I.base.slot b o e n G t;show⟨Z,(f.2 b (XU (XF (XC e) (I.ok.CC x c F l)))).trans g⟩
   . obtain⟨o',g⟩:=I.base.there b o e t;show⟨o',(f.2 b (XU (XF (XC e) (I.ok.CC x c F l)))).trans g⟩
   . by_cases D:j=i
     . subst D;rw[N]at g;cases g;rw[Xx L]at B;cases B;show⟨u,r,.inr ⟨.inl C,c,l,R⟩⟩
     . rw[Xq (Xp D)]at B;obtain⟨Y,r',q⟩:=hl j y W g B e3;show⟨Y,r',?_⟩;rcases q with q|⟨k,U,e,z'⟩
       . show .inl q
       . show .inr ⟨k,U,e,z'.sameBut f ?_⟩;rintro rfl;show D (CV hN g (I.ok.inj _ _ _ e l▸N))
   . by_cases P:U=c
     . subst P;show⟨_,R⟩
     . obtain⟨w2,z2⟩:=I.cell y U e;show⟨w2,z2.sameBut f P⟩
   . obtain⟨e,n,T,nf,d⟩:=I.pin p hp;show⟨(f.2 p.1 ?_).trans e,n,T,nf,d⟩;intro q;rw[q,K]at e;let q':oc=p.2:=Yq e;show d S (by rw[<-q'];show J)
def xT(I:Inv X pins σ H s)(d:X.N.Nodup)(b:X.N[i]?=some x)(a:Loc X.env.scope x)(r:RelV v u)
 (h:∀s',Inv X pins (σ.set i (some v)) H s'->Q () s') (c:X.fn x=true\/X.env.scope.names.lookup x=some .local:=by first|show .inl rfl|show .inr rfl|assumption):wpAny M A (storeName X.env x u) Q E s:=
 A_ I d b a r (λs' e _=>h s' e) c
def Inv.Hb{s':Shared}(I:Inv X pins σ H s)(f:s'.os=s.os)(u:Un (sj X.stack) ch H H' s.heap s'.heap)(h:jz X.prog X.w H' s'.heap)(g:AllBare s'.gens)
 (a:∀b∈ch,(b∈X.ex\/X.s₀.heap.objs.size<=b)/\b≠X.env.locals/\(∀x c,X.env.cells.lookup x=some c->c≠b)/\∀p∈X.pn++pins,p.1≠b):Inv X pins σ H' s':=by
 obtain⟨h',g',d',t',d⟩:=s';let e:d=s.os:=f;subst e;show I.call (g':=g') (t':=t') (d':=d') u h g a
end
abbrev XK:=Value->Option Addr->Hp->Prop
abbrev St:=List (Option V)
abbrev VK:=V->Hp->Prop
abbrev TE:=St->Hp->VK->Prop
abbrev TT:=St->Hp->(Bool->Hp->Prop)->Prop
abbrev TA:=St->Hp->(List V->Hp->Prop)->Prop
structure Ends where
 nx:St->Hp->Prop
 rt:VK
 bk:St->Hp->Prop:=λ_ _=>False
 ct:St->Hp->Prop:=λ_ _=>False
abbrev TS:=Ends->St->Hp->Prop
def EP(X:Cx)(pins:List (Addr×Obj))(σ:St)(Q:VK)(u:Value)(s':Shared):Prop:=∃v a,Inv X pins σ a s'/\RelV v u/\Q v a
def TP(X:Cx)(pins:List (Addr×Obj))(σ:St)(Q:Bool->Hp->Prop)(b:Bool)(s':Shared):Prop:=∃a,Inv X pins σ a s'/\Q b a
def AP(X:Cx)(pins:List (Addr×Obj))(σ:St)(Q:List V->Hp->Prop)(us:List Value)(s':Shared):Prop:=∃a b,Inv X pins σ b s'/\Vals a us/\Q a b
def SP(X:Cx)(pins:List (Addr×Obj))(D:Ends)(f:Flow)(s':Shared):Prop:=
 match f with
 | .next=>∃b a,Inv X pins b a s'/\D.nx b a
 | .brk=>∃b a,Inv X pins b a s'/\D.bk b a
 | .cont=>∃b a,Inv X pins b a s'/\D.ct b a
 | .ret u=>∃v b a,Inv X pins b a s'/\RelV v u/\D.rt v a
def PE(X:Cx)(e:Expr)(t:TE):Prop:=
 ∀(a:List (Addr×Obj)) (s:Shared) (σ:St) (H:Hp) (Q:VK),Inv X a σ H s->t σ H Q->wpAny (model X.prog X.w) X.A (eval e X.env) (EP X a σ Q) X.xe s
def PT(X:Cx)(e:Expr)(t:TT):Prop:=
 ∀(a:List (Addr×Obj)) (s:Shared) (σ:St) (H:Hp) (Q:Bool->Hp->Prop),Inv X a σ H s->t σ H Q->wpAny (model X.prog X.w) X.A (isTrue e X.env (eval e X.env)) (TP X a σ Q) X.xe s
def PW(X:Cx)(e:Expr)(t:TT):Prop:=
 ∀(whole:Sem Value) (pins:List (Addr×Obj)) (s:Shared) (σ:St) (H:Hp) (Q:Bool->Hp->Prop),Inv X pins σ H s->t σ H Q->wpAny (model X.prog X.w) X.A (isTrue e X.env whole) (TP X pins σ Q) X.xe s
def PW.pt{e:Expr}(h:PW X e t):PT X e t:=h _
def PA(X:Cx)(a:List Expr)(t:TA):Prop:=
 ∀(pos:Pos) (pins:List (Addr×Obj)) (s:Shared) (σ:St) (H:Hp) (Q:List V->Hp->Prop),Inv X pins σ H s->t σ H Q->wpAny (model X.prog X.w) X.A (spliced (backTo pos (starEach a X.env))) (AP X pins σ Q) X.xe s
def PS(X:Cx)(st:Stmt)(t:TS):Prop:=
 ∀(a:List (Addr×Obj)) (s:Shared) (σ:St) (H:Hp) (D:Ends),Inv X a σ H s->t D σ H->wpAny (model X.prog X.w) X.A (exec st X.env) (SP X a D) X.xe s
def ja(X:Cx)(st:List Stmt)(t:TS):Prop:=
 ∀(a:List (Addr×Obj)) (s:Shared) (σ:St) (H:Hp) (D:Ends),Inv X a σ H s->t D σ H->wpAny (model X.prog X.w) X.A (execs st X.env) (SP X a D) X.xe s
def cj(h:wpAny M A t Q E s)(c:∀a s,Q a s->b a s):wpAny M A t b E s:=Y3 h c λ_ _ x=>x
section
variable {X:Cx}
def SY(i:Nat):TE:=λσ H Q=>∃v,σ[i]?=some (some v)/\Q v H
def tC(v:V):TE:=λ_ H Q=>Q v H
def Rq{i:Nat}{x:Str}{pos:Pos}(t:X.N[i]?=some x)(n:CT X.env.scope x)(g:(x==("__debug__":Str))=false:=by decide)(j:(x==("__classdict__":Str))=false:=by decide):PE X (.Name x pos) (SY i):=by
 intro f s σ H Q I h;obtain⟨v,e,h⟩:=h;obtain⟨m,o,q⟩:=I.loc;obtain⟨u,r,l⟩:=q i x v t e n;let d:EP X f σ Q u s:=⟨v,H,I,r,h⟩
 rcases l with⟨b,p⟩|⟨b,c,k,a⟩
 . show wpAny_Name (wpAny_loadName_local I.ok.kind b o p d) g
 . rcases b with b|b
   . show wpAny_Name (wpAny_loadName_cell I.ok.kind b k a d) g
   . show wpAny_Name (wpAny_loadName_free I.ok.kind b k a d j) g
def Td{i j pos}:PE X (.Constant (.int i) j pos) (tC (.int i)):=λ_ _ _ H _ I h=>wpAny_Constant_int ⟨.int i,H,I.tok _,⟨_,rfl⟩,h⟩
def UG{b j pos}:PE X (.Constant (.bool b) j pos) (tC (.bl b)):=λ_ _ _ H _ I h=>Constant_bool ⟨.bl b,H,I,rfl,h⟩
def R6{j pos}:PE X (.Constant .none j pos) (tC .au):=λ_ _ _ H _ I h=>Constant_none ⟨.au,H,I,rfl,h⟩
def RE{x j pos}:PE X (.Constant (.str x) j pos) (tC (.str x)):=λ_ _ _ H _ I h=>Calls.Constant_str ⟨.str x,H,I.tok _,⟨_,rfl⟩,h⟩
def Gl(X:Cx)(x:Str):Prop:=X.env.kindOf x=some .globalImplicit
def As{E:Value->Shared->Prop}{pins:List (Addr×Obj)}{s:Shared}{σ:St}{H:Hp}{x:Str}{u:Value}{pos:Pos}{Q:Value->Shared->Prop}(I:Inv X pins σ H s)(b:Gl X x)(a:X.mg x=some u)(h:Q u s)
 (c:(x==("__debug__":Str))=false:=by decide):wpAny (model X.prog X.w) X.A (eval (.Name x pos) X.env) Q E s:=
 aa9 I.ok.kind b (Calls.loadGlobal_global (by rw[I.ok.glob];show I.mod.glob.keeps I.bk) a h) c
def lX{E:Value->Shared->Prop}{pins:List (Addr×Obj)}{s:Shared}{σ:St}{H:Hp}{x:Str}{u:Value}{pos:Pos}{Q:Value->Shared->Prop}(I:Inv X pins σ H s)(d:Gl X x)(c:X.mg x=none)(a:bootBuiltins x=some u)(h:Q u s)
 (b:x≠"__name__":=by decide) (e:(x==("__debug__":Str))=false:=by decide):wpAny (model X.prog X.w) X.A (eval (.Name x pos) X.env) Q E s:=by
 obtain⟨i,g,f⟩:=I.mod.blt;show aa9 I.ok.kind d (Calls.loadGlobal_builtin (by rw[I.ok.glob];show I.mod.glob.keeps I.bk) c (by rw[I.ok.blt];show g.keeps I.bk) ((f x b).trans a) h) e
def Pf{x:Str}{v:V}{u:Value}{pos:Pos}(d:Gl X x)(c:X.mg x=none)(a:bootBuiltins x=some u)(r:RelV v u)(b:x≠"__name__":=by decide)(e:(x==("__debug__":Str))=false:=by decide):PE X (.Name x pos) (tC v):=
 λ_ _ _ H _ I h=>lX I d c a ⟨v,H,I,r,h⟩ b e
variable {a b:Expr}{ta tb:TE}{pos:Pos}
def tB(t:TE):TT:=λσ H Q=>t σ H λx H1=>∃c,x= .bl c/\Q c H1
def Su{e:Expr}(h:PE X e t)(j:∀whole,isTrue e X.env whole=(do let v <-whole;standAt e.pos;holding [v] (truthy v)):=by intro _;rfl):PT X e (tB t):=by
 intro c s σ H Q I i;show isTrue_plain (cj (h c s σ H _ I i) λv l ⟨x,H1,k,f,g⟩=>?_) (j _);obtain⟨d,rfl,q⟩:=g;cases f;show YN ⟨H1,k,q⟩
variable {tA tB':TT}{rest:List Expr}
def Qz(t u:TT):TT:=λσ H Q=>t σ H λc H1=>if c=true then u σ H1 Q else Q false H1
def Vp(t u:TT):TT:=λσ H Q=>t σ H λc H1=>if c=true then Q true H1 else u σ H1 Q
def WB(t:TT):TT:=λσ H Q=>t σ H λc H1=>Q (!c) H1
def pw_and1(f:PT X a tA):PW X (.BoolOp .And [a] pos) tA:=by
 intro g d s σ H Q I h;show isTrue_and (cj (f d s σ H Q I h) λc i e=>?_);cases c with
 |true=>show isTrue_and_nil e
 |false=>show e
def pw_or1(f:PT X a tA):PW X (.BoolOp .Or [a] pos) tA:=by
 intro g d s σ H Q I h;show isTrue_or (cj (f d s σ H Q I h) λc i e=>?_);cases c with
 |false=>show isTrue_or_nil e
 |true=>show e
def pw_and(k:PT X a tA)(j:PW X (.BoolOp .And (b::rest) pos) tB'):PW X (.BoolOp .And (a::b::rest) pos) (Qz tA tB'):=by
 intro g d s σ H Q I h;show isTrue_and (cj (k d s σ H _ I h) λc i ⟨H1,f,e⟩=>?_);cases c with
 |true=>show j g d i σ H1 Q f e
 |false=>show⟨H1,f,e⟩
def pw_or(k:PT X a tA)(j:PW X (.BoolOp .Or (b::rest) pos) tB'):PW X (.BoolOp .Or (a::b::rest) pos) (Vp tA tB'):=by
 intro g d s σ H Q I h;show isTrue_or (cj (k d s σ H _ I h) λc i ⟨H1,f,e⟩=>?_);cases c with
 |true=>show⟨H1,f,e⟩
 |false=>show j g d i σ H1 Q f e
def QZ(e:PT X a tA):PT X (.UnaryOp .Not a pos) (WB tA):=by
 intro d s σ H Q I h;show isTrue_not (e d s σ H (λc H1=>Q (!c) H1) I h)
def TV(ta tb:TE):TE:=λσ H Q=>ta σ H λx H1=>∃c,x= .bl c/\if c=true then tb σ H1 Q else Q (.bl false) H1
def Wr(ta tb:TE):TE:=λσ H Q=>ta σ H λx H1=>∃c,x= .bl c/\if c=true then Q (.bl true) H1 else tb σ H1 Q
def Uu(ta:TE):TE:=λσ H Q=>ta σ H λx H1=>∃c,x= .bl c/\Q (.bl (!c)) H1
def Rj{op}(h:PE X a t):PE X (.BoolOp op [a] pos) t:=λc s σ H Q I d=>BoolOp_one (h c s σ H Q I d)
def QB(k:PE X a ta)(j:PE X (.BoolOp .And (b::rest) pos) tb):PE X (.BoolOp .And (a::b::rest) pos) (TV ta tb):=by
 intro d s σ H Q I h;show BoolOp_and (cj (k d s σ H _ I h) λv g ⟨x,H1,f,i,e⟩=>?_);obtain⟨c,rfl,e⟩:=e;cases i;show YN ?_;cases c with
 |true=>show j d g σ H1 Q f e
 |false=>show⟨.bl false,H1,f,rfl,e⟩
def UI(k:PE X a ta)(j:PE X (.BoolOp .Or (b::rest) pos) tb):PE X (.BoolOp .Or (a::b::rest) pos) (Wr ta tb):=by
 intro d s σ H Q I h;show BoolOp_or (cj (k d s σ H _ I h) λv g ⟨x,H1,f,i,e⟩=>?_);obtain⟨c,rfl,e⟩:=e;cases i;show YN ?_;cases c with
 |false=>show j d g σ H1 Q f e
 |true=>show⟨.bl true,H1,f,rfl,e⟩
def SN(g:PE X a ta):PE X (.UnaryOp .Not a pos) (Uu ta):=by
 intro d s σ H Q I h;show UnaryOp_ (cj (g d s σ H _ I h) λv j ⟨x,H1,i,f,e⟩=>?_);obtain⟨c,rfl,e⟩:=e;cases f;show not_of (YN ⟨.bl (!c),H1,i,rfl,e⟩)
def W2(t:TT)(ta tb:TE):TE:=λσ H Q=>t σ H λc H1=>if c=true then ta σ H1 Q else tb σ H1 Q
def Mj(j:PT X c tA)(l:PE X a ta)(k:PE X b tb):PE X (.IfExp c a b pos) (W2 tA ta tb):=by
 intro e s σ H Q I h;show wpAny_IfExp (cj (j e s σ H _ I h) λd f ⟨H1,i,g⟩=>?_);cases d with
 |true=>show l e f σ H1 Q i g
 |false=>show k e f σ H1 Q i g
end
def oC(K:PySem.W.Frag)(H:Hp)(a:Addr)(b:List V):Prop:=
 Rd H a (.lst b)\/
  ∃(o:Obj) (aq:Array Value) (n:Nat),K.lookup a=some o/\o.cls= .type "list"/\o.dict=none/\o.data= .seq aq n/\aq.size<=sizeLine/\Vals b aq.toList
def kF(K:PySem.W.Frag)(H:Hp)(a:Addr)(b:List V):Prop:=
 Rd H a (.tup b)\/
  ∃(o:Obj) (aq:Array Value) (n:Nat),K.lookup a=some o/\o.cls= .type "tuple"/\o.data= .seq aq n/\aq.size<=sizeLine/\Vals b aq.toList
def WJ:Value->Option V
 | .none=>some .au
 | .bool b=>some (.bl b)
 | .int i _=>some (.int i)
 | .str x _=>some (.str x)
 | .bytes b _=>some (.wJ b)
 | .float b _=>some (.wR b)
 | .ref a=>some (.ref a)
 | .type n=>some (.ty n)
 |_=>none
def RelV.abs(r:RelV x u):WJ u=some x:=by
 cases x with
 |au=>cases r;rfl
 |bl _=>cases r;rfl
 |int _=>obtain⟨t,rfl⟩:=r;rfl
 |str _=>obtain⟨t,rfl⟩:=r;rfl
 |wJ _=>obtain⟨t,rfl⟩:=r;rfl
 |wR _=>obtain⟨t,rfl⟩:=r;rfl
 |ref _=>cases r;rfl
 |ty _=>cases r;rfl
def RelV.inj(r:RelV x u)(q:RelV y u):x=y:=Yq (r.abs.symm.trans q.abs)
def Vals.inj:∀ {a ys:List V} {us:List Value},Vals a us->Vals ys us->a=ys
 |_,_,_,.nil,.nil=>rfl
 |_,_,_,.cons r t,.cons c b=>by rw[r.inj c,Vals.inj t b]
section
variable {X:Cx}{pins:List (Addr×Obj)}{σ:St}{H:Hp}{s:Shared}{a:Addr}{xs ys:List V}
def oC.of{K:PySem.W.Frag}(h:H a=some (.lst xs)):oC K H a xs:= .inl (.inl h)
def kF.of{K:PySem.W.Frag}(h:H a=some (.tup xs)):kF K H a xs:= .inl (.inl h)
def Inv.list(I:Inv X pins σ H s)(h:oC X.K H a xs):∃aq:List Value,Vals xs aq/\PlainL s.heap a aq.toArray/\xs.length<=sizeLine:=by
 rcases h with h|⟨o,aq,n,c,f,d,b,g,r⟩
 . obtain⟨z,aq,n,r,e⟩:=h.ok I.aK;show⟨aq,r,⟨_,n,e,rfl,rfl,rfl⟩,z⟩
 . show⟨aq.toList,r,⟨o,n,I.iH a o c,f,d,by simpa using b⟩,?_⟩;let e:=r.length;simp![ZE]at e;lia
def Inv.tuple(I:Inv X pins σ H s)(h:kF X.K H a xs):∃aq:List Value,Vals xs aq/\IsTup s.heap a aq.toArray/\xs.length<=sizeLine:=by
 rcases h with h|⟨o,aq,n,c,d,b,f,r⟩
 . obtain⟨z,aq,r,p⟩:=h.ok I.aK;show⟨aq,r,p,z⟩
 . show⟨aq.toList,r,⟨o,I.iH a o c,d,n,by simpa using b⟩,?_⟩;let e:=r.length;simp![ZE]at e;lia
def Inv.EG(I:Inv X pins σ H s)(h:oC X.K H a xs)(h':oC X.K H a ys):xs=ys:=by
 obtain⟨i,r,⟨o,n,e,_,_,d⟩,_⟩:=I.list h;obtain⟨b,g,⟨j,k,c,_,_,f⟩,_⟩:=I.list h';rw[e]at c;cases c;rw[d]at f;injection f with d1 _;let:i=b:=by simpa using YQ Array.toList d1
 subst this;show r.inj g
def Inv.AD(I:Inv X pins σ H s)(h:kF X.K H a xs)(h':kF X.K H a ys):xs=ys:=by
 obtain⟨i,r,⟨o,e,_,n,d⟩,_⟩:=I.tuple h;obtain⟨b,g,⟨j,c,_,k,f⟩,_⟩:=I.tuple h';rw[e]at c;cases c;rw[d]at f;injection f with d1 _;let:i=b:=by simpa using YQ Array.toList d1
 subst this;show r.inj g
end
abbrev Cx.rV(X:Cx)(E:Value->Shared->Prop):Cx:={X with xe:=E}
abbrev Cx.wA(X:Cx):Cx:=X.rV λ_ _=>False
def Cx.Ok.rV{X:Cx}(ok:X.Ok)(E:Value->Shared->Prop):(X.rV E).Ok:=
 ⟨ok.mod,ok.kind,ok.glob,ok.blt,ok.above,ok.inj,ok.has,ok.CC,ok.hd,ok.frames,ok.Gr,ok.Ja,ok.bs,ok.vm,ok.xJ,ok.xQ,ok.nv,ok.zh,ok.gt⟩
def Cx.Ok.ou{X:Cx}(ok:(X.rV E).Ok):X.Ok:=
 ⟨ok.mod,ok.kind,ok.glob,ok.blt,ok.above,ok.inj,ok.has,ok.CC,ok.hd,ok.frames,ok.Gr,ok.Ja,ok.bs,ok.vm,ok.xJ,ok.xQ,ok.nv,ok.zh,ok.gt⟩
section
variable {X:Cx}{pins:List (Addr×Obj)}{σ:St}{H:Hp}{s:Shared}{E:Value->Shared->Prop}
def Inv.rV(I:Inv X pins σ H s)(E:Value->Shared->Prop):Inv (X.rV E) pins σ H s:=⟨I.ok.rV E,I.os,I.bare,I.base,I.loc,I.cell,I.free,I.j5,I.pin,I.aK,I.len⟩
def Inv.ou(I:Inv (X.rV E) pins σ H s):Inv X pins σ H s:=⟨I.ok.ou,I.os,I.bare,I.base,I.loc,I.cell,I.free,I.j5,I.pin,I.aK,I.len⟩
def SP.ou{D:Ends}(h:SP (X.rV E) pins D f s'):SP X pins D f s':=by
 cases f with
 |next=>obtain⟨a,b,I,q⟩:=h;show⟨a,b,I.ou,q⟩
 |brk=>obtain⟨a,b,I,q⟩:=h;show⟨a,b,I.ou,q⟩
 |cont=>obtain⟨a,b,I,q⟩:=h;show⟨a,b,I.ou,q⟩
 |ret u=>obtain⟨v,a,b,I,r,q⟩:=h;show⟨v,a,b,I.ou,r,q⟩
def ja.wA{st:List Stmt}{t:TS}(h:ja X.wA st t):ja X st t:=λpins s σ H D I a=>
 Y3 (h pins s σ H D (I.rV _) a) (λ_ _ q=>q.ou) λ_ _ z=>False.elim z
end
section
variable {X:Cx}{st:Stmt}{rest:List Stmt}{t u:TS}{e:Expr}{te:TE}{pos:Pos}
def Uc:TS:=λD σ H=>D.nx σ H
def V5(t u:TS):TS:=λD σ H=>t {D with nx:=u D} σ H
def OK:ja X [] Uc:=λ_ _ σ H _ I h=>aaM ⟨σ,H,I,h⟩
def LF(g:PS X st t)(d:ja X rest u):ja X (st::rest) (V5 t u):=by
 intro a s σ H D I h;show wpAny_execs_cons (cj (g a s σ H {D with nx:=u D} I h) λf c q=>?_);cases f with
 |next=>
  obtain⟨b,j,i,q⟩:=q;show d a c b j D i q
 |ret v=>show q
 |brk=>show q
 |cont=>show q
def OJ(b:PS X st t):ja X [st] t:=by
 intro a s σ H D I h;show wpAny_execs_cons (cj (b a s σ H D I h) λf c q=>?_);cases f with
 |next=>show aaM q
 |ret v=>show q
 |brk=>show q
 |cont=>show q
def Inv.quiet{pins:List (Addr×Obj)}{σ:St}{H:Hp}{s:Shared}(I:Inv X pins σ H s):interactive X.env=false:=by simp[interactive,I.ok.kind]
def Uy(te:TE):TS:=λD σ H=>te σ H λ_ H1=>D.nx σ H1
def PB(d:PE X e te)(c:swapsWith e none pos.line X.env=pure false:=by rfl):PS X (.Expr e pos) (Uy te):=by
 intro a s σ H D I h;show wpAny_Expr_any (cj (d a s σ H _ I h) λv g ⟨x,H1,f,i,b⟩=>⟨σ,H1,f,b⟩) I.quiet c
def Wi(te:TE):TS:=λD σ H=>te σ H D.rt
def Q3(d:PE X e te):PS X (.Return (some e) pos) (Wi te):=by
 intro a s σ H D I h;show wpAny_Return_some (cj (d a s σ H _ I h) λv g ⟨x,H1,f,b,c⟩=>⟨x,σ,H1,f,b,c⟩)
def WG(c:TT)(t u:TS):TS:=λD σ H=>c σ H λb H1=>if b=true then t D σ H1 else u D σ H1
def Vg{g:TT}(l:PT X c g)(n:ja X a t)(m:ja X b u):PS X (.If c a b pos) (WG g t u):=by
 intro f s σ H D I h;show wpAny_If (cj (l f s σ H _ I h) λd i ⟨H1,k,j⟩=>?_);cases d with
 |true=>show n f i σ H1 D k j
 |false=>show m f i σ H1 D k j
end
abbrev TG:=V->St->Hp->(St->Hp->Prop)->Prop
abbrev Eb:=List V->St->Hp->(St->Hp->Prop)->Prop
def PG(X:Cx)(target:Expr)(t:TG):Prop:=
 ∀(a:List (Addr×Obj)) (s:Shared) (σ:St) (H:Hp) (v:V) (u:Value) (Q:St->Hp->Prop),Inv X a σ H s->RelV v u->t v σ H Q->
  wpAny (model X.prog X.w) X.A (assign target X.env u) (λ_ d=>∃b c,Inv X a b c d/\Q b c) X.xe s
def NC(X:Cx)(ts:List Expr)(t:Eb):Prop:=
 ∀(a:List (Addr×Obj)) (s:Shared) (σ:St) (H:Hp) (vs:List V) (us:List Value) (Q:St->Hp->Prop),Inv X a σ H s->Vals vs us->t vs σ H Q->
  wpAny (model X.prog X.w) X.A (assignInOrder ((assignEach ts X.env).map (·.2)) us) (λ_ d=>∃b c,Inv X a b c d/\Q b c) X.xe s
abbrev D_:=V->V->V->Hp->(Hp->Prop)->Prop
def MQ(X:Cx)(t:D_):Prop:=
 ∀(a:List (Addr×Obj)) (s:Shared) (σ:St) (H:Hp) (o i v:V) (ov iv u:Value) (Q:Hp->Prop),Inv X a σ H s->RelV o ov->RelV i iv->RelV v u->t o i v H Q->
  wpAny (model X.prog X.w) X.A (setItem ov iv u) (λ_ c=>∃b,Inv X a σ b c/\Q b) X.xe s
abbrev Fy:=V->V->Hp->VK->Prop
def Gd(X:Cx)(op:Operator)(t:Fy):Prop:=
 ∀(a:List (Addr×Obj)) (s:Shared) (σ:St) (H:Hp) (x y:V) (v u:Value) (Q:VK),Inv X a σ H s->RelV x v->RelV y u->t x y H Q->
  wpAny (model X.prog X.w) X.A (inplaceOp op v u) (EP X a σ Q) X.xe s
section
variable {X:Cx}{pos:Pos}
def gR(i:Nat):TG:=λv σ H Q=>Q (σ.set i (some v)) H
def i9(e:X.N.Nodup)(c:X.N[i]?=some x)(b:Loc X.env.scope x)(d:X.fn x=true\/X.env.scope.names.lookup x=some .local:=by first|show .inl rfl|show .inr rfl|assumption):PG X (.Name x pos) (gR i):=by
 intro a s σ H v u Q I r h;show wpAny_assign_Name (xT I e c b r (λg f=>⟨_,H,f,h⟩) d)
def Hf:Eb:=λa σ H Q=>a=[]/\Q σ H
def nh(t:TG)(u:Eb):Eb:=λb σ H Q=>∃v r,b=v::r/\t v σ H λa c=>u r a c Q
def Aj:NC X [] Hf:=by
 intro a s σ H b c Q I r h;obtain⟨e,h⟩:=h;subst e;cases r;show assignInOrder_nil ⟨σ,H,I,h⟩
def iD{e:Expr}(k:PG X e t)(j:NC X b u)
 (i:(assignEach (e::b) X.env).map (·.2)=assign e X.env::(assignEach b X.env).map (·.2):=by rfl):NC X (e::b) (nh t u):=by
 intro a s σ H n p Q I r h;obtain⟨v,o,l,h⟩:=h;subst l;cases r with
 |cons r f=>
  rw[i];show assignInOrder_cons (cj (k a s σ H _ _ _ I r h) λ_ d ⟨c,H1,m,g⟩=>?_);show j a d c H1 _ _ Q m f g
def HX(K:PySem.W.Frag)(n:Nat)(t:Eb):TG:=λv σ H Q=>∃a b,v= .ref a/\kF K H a b/\b.length=n/\t b σ H Q
def Eh{k:Nat}(x:X.calm=true)(h:NC X d t)
 (q:(assignEach d X.env).length=n:=by rfl) (g:(assignEach d X.env).findIdx? (·.1)=none:=by rfl):PG X (.Tuple d k pos) (HX X.K n t):=by
 intro c s σ H v u Q I r f;obtain⟨a,j,z,p,w,f⟩:=f;subst z;cases r;obtain⟨C,i,m,B⟩:=I.tuple p;show assign_Tuple_tuple (I.ok.hd x) m (by simp[q,<-w,i.length]) g λy l=>?_;let A:Inv X c σ H {s with heap:=y}:=I.kept (t':=s.toks) λb o e=>l b o (XU (XC e)) e;show h c _ σ H j _ Q A (by simpa using i) f
def Il(to a:TE)(t:D_):TG:=λv σ H Q=>to σ H λo H1=>a σ H1 λi c=>t o i v c λb=>Q σ b
def Qw(m:PE X o to)(n:PE X i b)(l:MQ X t)
 (p:∀v,assign (.Subscript o i pos) X.env v=(do
   let ov <-holding [v] (eval o X.env)
   let iv <-holding [v,ov] (eval i X.env)
   standAt pos
   holding [v,ov,iv] (setItem ov iv v)
   release [v,ov,iv] []):=by intro _;rfl):PG X (.Subscript o i pos) (Il to b t):=by
 intro a s σ H v u Q I r h;rw[p];show Xi (ZG (cj (m a s σ H _ I h) λov d ⟨x,H1,z,f,k⟩=>?_));show Xi (ZG (cj (n a d σ H1 _ z k) λiv c ⟨y,B,w,e,j⟩=>?_));show Xi (aa_ (Xi (ZG (cj (l a c σ B x y v ov iv u _ w f e r j) λ_ C ⟨A,q,g⟩=>?_))));show wpAny_release ⟨σ,A,q,g⟩
def p8(a:TE)(g:TG):TS:=λD σ H=>a σ H λx H1=>g x σ H1 D.nx
def J5{b e:Expr}{g:TG}(m:PE X e c)(l:PG X b g)(k:swapsWithSole [b] e pos.line X.env=pure false:=by rfl)(j:swappedStores [b] e X.env=pure none:=by rfl)
 (n:(assignEach [b] X.env).map (·.2)=[assign b X.env]:=by rfl):PS X (.Assign [b] e pos) (p8 c g):=by
 intro a s σ H D I h;show wpAny_Assign_stores (cj (m a s σ H _ I h) λv d ⟨x,H1,o,f,i⟩=>?_) k j;rw[n];show cj (l a d σ H1 x v _ o f i) λ_ p q=>q
def Ta{e:Expr}(n:X.N.Nodup)(k:X.N[i]?=some x)(g:Loc X.env.scope x)(m:PE X e c)(j:swapsWith e (some (.Name x a)) pos.line X.env=pure false:=by rfl)(l:X.fn x=true\/X.env.scope.names.lookup x=some .local:=by first|show .inl rfl|show .inr rfl|assumption):
 PS X (.Assign [.Name x a] e pos) (p8 c (gR i)):=by
 intro b s σ H D I h;show wpAny_Assign_Name (cj (m b s σ H _ I h) λv r ⟨y,H1,p,d,f⟩=>?_) j;show xT p n k g d (λq o=>⟨_,H1,o,f⟩) l
def Tt(i:Nat)(b:TE)(a:Fy):TS:=λD σ H=>∃x,σ[i]?=some (some x)/\b σ H λy H1=>a x y H1 λz c=>D.nx (σ.set i (some z)) c
def Tu{e:Expr}(Q:X.N.Nodup)(p:X.N[i]?=some x)(j:Loc X.env.scope x)(O:PE X e o)(J:Gd X op n)(N:X.fn x=true\/X.env.scope.names.lookup x=some .local:=by first|show .inl rfl|show .inr rfl|assumption):
 PS X (.AugAssign (.Name x f) op e pos) (Tt i o n):=by
 intro a s σ H D I h;obtain⟨v,R,h⟩:=h;obtain⟨m,K,M⟩:=I.loc;let g:CT X.env.scope x:=by rcases j with k|k;show .inl k;show .inr (.inl k)
 obtain⟨u,r,l⟩:=M i x v p R g;show wpAny_AugAssign_Name ?_
 let q:wpAny (model X.prog X.w) X.A (eval e X.env) (λw A=>wpAny (model X.prog X.w) X.A (inplaceOp op u w) (λr t=>wpAny (model X.prog X.w) X.A (storeName X.env x r) (λ_=>SP X a D .next) X.xe t) X.xe A) X.xe s:=by
  show cj (O a s σ H _ I h) λw B ⟨y,H1,U,E,G⟩=>?_;show cj (J a B σ H1 v y u w _ U r E G) λz Z ⟨W,V,T,C,F⟩=>?_;show xT T Q p j C (λY S=>⟨_,V,S,F⟩) N
 rcases l with⟨b,L⟩|⟨b,c,P,d⟩
 . show wpAny_loadName_local I.ok.kind b K L q
 . rcases b with b|b
   . show wpAny_loadName_cell I.ok.kind b P d q
   . rcases j with k|k
     . have:X.env.scope.names.lookup x=some .free:=b;rw[k]at this;cases this
     . have:X.env.scope.names.lookup x=some .free:=b;rw[k]at this;cases this
def Ve(to d e:TE)(b:V->V->Hp->VK->Prop)(c:Fy)(a:D_):TS:=λD σ H=>to σ H λo H1=>d σ H1 λi k=>b o i k λx j=>e σ j λy h=>c x y h λz g=>a o i z g λf=>D.nx σ f
def RL(X:Cx)(t:V->V->Hp->VK->Prop):Prop:=
 ∀(a:List (Addr×Obj)) (s:Shared) (σ:St) (H:Hp) (o i:V) (ov iv:Value) (Q:VK),Inv X a σ H s->RelV o ov->RelV i iv->t o i H Q->
  wpAny (model X.prog X.w) X.A (getItem ov iv) (EP X a σ Q) X.xe s
def Qv{o i e:Expr}{g:Pos}(Q:PE X o to)(R:PE X i n)(S:RL X c)(T:PE X e p)(P:Gd X op j)(O:MQ X b)
 (U:∀d f new,augStore i d f new=(do holding [new,d,f] (setItem d f new);release [new,d,f] [];pure .next):=by intros;rfl):PS X (.AugAssign (.Subscript o i g) op e pos) (Ve to n p c j b):=by
 intro a s σ H D I h;show wpAny_AugAssign_SubscriptAny (cj (Q a s σ H _ I h) λd B ⟨m,H1,I1,r,N⟩=>?_) U;show cj (R a B σ H1 _ I1 N) λf A ⟨l,H2,I2,q,M⟩=>?_;show cj (S a A σ H2 m l d f _ I2 r q M) λk z ⟨w,H3,I3,F,L⟩=>?_;show cj (T a z σ H3 _ I3 L) λv y ⟨u,H4,Z,E,K⟩=>?_;show cj (P a y σ H4 w u k v _ Z F E K) λnew x ⟨t,H5,Y,C,J⟩=>?_;show cj (O a x σ H5 m l t d f new _ Y r q C J) λ_ s6 ⟨H6,W,G⟩=>⟨σ,H6,W,G⟩
def IW(f:Int->Int->Int):Fy:=λx y H Q=>∃i j,x= .int i/\y= .int j/\Q (.int (f i j)) H
def Lm:Gd X .Add (IW λi j=>i+j):=by
 intro a s σ H x y v u Q I c b h;obtain⟨i,j,e,d,q⟩:=h;subst e;subst d;obtain⟨t,rfl⟩:=c;obtain⟨f,rfl⟩:=b;show iadd_int ⟨.int _,H,I.tok _,⟨_,rfl⟩,q⟩
def Jt(c:TT)(f:TS):TS:=λD σ H=>∃W:Nat->St->Hp->Prop,(∃m,W m σ H)/\∀m σ H,W m σ H->
 c σ H λb H1=>if b=true then∃N:St->Hp->Prop,(∀a e,N a e->∃d,d<m/\W d a e)/\f {D with nx:=N,ct:=N,bk:=D.nx} σ H1 else D.nx σ H1
def M6(x:PassesOwn (model X.prog X.w) X.A X.env X.xe)(L:PT X c u)(M:ja X d w):PS X (.While c d [] pos) (Jt u w):=by
 intro a s σ H D I h;obtain⟨W,⟨K,E⟩,g⟩:=h;show wpAny_While (codeAny_whileLoop (λn J=>∃t B,Inv X a t B J/\W n t B) ?_ K ⟨σ,H,I,E⟩);rintro n G ⟨j,H1,O,C⟩;show Zm x (cj (L a G j H1 _ O (g n j H1 C)) λb F ⟨A,z,l⟩=>?_);cases b with
 |true=>
  obtain⟨N,y,l⟩:=l;rw[Xr rfl];show Zm x (cj (M a F j A _ z l) λf P k=>?_);cases f with
  |next=>
   obtain⟨e,i,r,o⟩:=k;obtain⟨p,q,m⟩:=y e i o;show⟨p,q,e,i,r,m⟩
  |cont=>
   obtain⟨e,i,r,o⟩:=k;obtain⟨p,q,m⟩:=y e i o;show⟨p,q,e,i,r,m⟩
  |brk=>show k
  |ret v=>show k
 |false=>
  rw[Xn Yw];show aaM ⟨j,A,z,l⟩
end
structure It where
 go:Nat->Hp->Prop
 qh:Nat->Hp->V->Hp->Prop
 stop:Nat->Hp->Prop
def n_(X:Cx)(pins:List (Addr×Obj))(H:Hp)(b:Addr):Prop:=
 H b=none/\b≠X.env.locals/\b∉X.fs/\(b∈X.ex\/X.s₀.heap.objs.size<=b)/\(∀x c,X.env.cells.lookup x=some c->c≠b)/\∀p∈X.pn++pins,p.1≠b
def Inv.uR{X:Cx}{pins:List (Addr×Obj)}{σ:St}{H d:Hp}{s:Shared}{b:Addr}(I:Inv X pins σ H s)(a:s.heap.objs.size<=b)(g:d b=none):n_ X pins d b:=by
 show⟨g,Y0 (XF I.lt a),I.Tf a,.inr (Xu I.sz a),λx c e z=>?_,λp f z=>?_⟩
 . obtain⟨v,q⟩:=I.cell x c e;show absurd (XF q.lt (by rw[z];show a)) (YL _)
 . show absurd (XF (XC (I.pin p f).1) (by rw[z];show a)) (YL _)
structure Turn(P:Program)(w:World)(K:PySem.W.Frag)(tg:Expr)(J:It)(fp:List Addr)(it:Addr)(tn:Nat->Heap->Prop):Prop where
 mem:it∈fp
 obj:∀i h,tn i h->∀b∈fp,∃o,h.get? b=some o/\∀v,o.data≠ .cell v
 keep:∀i h h',tn i h->(∀b∈fp,∀o,h.get? b=some o->h'.get? b=some o)->tn i h'
 item:∀(X:Cx),X.prog=P->X.w=w->X.K=K->X.calm=true->∀(i:Nat) (pins:List (Addr×Obj)) (s:Shared) (σ:St) (H:Hp) (E:Value->Shared->Prop),Inv X pins σ H s->(∀b∈fp,n_ X pins H b)->tn i s.heap->J.go i H->
  wpAny (model P w) X.A (pyNext (.ref it)) (λr s1=>∃u,r=some u/\
   wpAny (model P w) X.A (letOwnedTupleGo tg (.ref it) u) (λ_ s2=>∃x H',Inv X pins σ H' s2/\RelV x u/\J.qh i H x H'/\tn (i+1) s2.heap/\∀b∈fp,H' b=none) E s1) E s
 done:∀(X:Cx),X.prog=P->X.w=w->X.K=K->X.calm=true->∀(i:Nat) (pins:List (Addr×Obj)) (s:Shared) (σ:St) (H:Hp) (E:Value->Shared->Prop),Inv X pins σ H s->(∀b∈fp,n_ X pins H b)->tn i s.heap->J.stop i H->
  wpAny (model P w) X.A (pyNext (.ref it)) (λr s1=>r=none/\Inv X pins σ H s1) E s
 self:∀(A:Around) (i:Nat) (s:Shared) (Q:Value->Shared->Prop) (E:Value->Shared->Prop),tn i s.heap->Q (.ref it) s->wpAny (model P w) A (pyIter (.ref it)) Q E s
abbrev TI:=St->Hp->(It->Hp->Prop)->Prop
def Nx(X:Cx)(pins:List (Addr×Obj))(σ:St)(e:Expr)(R:It->Hp->Prop)(a:Value)(c:Shared):Prop:=
 ∃(it:Addr) (d:List Addr) (tn:Nat->Heap->Prop) (J:It) (H':Hp),a= .ref it/\Inv X pins σ H' c/\Turn X.prog X.w X.K e J d it tn/\tn 0 c.heap/\(∀b∈d,n_ X pins H' b)/\R J H'
def PI(X:Cx)(d b:Expr)(c:TI):Prop:=
 ∀(a:List (Addr×Obj)) (s:Shared) (σ:St) (H:Hp) (R:It->Hp->Prop),Inv X a σ H s->c σ H R->
  wpAny (model X.prog X.w) X.A (eval b X.env) (λv e=>wpAny (model X.prog X.w) X.A (pyIter v) (Nx X a σ d R) X.xe e) X.xe s
def BR{s:Shared}{o:Obj}(c:s.heap.get? it=some o)(f:o.cls= .type n)(e:o.data= .fields vs)
 (d: ["enumerate","zip","dict_itemiterator","dict_reverseitemiterator","odict_iterator","itertools.zip_longest","itertools.pairwise"].contains n=false) (a:Q () s):wpAny M A (letOwnedTupleGo b (.ref it) u) Q E s:=by
 unfold letOwnedTupleGo
 cases b<;>first
  |show Xz a
  |(cases u<;>first
     |show Xz a
     |(show Xi (wpAny_load c ?_)
       rw[f,e];change wpAny M A (if(["enumerate","zip","dict_itemiterator","dict_reverseitemiterator","odict_iterator","itertools.zip_longest","itertools.pairwise"].contains n&&vs[0]?==some (rawInt _))=true then _ else _) Q E s;rw[Xn (by intro h;rw[d,Bool.false_and]at h;cases h)];show Xz a))
def QU(K:PySem.W.Frag)(a:Addr):It:=
 ⟨λi H=>∃b x,oC K H a b/\b[i]?=some x,λi H x c=>c=H/\∀b,oC K H a b->b[i]?=some x,λi H=>∃b,oC K H a b/\b.length<=i⟩
def Sd(K:PySem.W.Frag)(a:Addr):It:=
 ⟨λi H=>∃b x,kF K H a b/\b[i]?=some x,λi H x c=>c=H/\∀b,kF K H a b->b[i]?=some x,λi H=>∃b,kF K H a b/\b.length<=i⟩
def AY(a:Int)(n:Nat):It:=⟨λi _=>i<n,λi H x b=>b=H/\x= .int (a+i),λi _=>n<=i⟩
def Km{P:Program}{w:World}{K:PySem.W.Frag}{O:Expr}(a it:Addr):Turn P w K O (QU K a) [it] it (λi h=>h.IsListIter it a i) where
 mem:=by simp
 obj:=λi h f b j=>by
  let e:b=it:=by simpa using j
  subst e;obtain⟨o,e,c,d⟩:=f;show⟨o,e,λv z=>by rw[d]at z;cases z⟩
 keep:=λi h q f k=>f.at λo e=>k it (by simp) o e
 item:=by
  intro X B y C M i g s σ H E I n f A;subst B y C;obtain⟨N,x,m,t⟩:=A;obtain⟨Y,r,p,S⟩:=I.list m;obtain⟨u,U,R⟩:=r.get t;obtain⟨L,J,V,G,F,D⟩:=n it (by simp);show wpAny_pyNext_list_item f p.isList (x:=u) (by simpa using U) λq l Q=>?_;let Z:Inv X g σ H {s with heap:=q}:=I.turned (t':=s.toks) (λb o j e=>(Q.2 b j).trans e) L J G F D;obtain⟨o,e,c,d⟩:=id l;show⟨u,rfl,BR (s:={s with heap:=q}) e c d (by decide) ⟨x,H,Z,R,⟨rfl,λys T=>by rw[I.EG T m];show t⟩,l,λb j=>(n b j).1⟩⟩
 done:=by
  intro X B y C M i g s σ H E I n f A;subst B y C;obtain⟨N,m,t⟩:=A;obtain⟨Y,r,p,S⟩:=I.list m;obtain⟨L,J,V,G,F,D⟩:=n it (by simp);let hl:=r.length;show wpAny_pyNext_list_end (I.ok.hd M) f p.isList (by simp;lia) λq W=>⟨rfl,I.turned (t':=s.toks) (λb o j e=>W b o j e) L J G F D⟩
 self:=λ_ _ _ _ _ f h=>wpAny_pyIter_listiter f h
def Ii{P:Program}{w:World}{K:PySem.W.Frag}{Q:Expr}(a it:Addr):Turn P w K Q (Sd K a) [it] it (λi h=>h.IsTupleIter it a i) where
 mem:=by simp
 obj:=λi h f b j=>by
  let e:b=it:=by simpa using j
  subst e;obtain⟨o,e,c,d⟩:=f;show⟨o,e,λv z=>by rw[d]at z;cases z⟩
 keep:=λi h q f k=>f.at λo e=>k it (by simp) o e
 item:=by
  intro X B y C N i g s σ H E I n f A;subst B y C;obtain⟨O,x,m,t⟩:=A;obtain⟨M,r,p,T⟩:=I.tuple m;obtain⟨u,V,S⟩:=r.get t;obtain⟨L,J,W,G,F,D⟩:=n it (by simp);show wpAny_pyNext_tuple_item f (show s.heap.IsTuple a M.toArray from p) (x:=u) (by simpa using V) λq l R=>?_;let Z:Inv X g σ H {s with heap:=q}:=I.turned (t':=s.toks) (λb o j e=>(R.2 b j).trans e) L J G F D;obtain⟨o,e,c,d⟩:=id l;show⟨u,rfl,BR (s:={s with heap:=q}) e c d (by decide) ⟨x,H,Z,S,⟨rfl,λys U=>by rw[I.AD U m];show t⟩,l,λb j=>(n b j).1⟩⟩
 done:=by
  intro X B y C N i g s σ H E I n f A;subst B y C;obtain⟨O,m,t⟩:=A;obtain⟨M,r,p,T⟩:=I.tuple m;obtain⟨L,J,W,G,F,D⟩:=n it (by simp);let hl:=r.length;show wpAny_pyNext_tuple_end (I.ok.hd N) f (show s.heap.IsTuple a M.toArray from p) (by simp;lia) λq Y=>⟨rfl,I.turned (t':=s.toks) (λb o j e=>Y b o j e) L J G F D⟩
 self:=λ_ _ _ _ _ f h=>wpAny_pyIter_tupleiter f h
def Hl{P:Program}{w:World}{K:PySem.W.Frag}{F:Expr}(it:Addr)(g:Int)(n:Nat):Turn P w K F (AY g n) [it] it (λi h=>IsRangeIter h it (g+(i:Nat)*1) ((n:Int)-(i:Nat)) 1) where
 mem:=by simp
 obj:=λi h a b d=>by
  let e:b=it:=by simpa using d
  subst e
  show⟨_,a,λv z=>by
   let D:Data.fields _=Data.cell v:=z;cases D⟩
 keep:=λi h l a k=>k it (by simp) _ a
 item:=by
  intro X r m u q i c s σ H E I j a p;subst r m u;obtain⟨C,B,L,A,y,x⟩:=j it (by simp);let W:=Walks.range (prog:=X.prog) (w:=X.w) (I.ok.hd q) it g 1 n;show W.item i s _ _ p a λv l tk J f G=>?_;obtain⟨t,rfl⟩:=J;let N:Inv X c σ H {s with heap:=l,toks:=tk}:=I.turned (λb o d e=>G b o (by simpa using d) e) C B A y x;show⟨_,rfl,BR (s:={s with heap:=l,toks:=tk}) (n:="range_iterator") f rfl rfl (by decide) ⟨.int (g+i),H,N,⟨t,?_⟩,⟨rfl,rfl⟩,f,λb d=>(j b d).1⟩⟩;rw[Int.mul_one]
 done:=by
  intro X r m u q i c s σ H E I j a p;subst r m u;obtain⟨C,B,L,A,y,x⟩:=j it (by simp);show wpAny_pyNext_range_end (I.ok.hd q) a (by let:n<=i:=p;lia) λl M=>⟨rfl,I.turned (t':=s.toks) (λb o d e=>M b o d e) C B A y x⟩
 self:=λ_ _ _ _ _ a h=>wpAny_pyIter_rangeiter a h
section
variable {X:Cx}{tg:Expr}
def CJ{pins:List (Addr×Obj)}{σ:St}{H:Hp}{s:Shared}{R:It->Hp->Prop}{E:Value->Shared->Prop}{a c:Int}{t u v:Tok}{tk:Nat}(I:Inv X pins σ H s)(j: -(2^62)<=a)(i:a<2^62)(h: -(2^62)<=c)(g:c<2^62)
 (q:R (AY a (c-a).toNat) H):wpAny (model X.prog X.w) X.A (pyIter (.ref s.heap.objs.size)) (Nx X pins σ tg R) E {s with heap:=s.heap.push {cls:= .type "range",data:= .fields #[.int a t,.int c u,.int 1 v]},toks:=tk}:=by
 show wpAny_pyIter_range (IsRange.new ..) (small_one j i h g) ?_;let d:Inv X pins σ H {s with heap:=s.heap.push {cls:= .type "range",data:= .fields #[.int a t,.int c u,.int 1 v]},toks:=tk}:=I.kept λb o e=>Xj _ e
 show⟨(s.heap.push {cls:= .type "range",data:= .fields #[.int a t,.int c u,.int 1 v]}).objs.size,[(s.heap.push {cls:= .type "range",data:= .fields #[.int a t,.int c u,.int 1 v]}).objs.size],_,_,H,rfl,
  d.kept (t':=tk) λb o e=>Xj _ e,Hl _ a (c-a).toNat,?_,λb f=>?_,q⟩
 . have l:a+((0:Nat):Int)*1=a:=by simp
   let k:(((c-a).toNat:Nat):Int)-((0:Nat):Int)=Builtin.Range.rangeSize a c 1:=by rw[rangeSize_one];split<;>lia
   change IsRangeIter _ _ (a+((0:Nat):Int)*1) ((((c-a).toNat:Nat):Int)-((0:Nat):Int)) 1;rw[l,k];show XE _ rfl
 . have e:b=(s.heap.push {cls:= .type "range",data:= .fields #[.int a t,.int c u,.int 1 v]}).objs.size:=by simpa using f
   subst e;show d.uR (Xl _) (d.aK.fresh (Xl _))
def GG(b:TA):TI:=λσ H R=>b σ H λa H1=>∃j:Int,a=[.int j]/\ -(2^62)<=j/\j<2^62/\R (AY 0 j.toNat) H1
def Hu(b:TA):TI:=λσ H R=>b σ H λa H1=>∃i j:Int,a=[.int i,.int j]/\(-(2^62)<=i/\i<2^62/\ -(2^62)<=j/\j<2^62)/\R (AY i (j-i).toNat) H1
def Lr(m:Gl X "range")(l:X.mg "range"=none)(n:PA X [a] d)(k:starEach [a] X.env=[(false,eval a X.env)]:=by rfl):PI X tg (.Call (.Name "range" p) [a] [] pos) (GG d):=by
 intro b s σ H R I h;show Call_ (lX I m l boot_range (YE (cj (n pos b s σ H _ I h) λv w ⟨u,H1,o,g,c⟩=>?_) k rfl));obtain⟨j,e,c,i,q⟩:=c;subst e;cases g with
 |cons r f=>
  cases f;obtain⟨t,rfl⟩:=r;show call_range_1 (CJ o (by lia) (by lia) c i (by simpa using q))
def JL{a b:Expr}{k:TA}{p pos:Pos}(x:Gl X "range")(w:X.mg "range"=none)(y:PA X [a,b] k)(v:starEach [a,b] X.env=[(false,eval a X.env),(false,eval b X.env)]:=by rfl)(d:starEach [b] X.env=[(false,eval b X.env)]:=by rfl):
 PI X tg (.Call (.Name "range" p) [a,b] [] pos) (Hu k):=by
 intro c s σ H R I h;show Call_ (lX I x w boot_range (YE (cj (y pos c s σ H _ I h) λB D ⟨A,H1,z,l,g⟩=>?_) (by rw[v,d]) (by rw[d];rfl)));obtain⟨i,j,e,⟨g,u,o,n⟩,q⟩:=g;subst e;cases l with
 |cons r f=>
  cases f with
  |cons m f=>
   cases f;obtain⟨t,rfl⟩:=r;obtain⟨C,rfl⟩:=m;show call_range_2 (CJ z g u o n q)
def SA(e:TI)(g:TG)(f:TS):TS:=λD σ H=>e σ H λJ H1=>∃W:Nat->Nat->St->Hp->Prop,(∃m,W 0 m σ H1)/\∀i m σ H,W i m σ H->
 (J.stop i H/\D.nx σ H)\/(J.go i H/\∃N:St->Hp->Prop,(∀b a,N b a->∃c,c<m/\W (i+1) c b a)/\∀x a,J.qh i H x a->g x σ a λd h=>f {D with nx:=N,ct:=N,bk:=D.nx} d h)
def vn(fp:List Addr)(h:Heap):List (Addr×Obj):=fp.filterMap λb=>(h.get? b).map λo=>(b,o)
def pC{h:Heap}(a:b∈fp)(e:h.get? b=some o):(b,o)∈vn fp h:=aam.mpr ⟨b,a,by rw[e];rfl⟩
def J6{h:Heap}(a:p∈vn fp h):p.1∈fp/\h.get? p.1=some p.2:=by
 obtain⟨b,c,e⟩:=aam.mp a;cases q:h.get? b with
 |none=>rw[q]at e;cases e
 |some o=>
  rw[q]at e;let d:(b,o)=p:=Yq e;subst d;show⟨c,q⟩
def Inv.pinned{pins:List (Addr×Obj)}{σ:St}{H:Hp}{s:Shared}{fp:List Addr}(I:Inv X pins σ H s)(h:∀b∈fp,n_ X pins H b)(g:∀b∈fp,∃o,s.heap.get? b=some o/\∀v,o.data≠ .cell v):Inv X (pins++vn fp s.heap) σ H s:=
 I.vN λp f=>(XZ.mp f).elim (λz=>I.pin p (XI _ z)) λz=>by
  obtain⟨a,e⟩:=J6 z;obtain⟨k,j,i,_⟩:=h p.1 a;obtain⟨o,c,d⟩:=g p.1 a;rw[e]at c;cases c;show⟨e,k,j,i,d⟩
def Inv.jl{pins pl:List (Addr×Obj)}{σ:St}{H:Hp}{s:Shared}(I:Inv X (pins++pl) σ H s):Inv X pins σ H s:=I.vN λp a=>I.pin p (XI _ (YB _ a))
def RI{k:Expr}{V:TI}{g:TG}(K:PassesOwn (model X.prog X.w) X.A X.env X.xe)(hc:X.calm=true)(hi:PI X tg k V)(hg:PG X tg g)(l:ja X y Z)
 (hs:∀x,foldedSetIterable k X.env x=pure x:=by intro _;rfl):PS X (.For tg k y [] pos) (SA V g Z):=by
 intro a s σ H D I h;show wpAny_For (cj (hi a s σ H _ I h) λv s1 h1=>cj h1 λab s2 h2=>?_) hs;obtain⟨it,M,Y,J,H2,e,I2,T,P,f2,W,⟨m0,w0⟩,C⟩:=h2;subst e;let j:∀ {t:Hp},(∀b∈M,t b=none)->∀b∈M,n_ X a t b:=λhn b l=>⟨hn b l,(f2 b l).2⟩
 show codeAny_forLoop_any (λn s'=>∃i B t,Inv X a B t s'/\Y i s'.heap/\(∀b∈M,t b=none)/\W i n B t) ?_ m0 ⟨0,σ,H2,I2,P,λb l=>(f2 b l).1,w0⟩;rintro n s3 ⟨i,A,O,I3,F,L,w3⟩;rcases C i n A O w3 with⟨E,qn⟩|⟨go,N,hN,step⟩
 . show Zm K (cj (T.done X rfl rfl rfl hc i a s3 A O X.xe I3 (j L) F E) λr s4 ⟨R,I4⟩=>?_);subst R;show aaM ⟨A,O,I4,qn⟩
 . show Zm K (cj (T.item X rfl rfl rfl hc i a s3 A O X.xe I3 (j L) F go) λr s4 ⟨u,R,h4⟩=>?_);subst R;show Zm K (cj h4 λ_ s5 ⟨x,H5,I5,r5,y5,z,S⟩=>?_);let U:=I5.pinned (j S) (T.obj _ _ z);show Zm K (cj (hg _ s5 A H5 x u _ U r5 (step x H5 y5)) λ_ s6 ⟨σ6,H6,I6,q6⟩=>?_);show Zm K (cj (l _ s6 σ6 H6 _ I6 q6) λf Q w=>?_)
   let again:∀ {c:St} {q:Hp},Inv X (a++vn M s5.heap) c q Q->N c q->∃m,m<n/\∃i B t,Inv X a B t Q/\Y i Q.heap/\(∀b∈M,t b=none)/\W i m B t:=λ{c q} p G=>by
    obtain⟨m',hm,w7⟩:=hN c q G;show⟨m',hm,i+1,c,q,p.jl,T.keep _ _ _ z λb l o e=>(p.pin (b,o) (XI _ (XI _ (pC l e)))).1,λb l=>?_,w7⟩;obtain⟨o,e,d⟩:=T.obj _ _ z b l;show(p.pin (b,o) (XI _ (XI _ (pC l e)))).2.1
   cases f with
   |next=>obtain⟨c,q,p,G⟩:=w;show again p G
   |cont=>obtain⟨c,q,p,G⟩:=w;show again p G
   |brk=>obtain⟨c,q,p,w⟩:=w;show⟨c,q,p.jl,w⟩
   |ret v=>obtain⟨x7,c,q,p,r7,w⟩:=w;show⟨x7,c,q,p.jl,r7,w⟩
end
def j8{c:Int}{n:Nat}{g:TG}{j:TS}{D:Ends}{σ:St}{H:Hp}(Pv:Nat->St->Hp->Prop)(r:Pv 0 σ H)
 (o:∀i σ H,i<n->Pv i σ H->g (.int (c+i)) σ H λd h=>j {D with nx:=Pv (i+1),ct:=Pv (i+1),bk:=D.nx} d h) (q:∀σ H,Pv n σ H->D.nx σ H):
 ∃W:Nat->Nat->St->Hp->Prop,(∃m,W 0 m σ H)/\∀i m σ H,W i m σ H->
  ((AY c n).stop i H/\D.nx σ H)\/((AY c n).go i H/\∃N:St->Hp->Prop,(∀f b,N f b->∃k,k<m/\W (i+1) k f b)/\∀x b,(AY c n).qh i H x b->g x σ b λd h=>j {D with nx:=N,ct:=N,bk:=D.nx} d h):=by
 show⟨λi m σ H=>m=n-i/\i<=n/\Pv i σ H,⟨n,by simp,XY _,r⟩,?_⟩;rintro i m σ H ⟨rfl,s,p⟩;by_cases a:i<n
 . show .inr ⟨a,Pv (i+1),λf b l=>⟨n-(i+1),by lia,rfl,a,l⟩,λx b y=>?_⟩;obtain⟨e,y⟩:=y;subst e y;show o i σ _ a p
 . have e:i=n:=by lia
   subst e;show .inl ⟨Xl _,q σ H p⟩
abbrev R2:=V->V->Hp->VK->Prop
def cm(X:Cx)(f:Value->Value->Sem Value)(r:R2):Prop:=
 ∀(a:List (Addr×Obj)) (s:Shared) (σ:St) (H:Hp) (x y:V) (v u:Value) (Q:VK),Inv X a σ H s->RelV x v->RelV y u->r x y H Q->
  wpAny (model X.prog X.w) X.A (f v u) (EP X a σ Q) X.xe s
def Gw(X:Cx)(f:Value->Sem Value)(r:V->Hp->VK->Prop):Prop:=
 ∀(a:List (Addr×Obj)) (s:Shared) (σ:St) (H:Hp) (x:V) (v:Value) (Q:VK),Inv X a σ H s->RelV x v->r x H Q->
  wpAny (model X.prog X.w) X.A (f v) (EP X a σ Q) X.xe s
def cw(X:Cx)(f:Value)(r:List V->Hp->VK->Prop):Prop:=
 ∀(a:List (Addr×Obj)) (s:Shared) (σ:St) (H:Hp) (xs:List V) (us:List Value) (Q:VK),Inv X a σ H s->Vals xs us->r xs H Q->
  wpAny (model X.prog X.w) X.A (call f us) (EP X a σ Q) X.xe s
def Jj(r:R2)(b a:TE):TE:=λσ H Q=>b σ H λx H1=>a σ H1 λy c=>r x y c Q
def VI(r:V->Hp->VK->Prop)(a:TE):TE:=λσ H Q=>a σ H λx H1=>r x H1 Q
def rI(C:Int->Int->Prop)(g:Int->Int->V):R2:=λx y H Q=>∃i j,x= .int i/\y= .int j/\C i j/\Q (g i j) H
def yk(g:Int->Int->V):R2:=λx y H Q=>∃i j,x= .int i/\y= .int j/\Q (g i j) H
def rU(g:Int->V):V->Hp->VK->Prop:=λx H Q=>∃i,x= .int i/\Q (g i) H
section
variable {X:Cx}{a b c:Expr}{ta tb tc:TE}{pos:Pos}
def M8(q:PE X a ta)(p:PE X b tb){pins:List (Addr×Obj)}{s:Shared}{σ:St}{H:Hp}{R:V->V->Hp->Prop}(I:Inv X pins σ H s)
 (h:ta σ H λx H1=>tb σ H1 λy d=>R x y d) {Q:Value->Shared->Prop} {f:Value->Value->Sem Value}
 (o:∀v u e x y d,Inv X pins σ d e->RelV x v->RelV y u->R x y d->wpAny (model X.prog X.w) X.A (f v u) Q X.xe e):
 wpAny (model X.prog X.w) X.A (eval a X.env) (λv i=>wpAny (model X.prog X.w) X.A (eval b X.env) (λu g=>wpAny (model X.prog X.w) X.A (f v u) Q X.xe g) X.xe i) X.xe s:=by
 show cj (q pins s σ H _ I h) λv j ⟨x,H1,t,l,n⟩=>?_;show cj (p pins j σ H1 _ t n) λu e ⟨y,d,r,k,m⟩=>?_;show o v u e x y d r l k m
def Tv(i:cm X (binaryOp op) r)(k:PE X a ta)(j:PE X b tb):PE X (.BinOp a op b pos) (Jj r ta tb):=by
 intro d s σ H Q I h;show wpAny_BinOp (M8 k j I h λv u e x y m l g f q=>i d e σ m x y v u Q l g f q)
def US(i:Gw X (unaryOp op) r)(j:PE X a ta):PE X (.UnaryOp op a pos) (VI r ta):=by
 intro d s σ H Q I h;show UnaryOp_ (cj (j d s σ H _ I h) λv e ⟨x,H1,k,f,g⟩=>i d e σ H1 x v Q k f g)
def N2{f:Value->Value->Sem Value}{g:Int->Int->Int}
 (d:∀(i j:Int) (t u:Tok) (s:Shared) (Q:Value->Shared->Prop) (E:Value->Shared->Prop),C i j->Q (.int (g i j) s.toks) {s with toks:=s.toks+1}->wpAny (model X.prog X.w) X.A (f (.int i t) (.int j u)) Q E s):
 cm X f (rI C λi j=> .int (g i j)):=by
 intro e s σ H x y v u Q I m l h;obtain⟨i,j,rfl,rfl,n,q⟩:=h;obtain⟨t,rfl⟩:=m;obtain⟨k,rfl⟩:=l;show d i j t k s _ _ n ⟨.int (g i j),H,I.tok _,⟨_,rfl⟩,q⟩
def RM{f:Value->Value->Sem Value}{g:Int->Int->Int}
 (d:∀(i j:Int) (t u:Tok) (s:Shared) (Q:Value->Shared->Prop) (E:Value->Shared->Prop),Q (.int (g i j) s.toks) {s with toks:=s.toks+1}->wpAny (model X.prog X.w) X.A (f (.int i t) (.int j u)) Q E s):
 cm X f (yk λi j=> .int (g i j)):=by
 intro e s σ H x y v u Q I m l h;obtain⟨i,j,rfl,rfl,q⟩:=h;obtain⟨t,rfl⟩:=m;obtain⟨k,rfl⟩:=l;show d i j t k s _ _ ⟨.int (g i j),H,I.tok _,⟨_,rfl⟩,q⟩
def IF{f:Value->Value->Sem Value}{g:Int->Int->Bool}
 (d:∀(i j:Int) (t u:Tok) (s:Shared) (Q:Value->Shared->Prop) (E:Value->Shared->Prop),Q (.bool (g i j)) s->wpAny (model X.prog X.w) X.A (f (.int i t) (.int j u)) Q E s):
 cm X f (yk λi j=> .bl (g i j)):=by
 intro e s σ H x y v u Q I m l h;obtain⟨i,j,rfl,rfl,q⟩:=h;obtain⟨t,rfl⟩:=m;obtain⟨k,rfl⟩:=l;show d i j t k s _ _ ⟨.bl (g i j),H,I,rfl,q⟩
def Me(i j:Int):Prop:=0<=j/\j<=1000000/\i.natAbs<2^64
def RG:cm X (binaryOp .Add) (yk λi j=> .int (i+j)):=RM λ_ _ _ _ _ _ _ q=>add_int q
def QG:cm X (binaryOp .Sub) (yk λi j=> .int (i-j)):=RM λ_ _ _ _ _ _ _ q=>sub_int q
def OI:cm X (binaryOp .Mod) (rI (λ_ j=>j≠0) λi j=> .int (i.fmod j)):=N2 λ_ _ _ _ _ _ _ d q=>mod_int' d q
def SE:cm X (binaryOp .Pow) (rI Me λi j=> .int (i^j.toNat)):=N2 λ_ _ _ _ _ _ _ d q=>pow_int_small d.1 d.2.1 d.2.2 q
def WL{f:Value->Sem Value}{g:Int->Int}
 (d:∀(i:Int) (t:Tok) (s:Shared) (Q:Value->Shared->Prop) (E:Value->Shared->Prop),Q (.int (g i) s.toks) {s with toks:=s.toks+1}->wpAny (model X.prog X.w) X.A (f (.int i t)) Q E s):
 Gw X f (rU λi=> .int (g i)):=by
 intro e s σ H x v Q I j h;obtain⟨i,rfl,q⟩:=h;obtain⟨t,rfl⟩:=j;show d i t s _ _ ⟨.int (g i),H,I.tok _,⟨_,rfl⟩,q⟩
def Rk:Gw X (unaryOp .USub) (rU λi=> .int (-i)):=WL λ_ _ _ _ _ q=>neg_int q
end
def Wq:V->V->Bool
 | .au,.au=>true| .au,.int _=>true| .int _,.au=>true| .au,.bl _=>true| .bl _,.au=>true| .au,.str _=>true| .str _,.au=>true
 | .int _,.int _=>true| .bl _,.bl _=>true| .str _,.str _=>true| .wJ _,.wJ _=>true
 | .int _,.str _=>true| .str _,.int _=>true| .bl _,.str _=>true| .str _,.bl _=>true
 |_,_=>false
def W0:R2:=λx y H Q=>Wq x y=true/\Q (.bl (!decide (x=y))) H
def Pu:decide (V.int i=V.int j)=(i==j):=by
 rw[aaN];simp
def Rv:decide (V.bl i=V.bl j)=(i==j):=by
 rw[aaN];simp
def OT:decide (V.str i=V.str j)=(i==j):=by
 rw[aaN];simp
def Qo{i j:Array UInt8}:decide (V.wJ i=V.wJ j)=(i.toList==j.toList):=by
 rw[aaN];cases i;cases j;simp
section
variable {X:Cx}{a b c:Expr}{ta tb tc:TE}{pos:Pos}
def fR{pins:List (Addr×Obj)}{σ:St}{H:Hp}{s:Shared}{Q:VK}{k d:Bool}(I:Inv X pins σ H s)(q:Q (.bl k) H)(e:k=d):EP X pins σ Q (.bool d) s:=by
 subst e;show⟨.bl k,H,I,rfl,q⟩
def Vh:cm X (compareOp .NotEq) W0:=by
 intro k s σ H x y v u Q I g d h;obtain⟨f,q⟩:=h;cases x with
 |au=>
  cases g;cases y with
  |au=>cases d;show PySem.EqNone.ne_none_none (fR I q (by simp))
  |bl j=>cases d;show PySem.EqNone.ne_none_bool (fR I q (by simp))
  |int j=>obtain⟨e,rfl⟩:=d;show PySem.EqNone.ne_none_int (fR I q (by simp))
  |str j=>obtain⟨e,rfl⟩:=d;show PySem.EqNone.ne_none_str (fR I q (by simp))
  |_=>show absurd (show false=true from f) Yw
 |bl i=>
  cases g;cases y with
  |au=>cases d;show PySem.EqNone.ne_bool_none (fR I q (by simp))
  |bl j=>cases d;show ne_bool (fR I q (YQ not Rv))
  |str j=>obtain⟨e,rfl⟩:=d;show PySem.EqMixed.ne_bool_str (fR I q (by simp))
  |_=>show absurd (show false=true from f) Yw
 |int i=>
  obtain⟨t,rfl⟩:=g;cases y with
  |au=>cases d;show PySem.EqNone.ne_int_none (fR I q (by simp))
  |int j=>obtain⟨e,rfl⟩:=d;show ne_int (fR I q (YQ not Pu))
  |str j=>obtain⟨e,rfl⟩:=d;show PySem.EqMixed.ne_int_str (fR I q (by simp))
  |_=>show absurd (show false=true from f) Yw
 |str i=>
  obtain⟨t,rfl⟩:=g;cases y with
  |au=>cases d;show PySem.EqNone.ne_str_none (fR I q (by simp))
  |bl j=>cases d;show PySem.EqMixed.ne_str_bool (fR I q (by simp))
  |int j=>obtain⟨e,rfl⟩:=d;show PySem.EqMixed.ne_str_int (fR I q (by simp))
  |str j=>obtain⟨e,rfl⟩:=d;show ne_str (fR I q (YQ not OT))
  |_=>show absurd (show false=true from f) Yw
 |wJ i=>
  obtain⟨t,rfl⟩:=g;cases y with
  |wJ j=>obtain⟨e,rfl⟩:=d;show PySem.W.ne_bytes (fR I q (YQ not Qo))
  |_=>show absurd (show false=true from f) Yw
 |_=>cases y<;>show absurd (show false=true from f) Yw
def UW:cm X (compareOp .Lt) (yk λi j=> .bl (decide (i<j))):=IF λ_ _ _ _ _ _ _ q=>lt_int q
def Tx:cm X (compareOp .LtE) (yk λi j=> .bl (decide (i<=j))):=IF λ_ _ _ _ _ _ _ q=>le_int q
def Ug:cm X (compareOp .Gt) (yk λi j=> .bl (decide (j<i))):=IF λ_ _ _ _ _ _ _ q=>gt_int q
def Ut:cm X (compareOp .GtE) (yk λi j=> .bl (decide (j<=i))):=IF λ_ _ _ _ _ _ _ q=>ge_int q
def Qx:cm X (compareOp .Is) (λx y H Q=>y= .au/\Q (.bl (decide (x= .au))) H):=by
 intro e s σ H x y v u Q I d f h;obtain⟨rfl,q⟩:=h;cases f;show is_none_gen (fR I q ?_)
 cases x<;>first
  |(cases d;rfl)
  |(obtain⟨t,rfl⟩:=d;rfl)
def O6:cm X (compareOp .IsNot) (λx y H Q=>y= .au/\Q (.bl (!decide (x= .au))) H):=by
 intro e s σ H x y v u Q I d f h;obtain⟨rfl,q⟩:=h;cases f;show isnot_none_gen (fR I q ?_)
 cases x<;>first
  |(cases d;rfl)
  |(obtain⟨t,rfl⟩:=d;rfl)
def cW(b:Expr)(h:op≠ .In:=by decide)(d:op≠ .NotIn:=by decide):behindInMarks op b=false:=by
 let f:(op==CmpOp.In)=false:=by cases op<;>first|rfl|show absurd rfl h
 let e:(op==CmpOp.NotIn)=false:=by cases op<;>first|rfl|show absurd rfl d
 cases b<;>simp[behindInMarks,f,e]
def PZ(i:cm X (compareOp op) r)(l:PE X a ta)(k:PE X b tb)(j:behindInMarks op b=false):PE X (.Compare a [op] [b] pos) (Jj r ta tb):=by
 intro d s σ H Q I h;show wpAny_Compare1 (M8 l k I h λv u e x y n m g f q=>i d e σ n x y v u Q m g f q) j
def NP(t:TE):TT:=λσ H Q=>t σ H λx d=>∃k,x= .bl k/\Q k d
def O5(p:cm X (compareOp op) r)(w:PE X a ta)(t:PE X b tb)(q:behindInMarks op b=false):PT X (.Compare a [op] [b] pos) (NP (Jj r ta tb)):=by
 intro d s σ H Q I h
 show wpAny_isTrue_Compare1 (cj (w d s σ H _ I h) λv g ⟨x,H1,C,l,o⟩=>cj (t d g σ H1 _ C o) λu f ⟨y,E,B,j,n⟩=>
  cj (p d f σ E x y v u _ B l j n) λc F ⟨z,D,A,i,k,e,m⟩=>?_) q
 subst e;cases i;show YN ⟨D,A,m⟩
def C7(r f:R2)(ta tb tc:TE):TE:=λσ H Q=>ta σ H λx H1=>tb σ H1 λy h=>r x y h λz d=>∃k,z= .bl k/\
 (if k=true then tc σ d λe g=>f y e g Q else Q (.bl false) d)
def MI{op g:CmpOp}(K:cm X (compareOp op) r)(i:cm X (compareOp g) l)(O:PE X a ta)(N:PE X b tb)(M:PE X c tc)
 (L:lastMarks [op,g] [b,c]=false:=by with_unfolding_all rfl):PE X (.Compare a [op,g] [b,c] pos) (C7 r l ta tb tc):=by
 intro f s σ H Q I h
 show Compare_chain (cj (O f s σ H _ I h) λv B ⟨x,H1,S,E,J⟩=>chain_link (cj (N f B σ H1 _ S J) λu A ⟨y,U,R,j,G⟩=>
  cj (K f A σ U x y v u _ R E j G) λd w ⟨z,o,n,D,k,e,m⟩=>?_)) L
 subst e;cases D;show YN ?_;cases k with
 |false=>show ite_ff ⟨.bl false,o,n,rfl,m⟩
 |true=>show ite_tt (chain_last (cj (M f w σ o _ n m) λq t ⟨p,T,P,C,F⟩=>i f t σ T y p u q Q P j C F))
def MO{op g:CmpOp}(N:cm X (compareOp op) r)(i:cm X (compareOp g) l)(S:PE X a ta)(R:PE X b tb)(P:PE X c tc)
 (O:lastMarks [op,g] [b,c]=false:=by with_unfolding_all rfl):PT X (.Compare a [op,g] [b,c] pos) (NP (C7 r l ta tb tc)):=by
 intro f s σ H Q I h
 show isTrue_chain (cj (S f s σ H _ I h) λv B ⟨x,H1,Z,F,L⟩=>test_link (cj (R f B σ H1 _ Z L) λu A ⟨y,H2,Y,j,K⟩=>
  cj (N f A σ H2 x y v u _ Y F j K) λd w ⟨z,o,n,E,k,e,m⟩=>?_)) O
 subst e;cases E;show YN ?_;cases k with
 |false=>
  obtain⟨k',U,M⟩:=m;cases U;show ite_ff ⟨o,n,M⟩
 |true=>
  show ite_tt (test_last (cj (P f w σ o _ n m) λq t ⟨p,H4,W,D,J⟩=>cj (i f t σ H4 y p u q _ W j D J) λd' s5 ⟨z2,H5,V,C,k2,T,G⟩=>?_));subst T;cases C;show YN ⟨H5,V,G⟩
def sx:(sizeLine:Nat)<2^63:=by rw[Zg];decide
def G0:cm X (binaryOp .Add) (λx y H Q=>∃i j,x= .str i/\y= .str j/\i.length+j.length<=sizeLine/\Q (.str (i++j)) H):=by
 intro d s σ H x y v u Q I g f h;obtain⟨i,j,rfl,rfl,k,q⟩:=h;obtain⟨t,rfl⟩:=g;obtain⟨e,rfl⟩:=f;show add_str (λe tk=>⟨.str (i++j),H,I.tok _,⟨_,rfl⟩,q⟩) k
def vals1(r:Vals [x] us):∃u,us=[u]/\RelV x u:=by
 cases r with
 |cons e d=>cases d;show⟨_,rfl,e⟩
def vals2(r:Vals [x,y] us):∃u d,us=[u,d]/\RelV x u/\RelV y d:=by
 cases r with
 |cons h g=>
  cases g with
  |cons f e=>cases e;show⟨_,_,rfl,h,f⟩
def Mb:cw X (.builtin "abs") (λd H Q=>∃i,d=[.int i]/\Q (.int (if i<0 then-i else i)) H):=by
 intro e s σ H d f Q I r h;obtain⟨i,rfl,q⟩:=h;obtain⟨u,rfl,t,rfl⟩:=vals1 r;show call_abs_int λu tk=>⟨.int (if i<0 then-i else i),H,I.tok _,⟨_,rfl⟩,q⟩
def Kn(g:X.calm=true):cw X (.builtin "max") (λe H Q=>∃i j,e=[.int i,.int j]/\Q (.int (if j>i then j else i)) H):=by
 intro f s σ H e m Q I r h;obtain⟨i,j,rfl,q⟩:=h;obtain⟨u,l,rfl,⟨t,rfl⟩,⟨n,rfl⟩⟩:=vals2 r;show max_two_ints (I.ok.hd g) λo tk k=>⟨_,H,I.kept k,?_,q⟩
 by_cases d:j>i
 . rw[Xr d,Xr d];show⟨_,rfl⟩
 . rw[Xn d,Xn d];show⟨_,rfl⟩
def IY(g:X.calm=true):cw X (.builtin "min") (λe H Q=>∃i j,e=[.int i,.int j]/\Q (.int (if j<i then j else i)) H):=by
 intro f s σ H e m Q I r h;obtain⟨i,j,rfl,q⟩:=h;obtain⟨u,l,rfl,⟨t,rfl⟩,⟨n,rfl⟩⟩:=vals2 r;show min_two_ints (I.ok.hd g) λo tk k=>⟨_,H,I.kept k,?_,q⟩
 by_cases d:j<i
 . rw[Xr d,Xr d];show⟨_,rfl⟩
 . rw[Xn d,Xn d];show⟨_,rfl⟩
def Kt:cw X (.type "int") (λd H Q=>(∃i,d=[.int i]/\Q (.int i) H)\/∃k,d=[.bl k]/\Q (.int (if k then 1 else 0)) H):=by
 intro e s σ H d g Q I r h;rcases h with⟨i,rfl,q⟩|⟨k,rfl,q⟩
 . obtain⟨u,rfl,t,rfl⟩:=vals1 r;show call_int_int ⟨.int i,H,I,⟨_,rfl⟩,q⟩
 . obtain⟨u,rfl,f⟩:=vals1 r;cases f;show call_int_bool ⟨.int (if k then 1 else 0),H,I.tok _,⟨_,rfl⟩,q⟩
end
structure x8(h:Heap)(x dx C:Addr)(mA:Str->Option Value):Prop where
 obj:h.get? x=some (PySem.W.instObj C dx)
 ns:h.Ns1 dx mA
 ne:dx≠x
def K2{h:Heap}{g:Addr}{d:Str->Option Value}(n:h.Ns1 g d):∃c,h.get? g=some c/\∀name,PySem.W.lookIn name c=some (d name):=by
 obtain⟨o,f,r,j,m,l,_,k⟩:=n;show⟨o,j,λname=>?_⟩;let e:=k name;unfold nsFind findBy at e;rw[<-Array.find?_toList]at e;unfold PySem.W.lookIn;rw[m];dsimp only;split
 . rename_i y q;rw[q]at e;show YQ some e
 . rename_i q;rw[q]at e
   let a:f.toList.any (·.refKey)=false:=by
    rw[List.any_eq_false];intro y i;obtain⟨z,t,b⟩:=l y (Array.mem_toList_iff.mp i);simp[DictEntry.refKey,b]
   let p:¬f.toList.any (·.refKey)=true:=by rw[a];show Yw
   rw[Xn p];show YQ some e
def x8.look{b:Str->Option Value}(I:x8 h x c C b):∃a,PySem.W.InstAt h x (PySem.W.instObj C c) C (some a)/\∀name,PySem.W.lookIn name a=some (b name):=
 let⟨a,ho,hl⟩:=K2 I.ns
 ⟨a,⟨I.obj,rfl,rfl,ho⟩,hl⟩
section
variable {prog:Program}{w:World}{A:Around}{E:Value->Shared->Prop}{s:Shared}{K:PySem.W.Frag}{x dx C f:Addr}{mA:Str->Option Value}{name:Str}{v:Value}
def get_map(X:K.In s.heap)(I:x8 s.heap x dx C mA)(g:PySem.W.plainGet K C name=true)(e:PySem.W.hasDictIn K C=true)
 (i:PySem.W.findIn K (.ref C) name=some none) (c:mA name=some v) (b:PySem.W.handedIn v=true) (h:Q v {s with toks:=s.toks+1}):
 wpAny (model prog w) A (getAttr (.ref x) name a) Q E s:=by
 obtain⟨j,J,d⟩:=I.look;show PySem.W.get_value X J (aaZ g).1 (PySem.W.findObj_own e i rfl (by rw[d,c])) b h
def Md{pl:Sem Bool}(X:K.In s.heap)(I:x8 s.heap x dx C mA)(a:PySem.W.plainGet K C name=true)
 (g:PySem.W.findIn K (.ref C) name=some (some (.ref f))) (d:PySem.W.isFn K (.ref f)=true) (c:mA name=none) (h:Q (.ref f,[.ref x]) s):
 wpAny (model prog w) A (getMethod (.ref x) name pl) Q E s:=by
 obtain⟨b,J,e⟩:=I.look;show PySem.W.method_fn X J (aaZ a).1 (aaZ a).2 g (Zh.mp d) (by change(PySem.W.lookIn name b).map (·.isSome)=some false;rw[e,c];rfl) h
def jL{ns:List Str}(X:K.In s.heap)(I:x8 s.heap x dx C mA)
 (o:PySem.W.findIn K (.ref C) "__setattr__"=some (some (.builtin "object.__setattr__"))) (p:PySem.W.plainOver K C=true) (m:PySem.W.takerIn K C name=some none) (q:PySem.W.hasDictIn K C=true)
 (l:PySem.Within mA ns) (n:ns.length<=sizeLine)
 (h:∀h',x8 h' x dx C (λy=>if y=name then some v else mA y)->Heap.SameBut dx s.heap h'->Q () {s with heap:=h',toks:=s.toks+2}):
 wpAny (model prog w) A (setAttr (.ref x) name v) Q E s:=by
 obtain⟨B,J,F⟩:=I.look;show PySem.W.set_plain X J o (PySem.W.osa_open (s:={s with toks:=s.toks+1}) (r:=none) X J p m λb=>?_);obtain⟨G,t,i⟩:=PySem.W.any_some q;let k:s.heap.get? x=some ⟨.ref C,some dx,.plain,#[]⟩:=I.obj;show Xi (Xz (Xi (Xi (wpAny_loadPart k (Xi (PySem.W.Looks.here (s:={s with toks:=s.toks+1}) (PySem.W.looks_clsIn X t) ?_))))));rw[i];show Xz (a:=some dx) (Xi (Xz (Xi ?_)));show wpAny_nsSet1 (s:={s with toks:=s.toks+1}) I.ns λh' d c=>?_;obtain⟨D,u,z,e,g,j⟩:=d.count (PySem.Within.cons name v l);show Xi (wpAny_lookBehind e (by rw[g];show pastItsLine_dict (Xu j (by rw[XH];lia))) ?_);show Xz (h _ ⟨(c.2 _ (Xp I.ne)).trans I.obj,d,I.ne⟩ c)
def M_(X:K.In s.heap)(c:PySem.W.makesIn K C=true)
 (e:PySem.W.findIn K (.ref C) "__init__"=some (some (.ref f))) (i:PySem.W.typeIn K (.ref f)=some (.type "function"))
 (h:codeAny (model prog w) (A.under (.builtin "type.__call__" ⟨.ref C::vs,b⟩)) (.call (.ref f) ⟨.ref (s.heap.objs.size+1)::vs,b⟩) (PySem.W.InitBack (s.heap.objs.size+1) R)
   {s with heap:=(s.heap.push PySem.W.emptyDict).push (PySem.W.instObj C s.heap.objs.size)}):
 codeAny (model prog w) A (.call (.ref C) ⟨vs,b⟩) R s:=by
 obtain⟨k,g,d,t,j⟩:=s;show PySem.W.make_core (PySem.W.makes_of X c) (PySem.W.looks_findIn X e) (λa=>PySem.W.bind_fn X a i) (.inl rfl) h
end
def iY(f:Str)(v:V):List (Str×V)->List (Str×V)
 | []=>[(f,v)]
 |(g,x)::r=>if g=f then(g,v)::r else(g,x)::iY f v r
def wy(f g:Str)(v:V):∀fs:List (Str×V),(iY f v fs).lookup g=if g=f then some v else fs.lookup g
 | []=>by
   change List.lookup g [(f,v)]=_;by_cases h:g=f
   . have a:(g==f)=true:=Zh.mpr h;simp![List.lookup,a,Xr h]
   . have a:(g==f)=false:=Zc.mpr h;simp![List.lookup,a,Xn h]
 |(k,x)::r=>by
  let c:=wy f g v r;rw[show iY f v ((k,x)::r)=(if k=f then(k,v)::r else(k,x)::iY f v r)from rfl];by_cases b:k=f
  . rw[Xr b];by_cases h:g=k
    . have a:(g==k)=true:=Zh.mpr h;simp![List.lookup,a,Xr (h.trans b)]
    . have a:(g==k)=false:=Zc.mpr h;simp![List.lookup,a,Xn (λe:g=f=>h (e.trans b.symm))]
  . rw[Xn b];by_cases h:g=k
    . have a:(g==k)=true:=Zh.mpr h;simp![List.lookup,a,Xn (λe:g=f=>b (h.symm.trans e))]
    . have a:(g==k)=false:=Zc.mpr h;simp![List.lookup,a];show c
def uG(f:Str)(v:V):∀fs:List (Str×V),f∈(iY f v fs).map (·.1)/\∀g,g∈fs.map (·.1)->g∈(iY f v fs).map (·.1)
 | []=>⟨by simp[iY],λg h=>by simp at h⟩
 |(k,x)::r=>by
  obtain⟨c,b⟩:=uG f v r;rw[show iY f v ((k,x)::r)=(if k=f then(k,v)::r else(k,x)::iY f v r)from rfl];by_cases a:k=f
  . rw[Xr a];subst a;show⟨by simp,λg h=>by simpa using h⟩
  . rw[Xn a];show⟨?_,λg h=>?_⟩
    . rw[Ye];show XM _ c
    . rw[Ye]at h⊢;rcases XJ.mp h with e|e
      . show XJ.mpr (.inl e)
      . show XM _ (b g e)
def wK(f:Str)(v:V):∀fs:List (Str×V),(iY f v fs).length<=fs.length+1
 | []=>by simp[iY]
 |(k,x)::r=>by
  let b:=wK f v r;rw[show iY f v ((k,x)::r)=(if k=f then(k,v)::r else(k,x)::iY f v r)from rfl];by_cases a:k=f
  . rw[Xr a,XH,XH];lia
  . rw[Xn a,XH,XH];lia
def rY.some_of(r:rY (some v) o):∃u,o=some u/\RelV v u:=by
 cases o with
 |none=>show(show False from r).elim
 |some u=>show⟨u,rfl,r⟩
def rY.none_of(r:rY none o):o=none:=by
 cases o with
 |none=>rfl
 |some u=>show(show False from r).elim
def Lp(r:RelV v u):PySem.W.handedIn u=true:=by
 cases v with
 |au=>cases (show u=Value.none from r);rfl
 |bl b=>cases (show u=Value.bool b from r);rfl
 |int i=>obtain⟨t,e⟩:=(show∃t,u=Value.int i t from r);cases e;rfl
 |str x=>obtain⟨t,e⟩:=(show∃t,u=Value.str x t from r);cases e;rfl
 |wJ b=>obtain⟨t,e⟩:=(show∃t,u=Value.bytes b t from r);cases e;rfl
 |wR b=>obtain⟨t,e⟩:=(show∃t,u=Value.float b t from r);cases e;rfl
 |ref a=>cases (show u=Value.ref a from r);rfl
 |ty n=>cases (show u=Value.type n from r);rfl
section
variable {P:Program}{w:World}{H H':Hp}{h h':Heap}{a C dx:Addr}{fs fs':List (Str×V)}
def sD(i:jz P w H h)(e:H a=some (.ins C dx fs)):∃b,x8 h a dx C b/\(∀f,rY (fs.lookup f) (b f))/\PySem.Within b (fs.map (·.1))/\fs.length<=1000/\H dx=some (.own a):=by
 obtain⟨d,z,g,c,b,n,r,q⟩:=(show d_ P w H h a (.ins C dx fs)from i a _ e)
 show⟨b,⟨c,n,g⟩,r,q,z,d⟩
end
structure oQ(K:PySem.W.Frag)(C:Addr):Prop where
 pg:PySem.W.plainGet K C Str.empty=true
 hd:PySem.W.hasDictIn K C=true
 po:PySem.W.plainOver K C=true
 sa:PySem.W.findIn K (.ref C) "__setattr__"=some (some (.builtin "object.__setattr__"))
def oQ.get{K:PySem.W.Frag}{C:Addr}(c:oQ K C)(f:Str):PySem.W.plainGet K C f=true:=c.pg
def df(K:PySem.W.Frag)(C:Addr)(f:Str):Prop:=PySem.W.findIn K (.ref C) f=some none
def df.TM{K:PySem.W.Frag}{C:Addr}{f:Str}(n:df K C f):PySem.W.takerIn K C f=some none:=by
 unfold PySem.W.takerIn;rw[show PySem.W.findIn K (.ref C) f=some none from n];rfl
structure Meth(K:PySem.W.Frag)(C:Addr)(m:Str)(f:Addr):Prop where
 at_:PySem.W.findIn K (.ref C) m=some (some (.ref f))
 fn:PySem.W.isFn K (.ref f)=true
 kp:PySem.W.keepIn K (.ref f)=true
section
variable {X:Cx}{pins:List (Addr×Obj)}{σ:St}{H:Hp}{s:Shared}{a C dx:Addr}{fs:List (Str×V)}{f:Str}{v:V}{A:Around}{E:Value->Shared->Prop}
def Ie(I:Inv X pins σ H s)(e:H a=some (.ins C dx fs))(c:oQ X.K C)(n:df X.K C f)(l:fs.lookup f=some v)
 (h:∀u s',Inv X pins σ H s'->RelV v u->Q u s'):wpAny (model X.prog X.w) A (getAttr (.ref a) f b) Q E s:=by
 obtain⟨g,O,r,_,_,_⟩:=sD I.aK e;obtain⟨u,i,d⟩:=rY.some_of (v:=v) (o:=g f) (by rw[<-l];show r f);show get_map I.iH O (c.get f) c.hd n i (Lp d) (h u _ (I.tok _) d)
def yn{g:Addr}{pl:Sem Bool}(I:Inv X pins σ H s)(e:H a=some (.ins C dx fs))(c:oQ X.K C)(k:Meth X.K C m g)(l:fs.lookup m=none)
 (h:Q (.ref g,[.ref a]) s):wpAny (model X.prog X.w) A (getMethod (.ref a) m pl) Q E s:=by
 obtain⟨b,O,r,_,_,_⟩:=sD I.aK e;let d:b m=none:=rY.none_of (by rw[<-l];show r m);show Md I.iH O (c.get m) k.at_ k.fn d h
def HV(I:Inv X pins σ H s)(e:H a=some (.ins C dx fs))(c:oQ X.K C)(n:df X.K C f)(F:fs.length<1000)(m:RelV y u)
 (h:∀s',Inv X pins σ (upd H a (.ins C dx (iY f y fs))) s'->Q () s'):wpAny (model X.prog X.w) A (setAttr (.ref a) f u) Q E s:=by
 obtain⟨j,O,r,i,_,k⟩:=sD I.aK e;let p:(fs.map (·.1)).length<=sizeLine:=by rw[Xk,Zg];lia
 show jL I.iH O c.sa c.po n.TM c.hd i p λD d l=>h _ ?_;let w:∃o,D.get? dx=some o:=let⟨o,_,_,e',_⟩:=d.ns;⟨o,e'⟩
 show I.write (x:=a) (e:=dx) (by rw[e];show True.intro) (.inr k) (λb q B z=>(l.2 b B).trans z) w ?_;show⟨by rw[aD O.ne];show k,?_,O.ne,d.obj,_,d.ns,λg=>?_,λg t=>?_⟩
 . have:=wK f y fs;lia
 . change rY ((iY f y fs).lookup g) (if g=f then some u else j g);rw[wy];by_cases q:g=f
   . rw[Xr q,Xr q];show m
   . rw[Xn q,Xn q];show r g
 . by_cases q:g=f
   . rw[q];show(uG f y fs).1
   . show(uG f y fs).2 g (i g λz=>t ?_);change(if g=f then some u else j g)=none;rw[Xn q];show z
def Inv.made(I:Inv X pins σ H s):Inv X pins σ (upd (upd H s.heap.objs.size (.own (s.heap.objs.size+1))) (s.heap.objs.size+1) (.ins C s.heap.objs.size []))
 {s with heap:=(s.heap.push PySem.W.emptyDict).push (PySem.W.instObj C s.heap.objs.size)}:=by
 let d:(s.heap.push PySem.W.emptyDict).get? s.heap.objs.size=some PySem.W.emptyDict:=XE s.heap rfl
 let j:((s.heap.push PySem.W.emptyDict).push (PySem.W.instObj C s.heap.objs.size)).get? (s.heap.objs.size+1)=some (PySem.W.instObj C s.heap.objs.size):=by
  let:=XE (s.heap.push PySem.W.emptyDict) (o:=PySem.W.instObj C s.heap.objs.size) rfl;rwa [Yj]at this
 let i:(s.heap.push PySem.W.emptyDict).Ns s.heap.objs.size (λ_=>none):=⟨PySem.W.emptyDict,#[],_,d,rfl,(λe h=>absurd h (by simp)),λ_=>rfl⟩
 let k:=I.laid (a:=s.heap.objs.size) (o:= .own (s.heap.objs.size+1)) (h':=s.heap.push PySem.W.emptyDict) (t':=s.toks) (λb u q=>Xj _ q) (Xl _) ⟨_,d⟩;show k.laid (a:=s.heap.objs.size+1) (o:= .ins C s.heap.objs.size []) (t':=s.toks) (λb u q=>Xj _ q) (abo (Yj _ _)) ?_;let c:s.heap.objs.size≠s.heap.objs.size+1:=XU (X_ _);show⟨by rw[aD c,a_],XY _,c,j,λ_=>none,(Heap.Ns1.of_empty i).at λo q=>Xj _ q,λ_=>True.intro,λy g=>absurd rfl g⟩
def Qa{e:Expr}{f:Str}{s:Shared}(c:attributeBase e f env (eval e env)=eval e env)
 (h:wpAny (model prog w) A (eval e env) (λo b=>wpAny (model prog w) A (getAttr o f true) Q E b) E s):wpAny (model prog w) A (eval (.Attribute e f pos) env) Q E s:=
 Attribute_any_ h (by rw[arm_eval_Attribute,c])
end
def VV(K:PySem.W.Frag)(b:TE)(f:Str):TE:=λσ H Q=>b σ H λx H1=>∃a C c fs v,x= .ref a/\H1 a=some (.ins C c fs)/\oQ K C/\df K C f/\fs.lookup f=some v/\Q v H1
def V1(K:PySem.W.Frag)(e d:TE)(f:Str):TS:=λD σ H=>d σ H λy H1=>e σ H1 λx c=>∃a C b fs,x= .ref a/\c a=some (.ins C b fs)/\oQ K C/\df K C f/\fs.length<1000/\
 D.nx σ (upd c a (.ins C b (iY f y fs)))
section
variable {X:Cx}{o e value:Expr}{f:Str}{pos pos' tpos:Pos}{ta tv:TE}
def RX(i:PE X e ta)(j:attributeBase e f X.env (eval e X.env)=eval e X.env):PE X (.Attribute e f pos) (VV X.K ta f):=by
 intro b s σ H Q I h;show Qa j (cj (i b s σ H _ I h) λu w ⟨x,H1,p,d,a,C,y,fs,v,ex,k,c,n,l,q⟩=>?_);subst ex;obtain rfl:u=Value.ref a:=d;show Ie p k c n l λr t m g=>⟨v,H1,m,g,q⟩
def QO(r:PE X o ta)(m:PE X value tv)(p:swapsWith value (some (.Attribute o f pos')) pos.line X.env=pure false):PS X (.Assign [.Attribute o f pos'] value pos) (V1 X.K ta tv f):=by
 intro b s σ H D I h;show plainObj_wpAny_Assign_Attribute (cj (m b s σ H _ I h) λu d ⟨y,H1,z,g,q⟩=>cj (r b d σ H1 _ z q) λk B ⟨x,F,w,i,a,C,E,fs,ex,t,c,n,l,j⟩=>?_) p;subst ex;obtain rfl:k=Value.ref a:=i;show HV w t c n l g λA v=>⟨σ,_,v,j⟩
end
section
variable {X:Cx}{pins:List (Addr×Obj)}{σ:St}{H:Hp}{s:Shared}{A:Around}{E:Value->Shared->Prop}{Q:Value->Shared->Prop}{c:Value}{b:Bool}
inductive lH(K:PySem.W.Frag)(H:Hp):V->Value->Prop where
 |au:lH K H .au (.type "NoneType")
 |bl (x:Bool):lH K H (.bl x) (.type "bool")
 |int (i:Int):lH K H (.int i) (.type "int")
 |str (x:Str):lH K H (.str x) (.type "str")
 |wR (x:UInt64):lH K H (.wR x) (.type "float")
 |lst {a:Addr} {xs:List V} (e:H a=some (.lst xs)):lH K H (.ref a) (.type "list")
 |iG {a:Addr} {o:Obj} {xs:List V} (e:H a=some (.iG o (.lst xs))):lH K H (.ref a) (.type "list")
 |tup {a:Addr} {xs:List V} (e:H a=some (.tup xs)):lH K H (.ref a) (.type "tuple")
 |dK {a:Addr} {kvs:List (Key×V)} (e:H a=some (.dK kvs)):lH K H (.ref a) (.type "dict")
 |dT {a:Addr} {kvs:List (List Key×V)} (e:H a=some (.dT kvs)):lH K H (.ref a) (.type "dict")
 |ins {a C dx:Addr} {fs:List (Str×V)} (e:H a=some (.ins C dx fs)) (cl:oQ K C) (ha:PySem.W.findIn K (.ref C) "__class__"=some (some (.builtin "object.__class__")))
   (hn:PySem.W.specialIn K (.builtin "object.__class__") "__get__"=some (some (.builtin "getset_descriptor.__get__"))) (htk:PySem.W.takesIn K (.builtin "object.__class__")=some true)
   (hm:PySem.W.mroIn K C (.type "object")=some true):lH K H (.ref a) (.ref C)
def JR(I:Inv X pins σ H s)(d:RelV x u)(r:lH X.K H x t)(e:PySem.W.kitOne X.K t c=some b)(h:∀tk,Q (.bool b) {s with toks:=tk}):
 wpAny (model X.prog X.w) A (call (.builtin "isinstance") [u,c]) Q E s:=by
 cases r with
 |au=>cases (show u=Value.none from d);show YI PySem.W.kitx_none I.iH True.intro e (λz=>nomatch z) h
 |bl y=>cases (show u=Value.bool y from d);show YI PySem.W.kitx_bool I.iH True.intro e (λz=>nomatch z) h
 |int i=>obtain⟨t,q⟩:=(show∃t,u=Value.int i t from d);cases q;show YI PySem.W.kitx_int I.iH True.intro e (λz=>nomatch z) h
 |str y=>obtain⟨t,q⟩:=(show∃t,u=Value.str y t from d);cases q;show YI PySem.W.kitx_str I.iH True.intro e (λz=>nomatch z) h
 |wR y=>obtain⟨t,q⟩:=(show∃t,u=Value.float y t from d);cases q;show YI PySem.W.kitx_float I.iH True.intro e (λz=>nomatch z) h
 | @lst a k f=>
   cases (show u=Value.ref a from d);obtain⟨_,_,n,_,g⟩:=(show d_ X.prog X.w H s.heap a (.lst k)from I.aK a _ f)
   show YI aaw I.iH ⟨_,g,rfl⟩ e (λz=>nomatch z) h
 | @iG a v k f=>
   cases (show u=Value.ref a from d);obtain⟨_,_,_,n,_,g⟩:=(show d_ X.prog X.w H s.heap a (.iG v (.lst k))from I.aK a _ f)
   show YI aaw I.iH ⟨_,g,rfl⟩ e (λz=>nomatch z) h
 | @tup a k f=>
   cases (show u=Value.ref a from d);obtain⟨_,_,_,p⟩:=(show d_ X.prog X.w H s.heap a (.tup k)from I.aK a _ f)
   obtain⟨o,g,l,_⟩:=p;show YI PySem.W.kitx_tuple I.iH ⟨o,g,l⟩ e (λz=>nomatch z) h
 | @dK a j f=>
   cases (show u=Value.ref a from d);obtain⟨_,_,K,_,p⟩:=(show d_ X.prog X.w H s.heap a (.dK j)from I.aK a _ f)
   obtain⟨o,F,G,g,l,_⟩:=p;show YI aax I.iH ⟨o,g,l.1⟩ e (λz=>nomatch z) h
 | @dT a j f=>
   cases (show u=Value.ref a from d);obtain⟨_,_,k,_,o,F,G,g,l,_⟩:=(show d_ X.prog X.w H s.heap a (.dT j)from I.aK a _ f)
   show YI aax I.iH ⟨o,g,l.1⟩ e (λz=>nomatch z) h
 | @ins a C N fs f cl D w m B=>
   cases (show u=Value.ref a from d);obtain⟨M,O,_⟩:=sD I.aK f;obtain⟨L,J,_⟩:=O.look;show YI (PySem.W.kitx_own (cl.get _) cl.hd D w m B) I.iH J e (λz=>nomatch z) h
end
structure cU(k:Nat)(A:Around):Prop where
 hd:A.handled=none
 dp:A.depth+3*k+105<recursionLimit
 un:A.units+16*k+200<cLine
def cU.mono{j k:Nat}(r:cU k A)(h:j<=k):cU j A:=⟨r.hd,by let:=r.dp;lia,by let:=r.un;lia⟩
def cU.deeper{k:Nat}{A:Around}(r:cU (k+1) A)(env:Env):cU k (A.deeper env):=
 ⟨r.hd,by let:=r.dp;change A.depth+1+3*k+105<_;lia,by let:=r.un;change A.units+3+16*k+200<_;lia⟩
def IC{A:Around}:(A.under (.builtin "type.__call__" ⟨.ref C::us,a⟩)).depth=A.depth+1:=by
 first|rfl|simp[Around.under,Code.weight,Code.isCreation,Code.isGuard,Code.isCaller,Code.frames,Code.isFrame,guardIds]
def Iu{A:Around}:(A.under (.builtin "type.__call__" ⟨.ref C::us,a⟩)).units=A.units+1:=by
 first|rfl|simp[Around.under,Code.cUnits,Code.frames,Code.isFrame]
def cU.make{k:Nat}{A:Around}(r:cU (k+1) A)(C:Addr)(us:List Value)(a:List (Str×Value)):cU k (A.under (.builtin "type.__call__" ⟨.ref C::us,a⟩)):=
 ⟨r.hd,by let:=r.dp;rw[IC];lia,by let:=r.un;rw[Iu];lia⟩
def cU.depth{k:Nat}{A:Around}(r:cU k A):A.depth<recursionLimit:=by let:=r.dp;lia
def cU.units{k:Nat}{A:Around}(r:cU k A):A.units+64<cLine:=by let:=r.un;lia
def Mc:TA:=λ_ H Q=>Q [] H
def T7(b:TE)(tr:TA):TA:=λσ H Q=>b σ H λx H1=>tr σ H1 λa c=>Q (x::a) c
section
variable {X:Cx}{e:Expr}{es:List Expr}{te:TE}{t:TA}{pos:Pos}
def RH:PA X [] Mc:=λ_ _ _ _ H Q I h=>Calls.spliced_nil ⟨[],H,I,.nil,h⟩
def Pw(l:PE X e te)(k:PA X es t)(j:starEach (e::es) X.env=(false,eval e X.env)::starEach es X.env:=by rfl):PA X (e::es) (T7 te t):=by
 intro pos a s σ H Q I h;rw[j];change wpAny _ _ (spliced ((false,eval e X.env)::backTo pos (starEach es X.env))) _ _ s;show Calls.spliced_cons (cj (l a s σ H _ I h) λu c ⟨x,H1,n,f,i⟩=>?_);show cj (k pos a c σ H1 _ n i) λp q ⟨b,o,m,d,g⟩=>⟨x::b,o,m,.cons f d,g⟩
def Wj(t:TA):TE:=λσ H Q=>t σ H λa H1=>a.length<=sizeLine/\∀p,H1 p=none->Q (.ref p) (upd H1 p (.tup a))
def VX(t:TA):TE:=λσ H Q=>t σ H λa H1=>a.length<=sizeLine/\∀p,H1 p=none->Q (.ref p) (upd H1 p (.lst a))
def QY{x1}(h:PA X es t):PE X (.Tuple es x1 pos) (Wj t):=by
 intro a s σ H Q I i;show wpAny_Tuple_spliced (cj (h pos a s σ H _ I i) λg c ⟨f,H1,d,r,z,q⟩=>⟨by rw[<-r.length];show z,?_⟩);let j:H1 c.heap.objs.size=none:=d.aK.fresh (Xl _);show⟨.ref c.heap.objs.size,upd H1 c.heap.objs.size (.tup f),d.laid (t':=c.toks) (λb u e=>Xj _ e) (Xl _) ?_,rfl,q _ j⟩;show⟨z,g,r,⟨_,XE _ rfl,rfl,_,rfl⟩⟩
def Ll(h:PA X es t):PE X (.List es pos) (VX t):=by
 intro a s σ H Q I i;show wpAny_List_spliced (cj (h pos a s σ H _ I i) λg c ⟨f,H1,d,r,z,q⟩=>⟨by rw[<-r.length];show z,?_⟩);let j:H1 c.heap.objs.size=none:=d.aK.fresh (Xl _);show⟨.ref c.heap.objs.size,upd H1 c.heap.objs.size (.lst f),d.laid (t':=c.toks) (λb u e=>Xj _ e) (Xl _) ?_,rfl,q _ j⟩;show⟨z,g,0,r,XE _ rfl⟩
end
abbrev Sp:=List V->Hp->VK->XK->Prop
abbrev wz:=List Env->Hp->Shared->XK->Value->Shared->Prop
structure xw(P:Program)(w:World)(K:PySem.W.Frag)(mg:Str->Option Value)(base:Heap)(A:Around)(outer:List Env)(s:Shared)(H:Hp):Prop where
 frames:A.frames=some outer
 mod:Mod K mg base
 bs:∀b o,base.get? b=some o->s.heap.get? b=some o/\H b=none
 vm:base.objs.size<=s.heap.objs.size
 nv:s.heap.FunFrames base outer
 zh:∀b∈sj outer,H b=none
 aK:jz P w H s.heap
 bare:AllBare s.gens
 gt:P.given.tree=none
def CE(outer:List Env)(P:Program)(w:World)(H:Hp)(s:Shared)(Q:VK)(u:Value)(s':Shared):Prop:=
 ∃v a,s'.os=s.os/\AllBare s'.gens/\Un (sj outer) [] H a s.heap s'.heap/\jz P w a s'.heap/\RelV v u/\Q v a
def CR(a:wz)(outer:List Env)(P:Program)(w:World)(H:Hp)(s:Shared)(Q:VK)(E:XK)(r:Result)(s':Shared):Prop:=
 match r with
 | .ok (.ret u)=>CE outer P w H s Q u s'
 | .ok _=>False
 | .error e=>a outer H s E e s'
structure cH(P:Program)(w:World)(K:PySem.W.Frag)(mg:Str->Option Value)(base:Heap)(CX:wz)(k:Nat)(f:Addr)(fd:FuncData)(ps:List Str)(sp:Sp):Prop where
 len:∀vs H Q E,sp vs H Q E->vs.length=ps.length
 run:∀(A:Around) (outer:List Env) (s:Shared) (H:Hp) (args:Args) (us:List Value) (vs:List V) (Q:VK) (E:XK),cU k A->xw P w K mg base A outer s H->BindsTo s fd args (ps.zip us)->Vals vs us->sp vs H Q E->
  codeAny (model P w) A (.call (.ref f) args) (CR CX outer P w H s Q E) s
def cH.imp{P:Program}{w:World}{K:PySem.W.Frag}{e:Str->Option Value}{a:Heap}{g:wz}{k:Nat}{f:Addr}{fd:FuncData}{d:List Str}{sp b:Sp}(F:cH P w K e a g k f fd d sp)
 (h:∀vs H Q E,b vs H Q E->sp vs H Q E):cH P w K e a g k f fd d b:=
 ⟨λvs H Q E q=>F.len vs H Q E (h _ _ _ _ q),λA outer s H c i vs Q E m n o j l=>F.run A outer s H c i vs Q E m n o j (h _ _ _ _ l)⟩
def xw.make{P:Program}{w:World}{K:PySem.W.Frag}{b:Str->Option Value}{a:Heap}{A:Around}{outer:List Env}{s:Shared}{H:Hp}(e:xw P w K b a A outer s H)(C:Addr)(us:List Value)(c:List (Str×Value)):
 xw P w K b a (A.under (.builtin "type.__call__" ⟨.ref C::us,c⟩)) outer s H:=⟨by first|show e.frames|(simpa[Around.under,Code.envs,Code.isFrame,pushEnvs]using e.frames),e.mod,e.bs,e.vm,e.nv,e.zh,e.aK,e.bare,e.gt⟩
section
variable {X:Cx}{pins:List (Addr×Obj)}{σ:St}{H:Hp}{s s':Shared}
def Inv.Sn(I:Inv X pins σ H s):xw X.prog X.w X.K X.mg X.base X.A X.stack s H:=
 ⟨I.ok.frames,I.ok.mod,I.bs,Xu I.ok.vm I.sz,I.stack,I.zm,I.aK,I.bare,I.ok.gt⟩
def Inv.after(I:Inv X pins σ H s)(h:CE X.stack X.prog X.w H s Q u s'):EP X pins σ Q u s':=by
 obtain⟨v,j,e,a,un,i,r,q⟩:=h;obtain⟨f,g,d,t,c⟩:=s';obtain rfl:c=s.os:=e;show⟨v,j,I.call (h':=f) (g':=g) (d':=d) (t':=t) (ch:=[]) un i a (λb z=>absurd z (by simp)),r,q⟩
end
def NG(sp:Sp)(a:List V)(E:XK)(t:TA):TE:=λσ H Q=>t σ H λb H1=>sp (b++a) H1 Q E
def He(C:Addr)(m:Str)(sp:Sp)(b:List V)(E:XK)(d:TE)(t:TA):TE:=λσ H Q=>d σ H λx H1=>∃a e fs,x= .ref a/\H1 a=some (.ins C e fs)/\fs.lookup m=none/\
 t σ H1 λc f=>sp (x::(c++b)) f Q E
def HU(C:Addr)(sp:Sp)(b:List V)(E:XK)(t:TA):TE:=λσ H Q=>t σ H λc H1=>∀x a,H1 x=none->H1 a=none->a≠x->
 sp (.ref x::(c++b)) (upd (upd H1 a (.own x)) x (.ins C a [])) (λv d=>v= .au/\Q (.ref x) d) E
def Binds(K:PySem.W.Frag)(fd:FuncData)(a:List Str)(b:List Value):Prop:=
 ∀(s:Shared) (us:List Value),K.In s.heap->(us++b).length=a.length->BindsTo s fd ⟨us,[]⟩ (a.zip (us++b))
def Binds.all{K:PySem.W.Frag}{fd:FuncData}{a:List Str}(h:∀us:List Value,us.length=a.length->bindArgs fd ⟨us,[]⟩=pure (a.zip us)):Binds K fd a []:=λs us _ b=>by
 rw[YZ]at b⊢;show .of_eq (h us b)
def Passes(b:wz)(X:Cx)(E:XK):Prop:=∀(a:List (Addr×Obj)) (σ:St) (H:Hp) (s:Shared) (e:Value) (s':Shared),Inv X a σ H s->b X.stack H s E e s'->X.xe e s'
section
variable {X:Cx}{CX:wz}{k:Nat}{f C:Addr}{fd:FuncData}{ps:List Str}{sp:Sp}{dvs:List V}{ds:List Value}{E:XK}{x m:Str}{p pos apos:Pos}{e o:Expr}{es:List Expr}{ta:TE}{t:TA}
def EI{pins:List (Addr×Obj)}{σ:St}{H:Hp}{s:Shared}{Q:VK}{us:List Value}{vs:List V}(F:cH X.prog X.w X.K X.mg X.base CX k f fd ps sp)(g:cU k X.A)(l:Binds X.K fd ps ds)(j:Vals dvs ds)(d:Passes CX X E)
 (I:Inv X pins σ H s) (r:Vals vs us) (h:sp (vs++dvs) H Q E):wpAny (model X.prog X.w) X.A (call (.ref f) us) (EP X pins σ Q) X.xe s:=by
 let b:Vals (vs++dvs) (us++ds):=r.append j;let i:(us++ds).length=ps.length:=by rw[<-b.length];show F.len _ _ _ _ h
 show wpAny_call (abp (F.run X.A X.stack s H ⟨us,[]⟩ (us++ds) (vs++dvs) Q E g I.Sn (l s us I.iH i) b h) λr c a=>?_);cases r with
 |error e=>show d pins σ H s e c I a
 |ok n=>
  cases n with
  |ret u=>show I.after a
  |next=>show False.elim a
  |brk=>show False.elim a
  |cont=>show False.elim a
def OV(F:cH X.prog X.w X.K X.mg X.base CX k f fd ps sp)(i:cU k X.A)(n:Gl X x)(j:X.mg x=some (.ref f))(l:PySem.W.keepIn X.K (.ref f)=true)(w:Binds X.K fd ps ds)(v:Vals dvs ds)(g:Passes CX X E)
 (y:PA X (e::es) t) (c:(x==("__debug__":Str))=false:=by decide) (u:starEach (e::es) X.env=(false,eval e X.env)::starEach es X.env:=by rfl) (b:(backTo pos (starEach es X.env)).any (·.1)=false:=by rfl):
 PE X (.Call (.Name x p) (e::es) [] pos) (NG sp dvs E t):=by
 intro a s σ H Q I h;show Zk (As I n j ?_ c);show aa3 (h₀:=X.base) I.ok.mod.KC l (cj (y pos a s σ H _ I h) λA B ⟨z,H1,d,r,q⟩=>⟨d.iH,?_⟩) u b;show EI F i w v g d r q
def OU{pl:Sem Bool}(D:PE X o ta)(c:oQ X.K C)(i:Meth X.K C m f)(F:cH X.prog X.w X.K X.mg X.base CX k f fd ps sp)(B:cU k X.A)(J:Binds X.K fd ps ds)(G:Vals dvs ds)(z:Passes CX X E)(K:PA X (e::es) t)
 (d:starEach (e::es) X.env=(false,eval e X.env)::starEach es X.env:=by rfl) (g:(backTo pos (starEach es X.env)).any (·.1)=false:=by rfl)
 (A:eval (.Call (.Attribute o m apos) (e::es) [] pos) X.env=(do
   let ov <-eval o X.env
   standAt apos.atName
   let(f,first) <-holding [ov] (getMethod ov m pl)
   callWith pos f first (backTo pos (starEach (e::es) X.env)) (backToKw pos (keywordEach [] X.env))):=by rfl):
 PE X (.Call (.Attribute o m apos) (e::es) [] pos) (He C m sp dvs E ta t):=by
 intro b s σ H Q I h;show abL (pl:=pl) (cj (D b s σ H _ I h) λu v ⟨x,H1,n,w,a,N,fs,ex,L,l,q⟩=>?_) A;subst ex;obtain rfl:u=Value.ref a:=w;show yn n L c i l ?_;show aa3 (first:=[.ref a]) (h₀:=X.base) I.ok.mod.KC i.kp (cj (K pos b v σ H1 _ n q) λus M ⟨vs,O,j,r,y⟩=>⟨j.iH,?_⟩) d g;show EI (us:= .ref a::us) (vs:= .ref a::vs) F B J G z j (.cons rfl r) y
def LW{pl:Sem Bool}(v:PE X o ta)(c:oQ X.K C)(g:Meth X.K C m f)(F:cH X.prog X.w X.K X.mg X.base CX k f fd ps sp)(r:cU k X.A)(y:Binds X.K fd ps ds)(w:Vals dvs ds)(j:Passes CX X E)
 (n:eval (.Call (.Attribute o m apos) [] [] pos) X.env=(do
   let ov <-eval o X.env
   standAt apos.atName
   let(f,first) <-holding [ov] (getMethod ov m pl)
   callWith pos f first (backTo pos (starEach [] X.env)) (backToKw pos (keywordEach [] X.env))):=by rfl):
 PE X (.Call (.Attribute o m apos) [] [] pos) (He C m sp dvs E ta Mc):=by
 intro b s σ H Q I h;show abL (pl:=pl) (cj (v b s σ H _ I h) λu A ⟨x,H1,d,i,a,B,fs,ex,z,l,q⟩=>?_) n;subst ex;obtain rfl:u=Value.ref a:=i;show yn d z c g l ?_;show PySem.W.callWith_K0 (first:=[.ref a]) d.iH g.kp (EI (us:=[.ref a]) (vs:=[.ref a]) F r y w j d (.cons rfl .nil) q)
structure Mk(K:PySem.W.Frag)(C f:Addr):Prop where
 makes:PySem.W.makesIn K C=true
 init:PySem.W.findIn K (.ref C) "__init__"=some (some (.ref f))
 fn:PySem.W.isFn K (.ref f)=true
 kp:PySem.W.keepIn K (.ref C)=true
def CN{pins:List (Addr×Obj)}{σ:St}{H:Hp}{s:Shared}{Q:VK}{us:List Value}{vs:List V}(M:Mk X.K C f)(F:cH X.prog X.w X.K X.mg X.base CX k f fd ps sp)(q:cU (k+1) X.A)(z:Binds X.K fd ps ds)(y:Vals dvs ds)
 (n:Passes CX X E) (I:Inv X pins σ H s) (r:Vals vs us)
 (h:∀x b,H x=none->H b=none->b≠x->sp (.ref x::(vs++dvs)) (upd (upd H b (.own x)) x (.ins C b [])) (λv D=>v= .au/\Q (.ref x) D) E):
 wpAny (model X.prog X.w) X.A (call (.ref C) us) (EP X pins σ Q) X.xe s:=by
 let g:=h (s.heap.objs.size+1) s.heap.objs.size (I.aK.fresh (Nat.le_succ _)) (I.aK.fresh (Xl _)) (XU (X_ _));let c:=Inv.made (C:=C) I;let d:Vals (V.ref (s.heap.objs.size+1)::(vs++dvs)) (Value.ref (s.heap.objs.size+1)::(us++ds)):= .cons rfl (r.append y)
 let w:(Value.ref (s.heap.objs.size+1)::us++ds).length=ps.length:=by
  let e:=d.length;rw[F.len _ _ _ _ g]at e;show e.symm
 show wpAny_call (M_ (f:=f) I.iH M.makes M.init (Zh.mp M.fn) (abp (F.run _ X.stack _ _ ⟨Value.ref (s.heap.objs.size+1)::us,[]⟩ (Value.ref (s.heap.objs.size+1)::(us++ds)) _ _ E (q.make C us [])
  (c.Sn.make C us []) (z _ (Value.ref (s.heap.objs.size+1)::us) c.iH w) d g) λr i a=>?_))
 cases r with
 |error e=>show n pins σ _ _ e i c a
 |ok A=>
  cases A with
  |ret u=>
   obtain⟨v,G,B,j,ev,l⟩:=c.after a;subst ev;show⟨j,⟨V.ref (s.heap.objs.size+1),G,B,rfl,l⟩⟩
  |next=>show False.elim a
  |brk=>show False.elim a
  |cont=>show False.elim a
def Pk(M:Mk X.K C f)(F:cH X.prog X.w X.K X.mg X.base CX k f fd ps sp)(i:cU (k+1) X.A)(l:Gl X x)(j:X.mg x=some (.ref C))(v:Binds X.K fd ps ds)(u:Vals dvs ds)(g:Passes CX X E)
 (w:PA X (e::es) t) (c:(x==("__debug__":Str))=false:=by decide) (n:starEach (e::es) X.env=(false,eval e X.env)::starEach es X.env:=by rfl) (b:(backTo pos (starEach es X.env)).any (·.1)=false:=by rfl):
 PE X (.Call (.Name x p) (e::es) [] pos) (HU C sp dvs E t):=by
 intro a s σ H Q I h;show Zk (As I l j ?_ c);show aa3 (h₀:=X.base) I.ok.mod.KC M.kp (cj (w pos a s σ H _ I h) λz A ⟨y,H1,d,r,q⟩=>⟨d.iH,?_⟩) n b;show CN M F i v u g d r q
def Mr(M:Mk X.K C f)(F:cH X.prog X.w X.K X.mg X.base CX k f fd ps sp)(d:cU (k+1) X.A)(i:Gl X x)(g:X.mg x=some (.ref C))(l:Binds X.K fd ps ds)(j:Vals dvs ds)(c:Passes CX X E)
 (a:(x==("__debug__":Str))=false:=by decide):PE X (.Call (.Name x p) [] [] pos) (HU C sp dvs E Mc):=by
 intro b s σ H Q I h;show Zk (As I i g ?_ a);show PySem.W.callWith_K0 I.iH M.kp (CN (us:=[]) M F d l j c I .nil h)
end
structure nW(N P:List Str)(sc:Scope):Prop where
 kind:sc.kind= .function
 co:sc.isCoroutine=false
 gen:sc.isGenerator=false
 nd:N.Nodup
 pre:N.take P.length=P
 par:∀x∈P,sc.names.lookup x=some .local\/sc.names.lookup x=some .cell
 QR:∀y∈sc.names,y.2≠ .free
def A5{kindOf:Str->Option NameKind}:∀ {binds:List (Str×Value)} {m:Str->Option Value},(∀v,(x,v)∉binds)->bindL kindOf binds m x=m x
 | [],_,_=>rfl
 |(n,v)::r,m,h=>by
  unfold bindL;rw[A5 λw a=>h w (XM _ a)];split
  . have:x≠n:=by rintro rfl;show h v XT
    simp[this]
  . rfl
def Bp{kindOf:Str->Option NameKind}:∀ {binds:List (Str×Value)} {m:Str->Option Value},(∀v,(x,v)∉binds)->bindC kindOf binds m x=m x
 | [],_,_=>rfl
 |(n,v)::r,m,h=>by
  unfold bindC;rw[Bp λw a=>h w (XM _ a)];split
  . rfl
  . have:x≠n:=by rintro rfl;show h v XT
    simp[this]
def AI{kindOf:Str->Option NameKind}:∀ {P:List Str} {vs:List Value} {i:Nat} {m:Str->Option Value},P.Nodup->P[i]?=some x->vs[i]?=some v->kindOf x=some .local->
 bindL kindOf (P.zip vs) m x=some v
 | [],_,_,_,_,h,_,_=>by simp at h
 |_::_,[],_,_,_,_,h,_=>by simp at h
 |p::P,w::vs,0,m,c,b,a,d=>by
  simp at b a;subst b;subst a;change bindL kindOf ((p,w)::P.zip vs) m p=_;unfold bindL;rw[A5 λv e=>(Zn.mp c).1 (aaO e).1,Xr d];simp
 |p::P,w::vs,i+1,m,c,b,a,d=>by
  change bindL kindOf ((p,w)::P.zip vs) m x=_;unfold bindL;show AI (i:=i) (Zn.mp c).2 (by simpa using b) (by simpa using a) d
def Bi{kindOf:Str->Option NameKind}:∀ {P:List Str} {vs:List Value} {i:Nat} {m:Str->Option Value},P.Nodup->P[i]?=some x->vs[i]?=some v->kindOf x≠some .local->
 bindC kindOf (P.zip vs) m x=some v
 | [],_,_,_,_,h,_,_=>by simp at h
 |_::_,[],_,_,_,_,h,_=>by simp at h
 |p::P,w::vs,0,m,c,b,a,d=>by
  simp at b a;subst b;subst a;change bindC kindOf ((p,w)::P.zip vs) m p=_;unfold bindC;rw[Bp λv e=>(Zn.mp c).1 (aaO e).1,Xn d];simp
 |p::P,w::vs,i+1,m,c,b,a,d=>by
  change bindC kindOf ((p,w)::P.zip vs) m x=_;unfold bindC;show Bi (i:=i) (Zn.mp c).2 (by simpa using b) (by simpa using a) d
def start(N:List Str)(vs:List V):St:=vs.map some++List.replicate (N.length-vs.length) none
def rE(d:wz)(P:Program)(w:World)(K:PySem.W.Frag)(mg:Str->Option Value)(base:Heap)(N:List Str)(a:Str)(scope:Scope)(f:Addr)(c:Value)(A:Around)(outer:List Env)(s:Shared)(H:Hp)(E:XK):Cx where
 prog:=P
 w:=w
 K:=K
 mg:=mg
 base:=base
 A:=A.deeper (envOfC a scope s.heap.objs.size f c)
 N:=N
 s₀:=s
 H₀:=H
 env:=envOfC a scope s.heap.objs.size f c
 outer:=outer
 stack:=envOfC a scope s.heap.objs.size f c::outer
 ex:=[]
 calm:=true
 fn:=λ_=>true
 pn:=[]
 xe:=λe g=>wpAny (model P w) (A.deeper (envOfC a scope s.heap.objs.size f c)) (leaving (envOfC a scope s.heap.objs.size f c) e) (λ_ b=>d outer H s E e b) (λh b=>d outer H s E h b) g
def C4{a:Scope}(h:a.names.lookup x=some .cell):∃c,(cellsFrom n a.names []).lookup x=some c:=by
 let q:=Zi a.names n [] (.inl h);show Zy.mp q
def Kb{O:wz}{P:Program}{w:World}{K:PySem.W.Frag}{I:Str->Option Value}{l:Heap}{N m:List Str}{d:Str}{scope:Scope}{f:Addr}{G:Value}{A:Around}{outer:List Env}{s J:Shared}{H:Hp}{E:XK}{us:List Value}{vs:List V}
 (S:nW N m scope) (T:A.handled=none) (j:xw P w K I l A outer s H) (W:vs.length=m.length) (r:Vals vs us)
 (x:InCallC s s.heap.objs.size (bindL (envOfC d scope s.heap.objs.size f G).kindOf (m.zip us) λ_=>none) (cellsFrom (s.heap.objs.size+1) scope.names []) (bindC (envOfC d scope s.heap.objs.size f G).kindOf (m.zip us) λ_=>none) J):
 Inv (rE O P w K I l N d scope f G A outer s H E) [] (start N vs) H J:=by
 let R:m.length<=N.length:=by let:=YQ List.length S.pre;rw[Yx]at this;lia
 obtain⟨F,tk,rfl,M⟩:=x.done;let o:∀b:Addr,b∉(rE O P w K I l N d scope f G A outer s H E).ex:=λb z=>absurd (show b∈([]:List Addr)from z) (by simp)
 show⟨⟨j.mod,S.kind,rfl,rfl,Xl _,λy z c F g=>?_,λy t=>?_,λy c _ h=>?_,λ_=>T,Around.frames_deeper j.frames,.inr ⟨rfl,rfl⟩,λb z=>absurd z (o b),j.bs,j.vm,λb _ _=>o b,λb z=>absurd z (o b),j.nv,j.zh,j.gt⟩,
  rfl,j.bare,Un.kept M,⟨_,x.toInCall.ns,λi y v F g X=>?_⟩,λy c h=>⟨_,x.cell y c h⟩,j.aK.fresh (Xl _),λy c h=>?_,λp C=>absurd (show p∈([]:List (Addr×Obj))from C) (by simp),j.aK.kept M,?_⟩
 . show name_of_addr x.apart (Yc F) (Yc g)
 . have t:scope.names.lookup y=some .cell\/scope.names.lookup y=some .free:=t;rcases t with t|t
   . show C4 t
   . show absurd rfl (S.QR _ (Yc t))
 . show YH (x.above y c (Yc h))
 . have D:i<vs.length:=by
    unfold start at g;by_cases D:i<vs.length
    . show D
    . rw[Yg (by simpa using D)]at g;rw[aat]at g;split at g<;>cases g
   let U:vs[i]?=some v:=by
    unfold start at g;rw[Xs (by simpa using D),XB]at g;cases e:vs[i]? with
    |none=>rw[e]at g;cases g
    |some a=>rw[e]at g;cases g;rfl
   obtain⟨u,L,Q⟩:=r.get U
   let C:m[i]?=some y:=by
    rw[<-S.pre,Y8 (by lia)];show F
   let B:m.Nodup:=by rw[<-S.pre];show S.nd.sublist (List.take_sublist _ _)
   show⟨u,Q,?_⟩;rcases S.par y (XO C)with k|k
   . show .inl ⟨k,AI B C L k⟩
   . obtain⟨c,e⟩:=C4 (n:=s.heap.objs.size+1) k;show .inr ⟨.inl k,c,e,?_⟩;let q:=x.cell y c e;rw[Bi B C L (by change scope.names.lookup y≠_;rw[k];decide)]at q;show q
 . show j.aK.fresh (YH (x.above y c (Yc h)))
 . unfold start;change _=N.length;rw[Yn,Xk,List.length_replicate];lia
def Nt{K:PySem.W.Frag}{F:Str->Option Value}{k:Nat}{g:List Stmt}{Y kV B X c ct oc:Value}
  {N D:List Str}  (lk:K.lookup f=some ⟨oc,od,.func (PySem.W.fnOf name a params g scope Y kV B X an c ct),O⟩) (U:PySem.W.codeIn K c a=true) (S:nW N D scope)
 (len:∀vs H Q E,sp vs H Q E->vs.length=D.length)
 (j:∀(A:Around) (outer:List Env) (s:Shared) (H:Hp) (vs:List V) (Q:VK) (E:XK),cU k (A.deeper (envOfC a scope s.heap.objs.size f c))->sp vs H Q E->
   ∃t,ja (rE G P w K F d N a scope f c A outer s H E) g t/\t {nx:=λ_ h=>Q .au h,rt:=Q} (start N vs) H):
 cH P w K F d G (k+1) f (PySem.W.fnOf name a params g scope Y kV B X an c ct) D sp:=by
 show⟨len,λA outer s H Z us vs Q E T z hb r m=>?_⟩;let hl:=len _ _ _ _ m;let KX:K.In s.heap:=z.mod.KC.keeps λb o e=>(z.bs b o e).1;let R:s.heap.NoLimit:=z.mod.nolimit.keeps λb o e=>(z.bs b o e).1
 let i:∀y∈D.zip us,scope.names.lookup y.1=some .local\/(scope.names.lookup y.1=some .cell/\((cellsFrom (s.heap.objs.size+1) scope.names []).lookup y.1).isSome=true):=λ⟨n,v⟩ hy=>by
  rcases S.par n (aaO hy).1 with q|q
  . show .inl q
  . show .inr ⟨q,Zi _ _ _ (.inl q)⟩
 show codeAny_call_function T.depth (KX _ _ lk) rfl S.co S.gen rfl (PySem.W.codeRec_of KX U) (hb _ _ _ _ ?_);show wpAny_newFunctionEnv_cells S.kind i λab he W x=>?_;subst he;show⟨R.keeps x.toInCall.keep,codeAny_func ?_⟩;obtain⟨t,ht,hq⟩:=j A outer s H vs Q E (T.deeper _) m;let I:Inv (rE G P w K F d N a scope f c A outer s H E) [] (start N vs) H W:=Kb S T.hd z hl r x;show Y3 (ht [] W (start N vs) H _ I hq) (λfl L l=>?_) λe L l=>l
 let p:∀ {C:St} {h:Hp} {v:V} {u:Value},Inv (rE G P w K F d N a scope f c A outer s H E) [] C h L->RelV v u->Q v h->CE outer P w H s Q u L:=
  λ{C h v u} J M q=>⟨v,h,J.os,J.bare,J.base,J.aK,M,q⟩
 cases fl with
 |ret u=>
  obtain⟨v,C,h,J,M,q⟩:=l;show p J M q
 |next=>
  obtain⟨C,h,J,q⟩:=l;show p (v:=V.au) (u:=Value.none) J rfl q
 |brk=>
  obtain⟨_,_,_,q⟩:=l;show False.elim q
 |cont=>
  obtain⟨_,_,_,q⟩:=l;show False.elim q
section
variable {X:Cx}{x:Str}{p pos:Pos}{e:Expr}{es:List Expr}{t:TA}{id T:String}{r:List V->Hp->VK->Prop}
def Sv(r:List V->Hp->VK->Prop)(t:TA):TE:=λσ H Q=>t σ H λa H1=>r a H1 Q
def Nb(q:cw X (.builtin id) r)(n:Gl X x)(m:X.mg x=none)(k:bootBuiltins x=some (.builtin id))(u:PA X (e::es) t)(l:x≠"__name__":=by decide)(c:(x==("__debug__":Str))=false:=by decide)
 (o:starEach (e::es) X.env=(false,eval e X.env)::starEach es X.env:=by rfl) (b:(backTo pos (starEach es X.env)).any (·.1)=false:=by rfl):PE X (.Call (.Name x p) (e::es) [] pos) (Sv r t):=by
 intro a s σ H Q I h;show Zk (lX I n m k ?_ l c);show PyProof.Rows.callWith_builtin1 (cj (u pos a s σ H _ I h) λf g ⟨d,H1,v,i,j⟩=>q a g σ H1 d f Q v i j) o b
def K8(q:cw X (.type T) r)(n:Gl X x)(m:X.mg x=none)(k:bootBuiltins x=some (.type T))(u:PA X (e::es) t)(l:x≠"__name__":=by decide)(c:(x==("__debug__":Str))=false:=by decide)
 (o:starEach (e::es) X.env=(false,eval e X.env)::starEach es X.env:=by rfl) (b:(backTo pos (starEach es X.env)).any (·.1)=false:=by rfl):PE X (.Call (.Name x p) (e::es) [] pos) (Sv r t):=by
 intro a s σ H Q I h;show Zk (lX I n m k ?_ l c);show YE (cj (u pos a s σ H _ I h) λf g ⟨d,H1,v,i,j⟩=>q a g σ H1 d f Q v i j) o b
end
end L2
namespace HT
open PySem PyProof.Rows
section
open PySem.SeqAt
open PySem.AutoSeq1 (wpAny_loadPart')
open PySem.MeetsSeq PySem.MeetsSeq2 PySem.MeetsSeq3
end
section
variable {prog:Program}{w:World}{A:Around}{E:Value->Shared->Prop}{s:Shared}
def PD{vs a:List Value}(v:IsTup s.heap t vs.toArray)(x:IsTup s.heap b a.toArray)(o:vs≠ [])
 (z:a=[]->Q (.ref t) s) (y:a≠ []->Q (.ref s.heap.objs.size) {s with heap:=s.heap.push {cls:= .type "tuple",data:= .seq (vs++a).toArray}})
 (k:vs.length+a.length<=sizeLine):wpAny (model prog w) A (binaryOp .Add (.ref t) (.ref b)) Q E s:=by
 obtain⟨⟨cls,r,data,l⟩,j,q,n,p⟩:=id v;obtain⟨⟨u,h,data2,d⟩,c,g,m,f⟩:=id x;simp only at q p g f;subst q p g f;let e:vs.toArray++a.toArray=(vs++a).toArray:=by simp
 by_cases i:a=[]
 . show concat_meets ⟨_,j,rfl⟩ ⟨_,c,rfl⟩ abq seq_tuple_add aaC aau (aan _ _)
    (tuple_addW1 t b vs.toArray a.toArray n m r h l d (by simpa using o) (by simp[i])) ⟨j,c,z i⟩
 . show concat_meets ⟨_,j,rfl⟩ ⟨_,c,rfl⟩ abq seq_tuple_add aaC aau (aan _ _)
    (tuple_addW2 t b vs.toArray a.toArray n m r h l d (by simpa using o) (by simpa using i) (by rw[Xy,Xy];show k)) ⟨j,c,?_⟩
   rw[e];show y i
def cD(n d:Nat):Option Int->Nat
 |none=>d
 |some v=>if v<0 then(v+(n:Int)).toNat else min v.toNat n
def sV(n d:Nat):cD n d none=d:=rfl
def vO(n d k:Nat):cD n d (some (k:Int))=min k n:=by
 change(if(k:Int)<0 then((k:Int)+(n:Int)).toNat else min (k:Int).toNat n)=min k n;rw[Xn (by lia),XX]
def Ry(n d:Nat)(b:d<=n)(o:Option Int):cD n d o<=n:=by
 cases o with
 |none=>show b
 |some v=>
  change(if v<0 then(v+(n:Int)).toNat else min v.toNat n)<=n;by_cases a:v<0
  . rw[Xr a];lia
  . rw[Xn a];show abr _ _
def FA(v:Int)(n d:Nat):(if v<0 then max (v+(n:Int)) 0 else min v (n:Int))=((cD n d (some v):Nat):Int):=by
 change(if v<0 then max (v+(n:Int)) 0 else min v (n:Int))=(((if v<0 then(v+(n:Int)).toNat else min v.toNat n):Nat):Int)
 by_cases a:v<0
 . simp![Xr a];lia
 . simp![Xn a];lia
def Hc(a b:Option Int)(n:Nat):Builtin.Slice.sliceAdjust a b 1 (n:Int)=(((cD n 0 a:Nat):Int),((cD n n b:Nat):Int)):=by
 let c:¬((1:Int)<0):=by lia
 unfold Builtin.Slice.sliceAdjust;simp![c,ZY];show Prod.ext ?_ ?_
 . cases a with
   |none=>rfl
   |some v=>show FA v n 0
 . cases b with
   |none=>rfl
   |some v=>show FA v n n
def HR(i j:Nat):Builtin.Slice.slicePlaces (i:Int) (j:Int) 1=j-i:=by
 unfold Builtin.Slice.slicePlaces;let a:(1:Int)>0:=by lia
 simp![a,ZH,Int.ediv_one];split<;>lia
def y9(p:IsPart v o)(h:Q o s):wpAny (model prog w) A (Builtin.Slice.slicePartIndex v) Q E s:=by
 cases p with
 |none=>show slicePart_none h
 |int i t=>show slicePart_int h
def qp{g:Addr}{f e:Value}{a c:Option Int}{n:Nat}{Q:Int×Int×Nat->Shared->Prop}(j:s.heap.IsSliceOf g f e .none)(pl:IsPart f a)(i:IsPart e c)
 (h:Q (((cD n 0 a:Nat):Int),1,cD n n c-cD n 0 a) s):wpAny (model prog w) A (Builtin.Slice.sliceApplied (.ref g) (pure (n:Int))) Q E s:=by
 obtain⟨l,b,k,d⟩:=id j;unfold Builtin.Slice.sliceApplied Builtin.Slice.sliceFields;show Xi (Xi (Yd b d (x:=f) rfl (Xi (Yd b d (x:=e) rfl (Xi (Yd b d (x:= .none) rfl (Xz ?_)))))));show Xi (slicePart_none ?_);change wpAny _ _ (if((1:Int)==0)=true then _ else _) _ _ s;rw[Xn (by decide)];show Xi (y9 pl (Xi (y9 i (Xi (Xz ?_)))));change wpAny _ _ (match Builtin.Slice.sliceAdjust a c 1 (n:Int)with|(a,c)=>pure (a,(1:Int),Builtin.Slice.slicePlaces a c 1)) _ _ s;rw[Hc a c n];change wpAny _ _ (pure (((cD n 0 a:Nat):Int),(1:Int),Builtin.Slice.slicePlaces ((cD n 0 a:Nat):Int) ((cD n n c:Nat):Int) 1)) _ _ s;rw[HR];show Xz h
def MC(a:Array Value)(i k:Nat):((List.range k).filterMap λ(m:Nat)=>a[((i:Int)+(m:Int)*1).toNat]?).toArray=((a.toList.drop i).take k).toArray:=by
 let e:(λ(m:Nat)=>a[((i:Int)+(m:Int)*1).toNat]?)=λm=>a[i+m]?:=by
  funext m;let:((i:Int)+(m:Int)*1).toNat=i+m:=by lia
  rw[this]
 rw[e];let:=pick_run a i k;rw[List.filterMap_map]at this;let b:((λx=>a[x]?)∘λx=>i+x)=λm=>a[i+m]?:=rfl;rw[b]at this;rw[this]
def wk{t e:Addr}{items:Array Value}{l k:Value}(d:IsTup s.heap t items)(n:s.heap.IsSliceOf e l k .none)(pl:IsPart l b)(o:IsPart k c)
 (r:¬(cD items.size 0 b=0/\cD items.size items.size c=items.size))
 (h:Q (.ref s.heap.objs.size) {s with heap:=s.heap.push {cls:= .type "tuple",data:= .seq ((items.toList.drop (cD items.size 0 b)).take (cD items.size items.size c-cD items.size 0 b)).toArray}})
 (u:items.size<=sizeLine):wpAny (model prog w) A (getItem (.ref t) (.ref e)) Q E s:=by
 let a:sizeOk (.seq ((items.toList.drop (cD items.size 0 b)).take (cD items.size items.size c-cD items.size 0 b)).toArray):=by
  change((items.toList.drop (cD items.size 0 b)).take (cD items.size items.size c-cD items.size 0 b)).toArray.size<=sizeLine;rw[Xy,Yx,YC,ZE];lia
 let z:cD items.size items.size c<=items.size:=Ry _ _ (Xl _) c;obtain⟨p,f,i,v⟩:=id n;let j:s.TypeIs (.ref e) "slice":=⟨p,f,i⟩
 unfold getItem;try with_reducible show ZG ?_
 first|show Xi (Xz ?_)|skip
 show Xi (wpAny_sequenceKey d.typeIs (by decide) ?_)
 show Xi (Yz (name:=Str.ofString "__getitem__") d.typeIs YF
  (YT YF d.typeIs entry_tuple_getitem ?_ (args_tuple_getitem _ _)))
 change wpAny _ _ (Builtin.Tuple.tupleItemsOf (.ref t) >>= _) _ _ s;show Xi (tupleItemsOf_ d ?_);show Xi (wpAny_typeOf j ?_);rw[Xr (by decide)];show Xi (qp n pl o ?_)
 let g:¬((((cD items.size 0 b:Nat):Int)==0&&(1:Int)==1&&(cD items.size items.size c-cD items.size 0 b)==items.size)=true):=by
  intro q;rw[X9,X9]at q;let y:((cD items.size 0 b:Nat):Int)=0:=eq_of_beq q.1.1;let x:cD items.size items.size c-cD items.size 0 b=items.size:=eq_of_beq q.2;show r ⟨by lia,by lia⟩
 change wpAny _ _ (if(((cD items.size 0 b:Nat):Int)==0&&(1:Int)==1&&(cD items.size items.size c-cD items.size 0 b)==items.size)=true then _ else _) _ _ s;rw[Xn g,MC]
 first
  |show Xi (m:=Builtin.Tuple.tupleExact _) (Zr (Xz ⟨_,rfl,Xz h⟩) a)
  |show Xi (m:=Builtin.Tuple.tupleExact _) (Zr (Xi (Xz (Xz ⟨_,rfl,Xz h⟩))) a)
  |show Xi (Xi (m:=Builtin.Tuple.tupleExact _) (Zr (Xz (Xz ⟨_,rfl,Xz h⟩)) a))
  |show Xi (Xi (m:=Builtin.Tuple.tupleExact _) (Zr (Xz ⟨_,rfl,Xz h⟩) a))
end
end HT
namespace L2
open PySem PySem.Spec PyProof.Rows
abbrev TO:=St->Hp->(Option Int->Hp->Prop)->Prop
def PO(X:Cx)(e:Option Expr)(t:TO):Prop:=
 ∀(a:List (Addr×Obj)) (s:Shared) (σ:St) (H:Hp) (Q:Option Int->Hp->Prop),Inv X a σ H s->t σ H Q->
  wpAny (model X.prog X.w) X.A (evalPart e X.env) (λu c=>∃o b,Inv X a σ b c/\IsPart u o/\Q o b) X.xe s
def P9:TO:=λ_ H Q=>Q none H
def T3(t:TE):TO:=λσ H Q=>t σ H λx H1=>∃i,x= .int i/\Q (some i) H1
section
variable {X:Cx}{e:Expr}{te:TE}{lo hi:Option Expr}{tl th:TO}{pos p2:Pos}
def Pd:PO X none P9:=by
 intro a s σ H Q I h;rw[evalPart_none];show Xz ⟨none,H,I,.none,h⟩
def PC(h:PE X e te):PO X (some e) (T3 te):=by
 intro a s σ H Q I d;rw[evalPart_some];show cj (h a s σ H _ I d) λu g ⟨x,H1,f,b,c⟩=>?_;obtain⟨i,rfl,q⟩:=c;obtain⟨t,rfl⟩:=b;show⟨some i,H1,f,.int i t,q⟩
def J4(X:Cx)(r:V->Option Int->Option Int->Hp->VK->Prop):Prop:=
 ∀(a:List (Addr×Obj)) (s:Shared) (σ:St) (H:Hp) (x:V) (v vl vu:Value) (lo hi:Option Int) (sl:Addr) (Q:VK),Inv X a σ H s->RelV x v->s.heap.IsSliceOf sl vl vu .none->IsPart vl lo->IsPart vu hi->r x lo hi H Q->
  ∃T b,typeLookup (.type T) "__getitem__"=pure (some (.builtin b))/\s.TypeIs v T/\wpAny (model X.prog X.w) X.A (getItem v (.ref sl)) (EP X a σ Q) X.xe s
def W6(r:V->Option Int->Option Int->Hp->VK->Prop)(te:TE)(tl th:TO):TE:=λσ H Q=>te σ H λx H1=>tl σ H1 λl b=>th σ b λu a=>r x l u a Q
def Mt(y:J4 X r)(B:PE X e te)(z:PO X lo tl)(t:PO X hi th):PE X (.Subscript e (.Slice lo hi none p2) pos) (W6 r te tl th):=by
 intro a s σ H Q I h;show Subscript_ (cj (B a s σ H _ I h) λv j ⟨x,H1,G,k,o⟩=>?_);show wpAny_Slice (cj (z a j σ H1 _ G o) λf i ⟨l,J,F,pl,n⟩=>cj (t a i σ J _ F n) λd c ⟨u,g,E,p,m⟩=>?_);rw[evalPart_none];show Xz ?_;let D:Inv X a σ g {c with heap:=c.heap.push {cls:= .type "slice",data:= .fields #[f,d,.none]}}:=E.kept (t':=c.toks) λb K q=>Xj _ q;obtain⟨T,L,C,w,A⟩:=y a {c with heap:=c.heap.push {cls:= .type "slice",data:= .fields #[f,d,.none]}} σ g x v f d l u c.heap.objs.size Q D k (Heap.IsSliceOf.new ..) pl p m;change wpAny (model X.prog X.w) X.A (subscriptTail e (.Slice lo hi none p2) v (.ref c.heap.objs.size)) (EP X a σ Q) X.xe {c with heap:=c.heap.push {cls:= .type "slice",data:= .fields #[f,d,.none]}};show tail_any (ops:=[.ref c.heap.objs.size,v]) w C A (by with_unfolding_all rfl)
def sS(a:List V)(lo hi:Option Int):List V:=(a.drop (HT.cD a.length 0 lo)).take (HT.cD a.length a.length hi-HT.cD a.length 0 lo)
def wB(a:List V)(lo hi:Option Int):(sS a lo hi).length<=a.length:=by
 unfold sS;rw[Yx,YC];lia
def Ws(K:PySem.W.Frag):V->Option Int->Option Int->Hp->VK->Prop:=λx lo hi H Q=>∃a b,x= .ref a/\kF K H a b/\
 ¬(HT.cD b.length 0 lo=0/\HT.cD b.length b.length hi=b.length)/\∀p,H p=none->Q (.ref p) (upd H p (.tup (sS b lo hi)))
def Rm:J4 X (Ws X.K):=by
 intro f s σ H x v u t lo hi w Q I j n pl k h;obtain⟨a,d,rfl,l,m,q⟩:=h;cases j;obtain⟨p,r,i,g⟩:=I.tuple l;let c:p.toArray.size=d.length:=by rw[Xy];show r.length.symm
 show⟨"tuple",_,YF.lookup,i.typeIs,?_⟩;show HT.wk i n pl k (by rw[c];show m) ?_ (by rw[c];show g);rw[c];show⟨.ref s.heap.objs.size,_,I.laid (t':=s.toks) (o:= .tup (sS d lo hi)) (λb y q=>Xj _ q) (Xl _) ?_,rfl,q _ (I.aK.fresh (Xl _))⟩;show⟨Xu (wB d lo hi) g,_,(r.drop (HT.cD d.length 0 lo)).take (HT.cD d.length d.length hi-HT.cD d.length 0 lo),IsTup.new _ _⟩
def T5(K:PySem.W.Frag):R2:=λx y H Q=>∃a b d c,x= .ref a/\y= .ref b/\kF K H a d/\kF K H b c/\d≠ []/\d.length+c.length<=sizeLine/\
 (c=[]->Q (.ref a) H)/\(c≠ []->∀p,H p=none->Q (.ref p) (upd H p (.tup (d++c))))
def Vals.vY(r:Vals a us):us=[]↔a=[]:=by
 cases r with
 |nil=>simp
 |cons _ _=>simp
def O3:cm X (binaryOp .Add) (T5 X.K):=by
 intro f s σ H x y v u Q I m l h;obtain⟨a,b,k,j,rfl,rfl,B,A,t,i,p,n⟩:=h;cases m;cases l;obtain⟨D,d,r,_⟩:=I.tuple B;obtain⟨g,c,p2,_⟩:=I.tuple A;show HT.PD r p2 (λz=>t (d.vY.mp z)) (λz=>⟨.ref a,H,I,rfl,p (c.vY.mp z)⟩) (λz=>?_) (by rw[<-d.length,<-c.length];show i);show⟨.ref s.heap.objs.size,_,I.laid (t':=s.toks) (o:= .tup (k++j)) (λb C q=>Xj _ q) (Xl _) ?_,rfl,n (λw=>z (c.vY.mpr w)) _ (I.aK.fresh (Xl _))⟩;show⟨by rw[Yn];show i,_,d.append c,IsTup.new _ _⟩
end
def ke(n:Nat)(i:Int):Option Nat:=if 0<=i then(if i<n then some i.toNat else none)else if-(n:Int)<=i then some (i+n).toNat else none
def eP{α:Type}(a:List α)(i:Int):Option α:=(ke a.length i).bind λj=>a[j]?
def zG(h:ke n i=some j):seqIndex? i n=some j/\j<n/\ -(n:Int)<=i/\i<n:=by
 unfold ke at h;by_cases b:0<=i
 . rw[Xr b]at h;by_cases a:i<n
   . rw[Xr a]at h;let e:i.toNat=j:=Yq h;show⟨by rw[abH b a,e],by lia,by lia,a⟩
   . rw[Xn a]at h;cases h
 . rw[Xn b]at h;by_cases a: -(n:Int)<=i
   . rw[Xr a]at h;let e:(i+n).toNat=j:=Yq h;show⟨by rw[seqIndex_neg (by lia) a,e],by lia,a,by lia⟩
   . rw[Xn a]at h;cases h
def zC{α:Type}{a:List α}{v:α}(h:eP a i=some v):∃j,seqIndex? i a.length=some j/\a[j]?=some v/\j<a.length/\ -(a.length:Int)<=i/\i<a.length:=by
 unfold eP at h;cases e:ke a.length i with
 |none=>rw[e]at h;cases h
 |some j=>
  rw[e]at h;obtain⟨f,d,c,b⟩:=zG e;show⟨j,f,h,d,c,b⟩
def gc{α:Type}{a:List α}{j:Nat}{v:α}(h:a[j]?=some v):eP a (j:Int)=some v:=by
 let b:j<a.length:=(Xm.mp h).1
 let e:ke a.length (j:Int)=some j:=by
  unfold ke;rw[Xr (by lia),Xr (by lia)];simp
 unfold eP;rw[e];show h
def vU(b:Expr):Prop:=∀o i,subscripted b false o i=operate [o,i] (getItem o i)
def Nn(X:Cx)(r:R2):Prop:=
 ∀(value slice:Expr) (pins:List (Addr×Obj)) (s:Shared) (σ:St) (H:Hp) (x y:V) (v u:Value) (Q:VK),Inv X pins σ H s->RelV x v->RelV y u->r x y H Q->
  subscripted slice false v u=operate [v,u] (getItem v u)->wpAny (model X.prog X.w) X.A (subscriptTail value slice v u) (EP X pins σ Q) X.xe s
def Ts(X:Cx)(id:String)(r:V->List V->Hp->VK->Prop):Prop:=
 ∀(a:List (Addr×Obj)) (s:Shared) (σ:St) (H:Hp) (x:V) (xs:List V) (v:Value) (us:List Value) (Q:VK),Inv X a σ H s->RelV x v->Vals xs us->r x xs H Q->
  wpAny (model X.prog X.w) X.A (call (.builtin id) (v::us)) (EP X a σ Q) X.xe s
section
variable {X:Cx}{a b:Expr}{ta tb:TE}{pos:Pos}
def Ui(i:Nn X r)(k:PE X a ta)(j:PE X b tb)(g:vU b):PE X (.Subscript a b pos) (Jj r ta tb):=by
 intro c s σ H Q I h;show Subscript_ (M8 k j I h λv u d x y m l f e q=>i a b c d σ m x y v u Q l f e q (g _ _))
def Wo(K:PySem.W.Frag):R2:=λx y H Q=>∃p c i v,x= .ref p/\y= .int i/\oC K H p c/\eP c i=some v/\Q v H
def VR(K:PySem.W.Frag):R2:=λx y H Q=>∃p c i v,x= .ref p/\y= .int i/\kF K H p c/\eP c i=some v/\Q v H
def FW:Nn X (Wo X.K):=by
 intro value slice c s σ H x y v u Q I A o h k;obtain⟨p,K,i,z,rfl,rfl,B,D,q⟩:=h;cases A;obtain⟨t,rfl⟩:=o;obtain⟨J,r,pl,L⟩:=I.list B;obtain⟨j,e,G,N,F,E⟩:=zC D;obtain⟨w,m,f⟩:=r.get G;let C:=r.length;let M:=sx;let d:EP X c σ Q w s:=⟨z,H,I,f,q⟩
 by_cases l:0<=i
 . have g:i.toNat=j:=by
    rw[abH l E]at e;show Yq e
   show item_listR pl.isList l (by lia) (by rw[g];simpa using m) d k
 . have g:(i+(J.toArray.size:Int)).toNat=j:=by
    rw[seqIndex_neg (by lia) F]at e;rw[Xy,<-C];show Yq e
   show subscriptTail_builtinR (x:=w) pl.isList.typeIs slot_list_getitem.lookup
    (wpAny_getItem_list_neg (Q:=λr n=>r=w/\EP X c σ Q r n) pl.isList (by lia) (by rw[Xy]<;>lia) (by lia) (by rw[g];simpa using m) ⟨rfl,d⟩) k
def RT:Nn X (VR X.K):=by
 intro value slice c s σ H x y v u Q I k g h l;obtain⟨p,D,i,z,rfl,rfl,m,o,q⟩:=h;cases k;obtain⟨t,rfl⟩:=g;obtain⟨L,r,pl,E⟩:=I.tuple m;obtain⟨j,B,A,K,J,G⟩:=zC o;obtain⟨w,C,d⟩:=r.get A;let n:=r.length;let F:=sx;let e:EP X c σ Q w s:=⟨z,H,I,d,q⟩
 show subscriptTail_builtinR (x:=w) pl.typeIs slot_tuple_getitem.lookup
  (getItem_tuple (j:=j) (Q:=λr f=>r=w/\EP X c σ Q r f) pl (by lia) (by lia) (by rw[Xy,<-n];show B) (by simpa using C) ⟨rfl,e⟩) l
def GZ(aq:List Value)(n j:Nat)(u:Value):Obj.mapSeq (·.setIfInBounds j u) {cls:= .type "list",data:= .seq aq.toArray n}= {cls:= .type "list",data:= .seq (aq.set j u).toArray n}:=by
 simp[Obj.mapSeq]
def Inv.lst{pins:List (Addr×Obj)}{σ:St}{H:Hp}{s:Shared}{p:Addr}{c:List V}(I:Inv X pins σ H s)(h:H p=some (.lst c)):
 ∃(aq:List Value) (n:Nat),Vals c aq/\s.heap.get? p=some {cls:= .type "list",data:= .seq aq.toArray n}/\c.length<=sizeLine:=by
 obtain⟨z,aq,n,r,e⟩:=I.aK p _ h;show⟨aq,n,r,e,z⟩
def Inv.Tb{pins:List (Addr×Obj)}{σ:St}{H:Hp}{s:Shared}{p:Addr}{g ys:List V}{aq its':List Value}{n c:Nat}{f:Obj->Obj}(I:Inv X pins σ H s)(h:H p=some (.lst g))
 (j:s.heap.get? p=some {cls:= .type "list",data:= .seq aq.toArray n}) (d:f {cls:= .type "list",data:= .seq aq.toArray n}= {cls:= .type "list",data:= .seq its'.toArray c}) (r:Vals ys its') (i:ys.length<=sizeLine) (t:Nat):
 Inv X pins σ (upd H p (.lst ys)) {s with heap:=s.heap.update p f,toks:=t}:=by
 let e:(s.heap.update p f).get? p=some {cls:= .type "list",data:= .seq its'.toArray c}:=by
  rw[aaJ f j (by rw[d]<;>rfl),d]
 show I.write (x:=p) (e:=p) (by rw[h];trivial) (.inl rfl) (λb u k q=>(Heap.get?_update_other _ _ (Xp k)).trans q) ⟨_,e⟩ ?_;show⟨i,its',c,r,e⟩
def BS:V->V->V->Hp->(Hp->Prop)->Prop:=λo i v H Q=>∃p c k j,o= .ref p/\i= .int k/\H p=some (.lst c)/\ke c.length k=some j/\Q (upd H p (.lst (c.set j v)))
def set_list:MQ X BS:=by
 intro c s σ H o i v G J u Q I C D B h;obtain⟨p,A,k,j,rfl,rfl,l,F,q⟩:=h;cases C;obtain⟨t,rfl⟩:=D;obtain⟨y,n,r,e,E⟩:=I.lst l;obtain⟨d,L,w,m⟩:=zG F;let f:=r.length;let K:=sx
 let z:Inv X c σ (upd H p (.lst (A.set j v))) {s with heap:=s.heap.update p (Obj.mapSeq (·.setIfInBounds j u))}:=
  I.Tb l e (GZ y n j u) (r.set B j) (by rw[XA];show E) s.toks
 by_cases x:0<=k
 . have g:k.toNat=j:=by
    rw[abH x m]at d;show Yq d
   show PySem.W.ki_setAt e x (by lia) (by rw[Xy,<-f];show m) (by rw[g];show⟨_,z,q⟩)
 . have g:(k+(y.toArray.size:Int)).toNat=j:=by
    rw[seqIndex_neg (by lia) w]at d;rw[Xy,<-f];show Yq d
   show PySem.W.ki_setBack e (by lia) (by rw[Xy,<-f];show w) (by lia) (by rw[g];show⟨_,z,q⟩)
def D1(c d:Option Int)(n:Nat):(sliceBounds c d none n).1=((HT.cD n 0 c:Nat):Int)/\(sliceBounds c d none n).2.1=((HT.cD n n d:Nat):Int)/\(sliceBounds c d none n).2.2=1:=by
 show⟨?_,?_,rfl⟩
 . cases c with
   |none=>simp[sliceBounds,HT.cD]
   |some i=>
    simp![sliceBounds,HT.cD,Option.getD_none,show(1:Int)>0 by decide,ZH];by_cases h:i<0
    . simp![h,ZH]<;>lia
    . simp![h,ZY]<;>lia
 . cases d with
   |none=>simp[sliceBounds,HT.cD]
   |some i=>
    simp![sliceBounds,HT.cD,Option.getD_none,show(1:Int)>0 by decide,ZH];by_cases h:i<0
    . simp![h,ZH]<;>lia
    . simp![h,ZY]<;>lia
def Bw(aq:List Value)(c d:Option Int):slicePick aq.toArray c d none=((aq.drop (HT.cD aq.length 0 c)).take (HT.cD aq.length aq.length d-HT.cD aq.length 0 c)).toArray:=by
 obtain⟨g,f,e⟩:=D1 c d aq.toArray.size;unfold slicePick;rw[g,f,e];simp![sliceRange_one,pick_run,Xy]<;>rfl
def Wd(K:PySem.W.Frag):V->Option Int->Option Int->Hp->VK->Prop:=λx d e H Q=>∃a c,x= .ref a/\oC K H a c/\∀p,H p=none->Q (.ref p) (upd H p (.lst (sS c d e)))
def Fz:J4 X (Wd X.K):=by
 intro g s σ H x v t p e f u Q I j n pl k h;obtain⟨a,c,rfl,m,q⟩:=h;cases j;obtain⟨y,r,i,l⟩:=I.list m;let d:=r.length;show⟨"list",_,slot_list_getitem.lookup,i.isList.typeIs,?_⟩;show wpAny_getItem_list_slice i.isList n pl k .none (by simp) ?_ (by rw[Xy]<;>lia);rw[Bw,<-d];show⟨.ref s.heap.objs.size,_,I.laid (t':=s.toks) (o:= .lst (sS c e f)) (λb w q=>Xj _ q) (Xl _) ?_,rfl,q _ (I.aK.fresh (Xl _))⟩;show⟨Xu (wB c e f) l,_,0,(r.drop (HT.cD c.length 0 e)).take (HT.cD c.length c.length f-HT.cD c.length 0 e),XE _ rfl⟩
def Dr:cw X (.builtin "len") (λf H Q=>∃p ys,f=[.ref p]/\(oC X.K H p ys\/kF X.K H p ys)/\Q (.int ys.length) H):=by
 intro g s σ H f l Q I r h;obtain⟨p,ys,rfl,d,q⟩:=h;obtain⟨u,rfl,i⟩:=vals1 r;cases i;let m:=sx;rcases d with d|d
 . obtain⟨k,e,pl,j⟩:=I.list d;let c:=e.length;show Calls.call_len_list pl.isList (by simp![Xy]<;>lia) ⟨.int ys.length,H,I.tok _,⟨s.toks+1,by rw[Xy,c]⟩,q⟩
 . obtain⟨k,e,pl,j⟩:=I.tuple d;let c:=e.length;show len_tuple pl (by simp![Xy]<;>lia) ⟨.int ys.length,H,I.tok _,⟨s.toks+1,by rw[Xy,c]⟩,q⟩
def Du:cw X (.builtin "len") (λc H Q=>∃z,c=[.str z]/\z.length<=sizeLine/\Q (.int z.length) H):=by
 intro d s σ H c e Q I r h;obtain⟨z,rfl,f,q⟩:=h;obtain⟨u,rfl,t,rfl⟩:=vals1 r;let g:=sx;show len_str (by lia) ⟨.int z.length,H,I.tok _,⟨_,rfl⟩,q⟩
def vt:cw X (.type "list") (λz H Q=>∃p ys,z=[.ref p]/\(oC X.K H p ys\/kF X.K H p ys)/\∀l,H l=none->Q (.ref l) (upd H l (.lst ys))):=by
 intro i s σ H z C Q I r h;obtain⟨p,ys,rfl,m,q⟩:=h;obtain⟨u,rfl,B⟩:=vals1 r;cases B
 let v:∀(d:List Value),Vals ys d->ys.length<=sizeLine->∀(c:Heap) (g:Nat),(∀b A,s.heap.get? b=some A->c.get? b=some A)->
  c.get? s.heap.objs.size=some {cls:= .type "list",dict:=none,data:= .seq d.toArray g,slots:= #[]}->EP X i σ Q (.ref s.heap.objs.size) {s with heap:=c}:=λd f k c g j e=>
  ⟨.ref s.heap.objs.size,_,I.laid (t':=s.toks) j (Xl _) (show d_ X.prog X.w _ c _ (.lst ys)from⟨k,d,g,f,e⟩),rfl,q _ (I.aK.fresh (Xl _))⟩
 rcases m with m|m
 . obtain⟨d,f,pl,k⟩:=I.list m;let t:=f.length;obtain⟨o,w,y,n,x⟩:=pl.isList;show call_list_seq p (.inl rfl) w y x (λc g j e=>v d f k c g j e) (by simp![Xy]<;>lia)
 . obtain⟨d,f,pl,k⟩:=I.tuple m;let t:=f.length;obtain⟨o,w,y,n,x⟩:=pl;show call_list_seq p (.inr rfl) w y x (λc g j e=>v d f k c g j e) (by simp![Xy]<;>lia)
def BL:cw X (.type "tuple") (λj H Q=>∃p ys,j=[.ref p]/\((oC X.K H p ys/\∀l,H l=none->Q (.ref l) (upd H l (.tup ys)))\/(kF X.K H p ys/\Q (.ref p) H))):=by
 intro c s σ H j x Q I r h;obtain⟨p,ys,rfl,h⟩:=h;obtain⟨u,rfl,t⟩:=vals1 r;cases t;rcases h with⟨g,q⟩|⟨g,q⟩
 . obtain⟨i,f,pl,k⟩:=I.list g;let m:=f.length;show call_tuple_list pl.isList (λd v=>?_) (by simp![Xy]<;>lia);let n:Inv X c σ H {s with heap:=d}:=I.kept (t':=s.toks) v
   let w:Inv X c σ (upd H d.objs.size (.tup ys)) {s with heap:=d.push {cls:= .type "tuple",data:= .seq i.toArray}}:=
    n.laid (t':=s.toks) (λb o e=>Xj _ e) (Xl _) (show d_ X.prog X.w _ _ _ (.tup ys)from⟨k,i,f,IsTup.new _ _⟩)
   show⟨.ref d.objs.size,_,w,rfl,q _ (n.aK.fresh (Xl _))⟩
 . obtain⟨i,f,pl,k⟩:=I.tuple g;show call_tuple_same pl ⟨.ref p,H,I,rfl,q⟩
def Th(K:PySem.W.Frag)(T:String)(x:V)(H:Hp):Prop:=match x with
 | .str _=>T="str"
 | .int _=>T="int"
 | .ref p=>(T="list"/\∃d,oC K H p d)\/(T="tuple"/\∃o,K.lookup p=some o/\o.cls= .type "tuple"/\o.dict=none)\/
    (T="dict"/\((∃c,H p=some (.dK c))\/∃c,H p=some (.dT c)))\/(T="set"/\∃S n,H p=some (.set S n))
 |_=>False
def Jy{pins:List (Addr×Obj)}{σ:St}{H:Hp}{s:Shared}{T:String}{x:V}{v:Value}(I:Inv X pins σ H s)(r:RelV x v)(f:Th X.K T x H):
 s.TypeIs v T/\∀a,v= .ref a->∃k,s.heap.get? a=some k/\k.dict=none:=by
 cases x with
 |str z=>
  obtain⟨t,rfl⟩:=r;cases (show T="str" from f);show⟨typeIs_str s z t,λ_ e=>nomatch e⟩
 |int i=>
  obtain⟨t,rfl⟩:=r;cases (show T="int" from f);show⟨abj s i t,λ_ e=>nomatch e⟩
 |ref p=>
  cases r;rcases f with⟨rfl,q,l⟩|⟨rfl,o,d,m,h⟩|⟨rfl,d⟩|⟨rfl,S,n,d⟩
  . obtain⟨u,_,pl,_⟩:=I.list l;show⟨pl.isList.typeIs,λa e=>?_⟩;cases e;obtain⟨o,n,e,c,h,_⟩:=pl;show⟨o,e,h⟩
  . show⟨⟨o,I.iH p o d,m⟩,λa e=>?_⟩;cases e;show⟨o,I.iH _ o d,h⟩
  . have z:∃o,s.heap.get? p=some o/\o.ExactDict:=by
     rcases d with⟨g,d⟩|⟨g,d⟩
     . obtain⟨_,_,_,_,o,_,_,e,ex,_⟩:=I.aK p _ d;show⟨o,e,ex⟩
     . obtain⟨_,_,_,_,o,_,_,e,ex,_⟩:=I.aK p _ d;show⟨o,e,ex⟩
    obtain⟨o,e,ex⟩:=z;show⟨⟨o,e,ex.1⟩,λa j=>?_⟩;cases j;show⟨o,e,ex.2.1⟩
  . obtain⟨o,_,_,_,e,ex,_⟩:=I.aK p _ d;show⟨⟨o,e,ex.1⟩,λa j=>?_⟩;cases j;show⟨o,e,ex.2.1⟩
 |_=>show False.elim f
def So(K:PySem.W.Frag)(T:String)(r:V->List V->Hp->VK->Prop)(to:TE):TE:=λσ H Q=>to σ H λx H1=>Th K T x H1/\r x [] H1 Q
def Vr(K:PySem.W.Frag)(T:String)(r:V->List V->Hp->VK->Prop)(to:TE)(t:TA):TE:=λσ H Q=>to σ H λx H1=>Th K T x H1/\t σ H1 λc d=>r x c d Q
variable {o e:Expr}{es:List Expr}{to:TE}{t:TA}{name:Str}{apos cpos:Pos}{T id:String}{r:V->List V->Hp->VK->Prop}
def Q7(n:PlainAttrs T)(slot:Slot T name id)(g:typeOf (.builtin id)=pure (.type "method_descriptor"))(q:Ts X id r)(p:PE X o to)
 (f:attributeBase o name X.env (eval o X.env)=eval o X.env:=by rfl) (d:(apos.endLine==cpos.line)=true:=by rfl):PE X (.Call (.Attribute o name apos) [] [] cpos) (So X.K T r to):=by
 intro c s σ H Q I h;show wpAny_Call_method0_late f d (cj (p c s σ H _ I h) λv l ⟨x,H1,j,i,k,m⟩=>?_);obtain⟨w,u⟩:=Jy j i k;show⟨T,id,n,slot,g,w,u,Calls.callWith_builtin rfl (PySem.evalArgs_none (q c l σ H1 x [] v [] Q j i .nil m))⟩
def UY(B:PlainAttrs T)(slot:Slot T name id)(j:typeOf (.builtin id)=pure (.type "method_descriptor"))(E:Ts X id r)(D:PE X o to)(F:PA X (e::es) t)
 (g:attributeBase o name X.env (eval o X.env)=eval o X.env:=by rfl)
 (i:((backTo cpos (starEach (e::es) X.env)).all (λx=> !x.1)&&(backToKw cpos (keywordEach [] X.env)).all (λx=>x.1.isSome)
   &&decide ((e::es).length+([]:List Keyword).length+(if([]:List Keyword).isEmpty then 0 else 1)<30))=true:=by rfl)
 (f:(apos.endLine==cpos.line)=true:=by rfl) (C:starEach (e::es) X.env=(false,eval e X.env)::starEach es X.env:=by rfl) (d:(backTo cpos (starEach es X.env)).any (·.1)=false:=by rfl):
 PE X (.Call (.Attribute o name apos) (e::es) [] cpos) (Vr X.K T r to t):=by
 intro c s σ H Q I h;show wpAny_Call_method_late g i f rfl (cj (D c s σ H _ I h) λv w ⟨x,H1,m,k,q,A⟩=>?_);obtain⟨J,G⟩:=Jy m k q;show⟨T,id,B,slot,j,J,G,?_⟩;let l:=F cpos c w σ H1 _ m A;rw[C]at l⊢;show Calls.callWith_builtin (by change(false||(backTo cpos (starEach es X.env)).any (·.1))=false;rw[d]<;>rfl) (Calls.evalArgs_plain ?_);show cj l λp u ⟨n,L,K,y,z⟩=>E c u σ L x n v p Q K k y z
/-xs.append(e),list.index on a module's tuple .. are Ts facts of 06m-/
end
def VP(X:Cx)(id:String)(r:V->List V->Hp->VK->Prop):Prop:=
 ∀(a:List (Addr×Obj)) (s:Shared) (σ:St) (H:Hp) (x:V) (xs:List V) (v:Value) (us:List Value) (Q:VK),Inv X a σ H s->RelV x v->Vals xs us->r x xs H Q->
  wpAny (model X.prog X.w) X.A (call (.builtin id) (v::us)) (EP X a σ Q) X.xe s
def Vals.one:∀ {x:V} {us:List Value},Vals [x] us->∃u,us=[u]/\RelV x u
 |_,_,.cons r .nil=>⟨_,rfl,r⟩
def Vals.zero:∀ {us:List Value},Vals [] us->us=[]
 |_,.nil=>rfl
def Vals.dropLast{a:List V}{us:List Value}(h:Vals a us):Vals a.dropLast us.dropLast:=by
 induction h with
 |nil=>show .nil
 |cons r t b=>
  cases t with
  |nil=>show .nil
  |cons q c=>show .cons r b
def Vals.rep(h:Vals a us):∀k:Nat,Vals (List.replicate k a).flatten (List.replicate k us).flatten
 |0=> .nil
 |k+1=>by
  rw[Yp,Yp,YO,YO];show Vals.append h (Vals.rep h k)
def GY{α:Type}(l:List α):l.eraseIdx (l.length-1)=l.dropLast:=by
 induction l with
 |nil=>rfl
 |cons a r c=>
  cases r with
  |nil=>rfl
  |cons b r=>
   have e:(a::b::r).length-1=((b::r).length-1)+1:=by
    let f:(a::b::r).length=r.length+2:=rfl;let d:(b::r).length=r.length+1:=rfl;lia
   rw[e,List.eraseIdx_cons_succ,c];all_goals rfl
def foldl_rep(aq:List Value):∀(k:Nat) (acc:List Value),
 List.foldl (λb a=>b++a) acc.toArray (List.replicate k aq.toArray)=(acc++(List.replicate k aq).flatten).toArray
 |0,acc=>by simp
 |k+1,acc=>by
  let e:acc.toArray++aq.toArray=(acc++aq).toArray:=by simp
  let c:(acc++aq)++(List.replicate k aq).flatten=acc++(List.replicate (k+1) aq).flatten:=by
   rw[Yp,YO,ZR]
  rw[<-c,<-foldl_rep aq k (acc++aq),<-e,Yp,List.foldl_cons]
section
variable {X:Cx}{pins:List (Addr×Obj)}{σ:St}{H:Hp}{s:Shared}{l b:Addr}{xs ys zs:List V}
def Inv.Rw{aq its':List Value}{f:Array Value->Array Value}(I:Inv X pins σ H s)(i:H l=some (.lst xs))
 (e:s.heap.get? l=some {cls:= .type "list",data:= .seq aq.toArray n}) (g:f aq.toArray=its'.toArray) (c:Vals ys its') (a:ys.length<=sizeLine):
 Inv X pins σ (upd H l (.lst ys)) {s with heap:=s.heap.update l (Obj.mapSeq f),toks:=t'}:=by
 let q:=PySem.IsL.update e f;rw[g]at q;show I.write (x:=l) (e:=l) (by rw[i];show trivial) (.inl rfl) (λj u h d=>(Heap.get?_update_other s.heap (Obj.mapSeq f) (Xp h)).trans d) ⟨_,q⟩ ?_;show⟨a,its',_,c,q⟩
def Inv.Mq{aq:List Value}(I:Inv X pins σ H s)(c:Vals ys aq)(a:ys.length<=sizeLine):
 Inv X pins σ (upd H s.heap.objs.size (.lst ys)) {s with heap:=s.heap.push {cls:= .type "list",data:= .seq aq.toArray},toks:=t'}:=
 I.laid (λ_ _ q=>Xj _ q) (Xl _) ⟨a,aq,0,c,XE _ rfl⟩
def Inv.fresh(I:Inv X pins σ H s):H s.heap.objs.size=none:=I.aK.fresh (Xl _)
def Inv.QH(I:Inv X pins σ H s)(a:H l=some (.lst xs)):xs.length<=sizeLine/\∃(aq:List Value) (n:Nat),Vals xs aq/\xs.length=aq.length/\s.heap.get? l=some {cls:= .type "list",data:= .seq aq.toArray n}:=by
 obtain⟨z,aq,n,r,e⟩:=I.aK l _ a;show⟨z,aq,n,r,r.length,e⟩
def MX(h:n<=sizeLine):Builtin.List.listTooLong n=false:=by
 unfold Builtin.List.listTooLong;show XG (by lia)
end
section
variable {X:Cx}
def F_:V->List V->Hp->VK->Prop:=λx b H Q=>∃l a y,x= .ref l/\b=[y]/\H l=some (.lst a)/\a.length<sizeLine/\Q .au (upd H l (.lst (a++[y])))
def A3:VP X "list.append" F_:=by
 intro a s σ H x j v k Q I d f h;obtain⟨l,i,y,rfl,rfl,b,m,q⟩:=h;cases d;obtain⟨u,rfl,g⟩:=f.one;obtain⟨z,c,n,r,o,e⟩:=I.QH b;show ZZ F.slot_list_append ⟨_,e,rfl⟩ F.entry_list_append (F.args_list_append_2 _ _) (PySem.list_append l c.toArray n u (by rw[Xy];lia)) ⟨e,?_⟩;show⟨.au,_,I.Rw (its':=c++[u]) b e (by simp) (r.append (.cons g .nil)) ?_,rfl,q⟩;rw[Yn,aaK];lia
def R0:V->List V->Hp->VK->Prop:=λx b H Q=>∃l a y,x= .ref l/\b=[]/\H l=some (.lst a)/\a[a.length-1]?=some y/\Q y (upd H l (.lst a.dropLast))
def Rt:VP X "list.pop" R0:=by
 intro d s σ H x t v w Q I g i h;obtain⟨l,p,y,rfl,rfl,f,k,q⟩:=h;cases g;let c:=i.zero;subst c;obtain⟨z,a,n,r,o,e⟩:=I.QH f;obtain⟨u,m,j⟩:=r.get k
 let b:a.toArray[a.toArray.size-1]?=some u:=by
  change a.toArray[a.length-1]?=some u;rw[<-Array.getElem?_toList,<-o];show m
 show ZZ F.slot_list_pop ⟨_,e,rfl⟩ F.entry_list_pop (F.args_list_pop_1 _) (MeetsSeq.list_pop_last l a.toArray n u b (by rw[Xy];lia)) ⟨e,?_⟩;show⟨y,_,I.Rw (its':=a.dropLast) f e ?_ r.dropLast ?_,j,q⟩
 . change a.toArray.eraseIdxIfInBounds (a.toArray.size-1)=a.dropLast.toArray;rw[Xy,List.eraseIdxIfInBounds_toArray,GY]
 . rw[Z0];lia
def len_rep{α:Type}(a:List α)(k:Nat):(List.replicate k a).flatten.length=k*a.length:=by
 induction k with
 |zero=>simp
 |succ k b=>rw[Yp,YO,Yn,b,YU,Nat.add_comm]
end
section
variable {prog:Program}{w:World}{A:Around}{E:Value->Shared->Prop}{s:Shared}
set_option maxRecDepth 100000 in
end
end L2
namespace Att
open PySem PySem.W PySem.Calls PyProof.Rows
def yW:∀(ns:List Int) (vs:List Value),WellAll P h vs (ns.map WData.int)->IntsAre vs ns:=by
 intro ns;induction ns with
 |nil=>
  intro vs w;rw[List.map_nil]at w;cases w;show .nil
 |cons n ns c=>
  intro vs w;rw[Ye]at w;cases w with
  |cons a b=>
   cases a;show .cons _ _ (c _ b)
def Lq{l:OpenLaw}(u:l.most=some n){h:Heap}
 (c:l.row.toRowW.claim.pre args=true) (j:WellAll P h b args):
 ∃a vs ns,b=[Value.ref a]/\args=[WData.list (ns.map WData.int)]/\h.get? a=some {cls:= .type "list",data:= .seq vs.toArray}/\IntsAre vs ns/\ns.length<=n:=by
 let k:WShape.hasAll [] args [.list .int]=true:=(pre_splitW c).1;let m:l.pre.holds [] {args:=args}=true:=(pre_splitW c).2;obtain⟨d,r,rfl,x,w⟩:=hasAllW_cons k;obtain rfl:=hasAllW_nil w;obtain⟨y,rfl,v⟩:=hasW_list x;obtain⟨ns,rfl⟩:=items_int v
 let e:ns.length<=n:=by
  unfold OpenLaw.pre at m
  let i:(WTm.not (.lt (.lit (.int (n:Int))) (.len (.arg 0)))).holds [] {args:=[.list (ns.map .int)]}=true:=by
   let i:=(holds_andW m).1;rw[u]at i;show i
  let g:=condW_of i (w_not (w_lt w_lit (w_len_list (w_arg rfl))));rw[Xk]at g;show Zz λq=>?_;let s:(n:Int)<((ns.length:Nat):Int):=by lia
  first
   |(rw[XQ s]at g;show absurd g (by decide))
   |(simp at g;lia)
 cases j with
 |cons p o=>
  cases o;cases p with
  |list t f=>show⟨_,_,ns,rfl,rfl,t,yW ns _ f,e⟩
def Kq(l:OpenLaw)(args:List WData):l.row.toRowW.claim.post args (.bool true) args=true:=
 postW_of (r:=l.row.toRowW) (X:=(true==true))
  (show WShape.has [] (.bool true) .bool=true by first|rfl|decide|simp[WShape.has,WShape.arms,WShape.armsAll])
  (show(WTm.eq .res (.lit (.bool true))).value [] {args:=args,res:=some (.bool true),after:=args}=some (.bool (true==true))from w_eq_bool (w_res rfl) w_lit) rfl
def ER{l:OpenLaw}{d:DefRec}
 (x:l.most=some n) (i:d.params.defaults=[])
 (call:∀(w:World) (s₀ s₁:Shared) (mg mb:Str->Option Value) (fa:Addr) (o:Obj) (pm cd doc:Value) (a:Addr) (vs:List Value) (ns:List Int),
   Ground q loose [] XP w s₀ mg mb s₁.heap->YP w s₁.heap->
   s₁.heap.get? fa=some o->o.data= .func (docDef d.name d.params d.body d.scope pm cd doc)->s₁.heap.CodeRec cd d.name->mg d.name=some (.ref fa)->
   s₁.heap.get? a=some {cls:= .type "list",data:= .seq vs.toArray}->IntsAre vs ns->ns.length<=n->s₁.gens= #[]->
   codeAny (model l.prog w) callerA (.call (.ref fa) ⟨[.ref a],[]⟩) (λr s'=>r= .ok (.ret (.bool true))/\OldK s₁.heap s'.heap/\s'.os=s₁.os/\AllBare s'.gens) s₁):
 WalkO q loose XP YP l.row.toRowW d [] (λf vs=>PySem.call f vs):=by
 intro w s₀ s₁ mg mb G Y fa o pm cd doc F kV v B j p h A s k H b m t g z;obtain rfl:F= .none:=Dflts.none p i;obtain rfl:kV= .none:=Dflts.noKw p;obtain⟨a,vs,ns,rfl,rfl,c,hints,e⟩:=Lq x b g;show enter_call (abp (call w s₀ s₁ mg mb fa o pm cd doc a vs ns G Y v (fd_plain B) j h c hints e A) λr s' u=>?_);obtain⟨rfl,E,D,C⟩:=u;show⟨.inl ⟨.bool true,.bool true,[],rfl,λ_=>rfl,.bool true,Kq l _,λ_=>⟨List.Pairwise.nil,λ_ y=>(nomatch y)⟩⟩,E,D,C⟩
end Att
namespace L2
open PySem PySem.Spec PyProof.Rows
def qF:∀ {vs:List Value} {ns:List Int},IntsAre vs ns->Vals (ns.map V.int) vs
 |_,_,.nil=> .nil
 |_,_,.cons n t h=> .cons ⟨t,rfl⟩ (qF h)
end L2
/-THE LAST THEOREM (shape;LID,My.*are yours):
 My.Adr:a structure of the addresses that your layer names (classes,functions);My.Txt K t:a structure (Prop) of the equations over K;
 My.txt_mk:{K} {implicit addresses ..} (e1:nsIn K mainGlobals "law"=some (some (.ref f))) (e2:K.lookup f=some ⟨oc,od,.func (fnOf "law" "law" params body scope dV kV doc pm an cdv ct),sl⟩) (e3:codeIn K cdv "law"=true) .. :∃t,My.Txt K t
set_option maxRecDepth 100000 in
set_option maxHeartbeats 0 in
(the tactic k_is has no namespace:write k_is)-/
namespace L2
open PySem PySem.Spec PyProof.Rows
def inClass(s:Stmt)(j:Nat):Stmt:=match s with
 | .ClassDef _ _ _ a _ _ _ _ _ _ _=>a.getD j (.Pass ⟨0,0,0,0⟩)
 |_=> .Pass ⟨0,0,0,0⟩
def mR(s:Stmt):Arguments:=match s with
 | .FunctionDef _ a _ _ _ _ _ _ _ _=>a
 |_=>{posonlyargs:=[],args:=[],vararg:=none,kwonlyargs:=[],kw_defaults:=[],kwarg:=none,defaults:=[]}
def hJ(s:Stmt):List Stmt:=match s with
 | .FunctionDef _ _ b _ _ _ _ _ _ _=>b
 |_=>[]
def bH(s:Stmt):Scope:=match s with
 | .FunctionDef _ _ _ _ _ _ a _ _ _=>a
 |_=>{kind:= .function,names:=[],isGenerator:=false,isCoroutine:=false}
abbrev eC:wz:=λ_ _ _ _ _ _=>False
abbrev E0:XK:=λ_ _ _=>False
def yG:Passes eC X E0:=λ_ _ _ _ _ _ _ h=>h.elim
structure oG(K:PySem.W.Frag)(x qual:Str)(st:Stmt)(f:Addr)(fd:FuncData):Prop where
 ex:∃(oc:Value) (od:Option Addr) (kV doc pm:Value) (an:Option Addr) (cdv ct:Value) (osl:Array (Option Value)),
  fd=PySem.W.fnOf x qual (mR st) (hJ st) (bH st) .none kV doc pm an cdv ct/\K.lookup f=some ⟨oc,od,.func fd,osl⟩/\PySem.W.codeIn K cdv qual=true
 kp:PySem.W.keepIn K (.ref f)=true
section
variable {P:Program}{w:World}{K:PySem.W.Frag}{mg:Str->Option Value}{base:Heap}
def oG.ok{x a:Str}{st:Stmt}{f:Addr}{fd:FuncData}{N d:List Str}{k:Nat}{sp:Sp}(F:oG K x a st f fd)(S:nW N d (bH st))(len:∀vs H Q E,sp vs H Q E->vs.length=d.length)
 (c:∀(b:Value) (A:Around) (outer:List Env) (s:Shared) (H:Hp) (vs:List V) (Q:VK) (E:XK),cU k (A.deeper (envOfC a (bH st) s.heap.objs.size f b))->sp vs H Q E->
   ∃t,ja (rE eC P w K mg base N a (bH st) f b A outer s H E).wA (hJ st) t/\t {nx:=λ_ n=>Q .au n,rt:=Q} (start N vs) H):cH P w K mg base eC (k+1) f fd d sp:=by
 obtain⟨r,p,kV,m,o,v,b,u,i,rfl,j,g⟩:=F.ex;show Nt j g S len λA outer s H vs Q E l e=>?_;obtain⟨t,h,q⟩:=c b A outer s H vs Q E l e;show⟨t,h.wA,q⟩
def oG.binds{x a:Str}{st:Stmt}{f:Addr}{fd:FuncData}{c:List Str}(F:oG K x a st f fd)
 (h:∀(kV b d:Value) (an:Option Addr) (cdv ct:Value) (us:List Value),us.length=c.length->bindArgs (PySem.W.fnOf x a (mR st) (hJ st) (bH st) .none kV b d an cdv ct) ⟨us,[]⟩=pure (c.zip us)):Binds K fd c []:=by
 obtain⟨j,i,kV,b,d,an,cdv,ct,e,rfl,k,g⟩:=F.ex;show .all (h kV b d an cdv ct)
def K7{x a:Str}{st:Stmt}{f:Addr}{j:Value}{i h:Option Addr}{e:Array (Option Value)}{kV d g b ct:Value}(l:K.lookup f=some ⟨j,i,.func (PySem.W.fnOf x a (mR st) (hJ st) (bH st) .none kV d g h b ct),e⟩)
 (c:PySem.W.codeIn K b a=true) (k:PySem.W.keepIn K (.ref f)=true):oG K x a st f (PySem.W.fnOf x a (mR st) (hJ st) (bH st) .none kV d g h b ct):=⟨⟨j,i,kV,d,g,h,b,ct,e,rfl,l,c⟩,k⟩
end
def du{A B:Prop}(h:A):if true=true then A else B:=by
 rw[Xr rfl];show h
def MH(H a:Hp):Prop:=∀b o,H b=some o->a b=some o
end L2
set_option maxHeartbeats 4000000
namespace Hd
open PySem PySem.W PySem.Calls PyProof.Rows
noncomputable def bt (P:Params):BT:=(.node (boot_o_0 P) (.node (boot_o_1 P) (.node (boot_o_3 P) (.node (boot_o_7 P) .nil .nil) .nil) (.node (boot_o_5 P) (.node (boot_o_9 P) .nil .nil) .nil)) (.node (boot_o_2 P) (.node (boot_o_4 P) (.node (boot_o_8 P) .nil .nil) .nil) (.node (boot_o_6 P) (.node (boot_o_10 P) .nil .nil) .nil)))
def Tp(P:Params):absHeap (bt P) 11 (boot_heap P).life=boot_heap P:=by kernel_rfl
noncomputable def run (p:Program) (w:World) (n:Nat) (a:Option Value):Nat->SharedT->Thread->Option SharedT
 |0,_,_=>none
 |k+1,s,t=>match through t with
  |true=>some s
  |false=>match Fast.tw6613529449190102663 n a t with
   |false=>none
   |true=>match Fast.tw10156331382660048174 (Fast.tw11892475500146522536 Fast.tw14364793385576792824) p w s t with
    |some (c,b)=>run p w n a k c b
    |none=>none
def KL:∀ {k:Nat} {s s':SharedT} {t:Thread},run p w n a k s t=some s'->topRun treeTable p w n a k s.abs t=some s'.abs
 |0,_,_,_,h=>by cases h
 |k+1,s,s',t,h=>by
  unfold run at h;unfold topRun;cases d:through t with
  |true=>rw[d]at h;cases h;rfl
  |false=>
   rw[d]at h;rw[<-Fast.te6613529449190102663,<-Fast.te10156331382660048174,<-Fast.te11892475500146522536,<-Fast.te14364793385576792824]at h;cases c:stepOk n a t with
   |false=>simp![c]at h;cases h
   |true=>
    simp![c]at h;cases b:stepT (denote treeTable) p w s t with
    |none=>rw[b]at h;cases h
    |some r=>obtain⟨f,e⟩:=r;rw[b]at h;rw[stepT_spec b];show KL h
noncomputable def b0 (w:World) (a:OsState):SharedT:=⟨bt w.params,11,(boot_heap w.params).life,⟨[]⟩,boot_drawn,boot_toks,a⟩
def Rb(w:World)(a:OsState):(b0 w a).abs=⟨boot_heap w.params,⟨[]⟩,boot_drawn,boot_toks,a⟩:=by
 unfold b0 SharedT.abs;dsimp only;rw[Tp]
def left{p q:Program}{α:Type}{c:Shared->α}{g:World->α}
 (e:opening p=plainProg p.main.scope.names) (f:∀s,fenceModules? p s=some s) (l:Nat.ble 600 N=true)
 (h:∀(w:World) (os:OsState),(run p w 11 (some (.ref 6)) N (b0 w os) (topStub p)).bind (λs=>match staticsOk (importedModules p.main.body) (boot_heap w.params) s.abs.heap&&namesBound p s.abs.heap&&gensDone s.abs&&laidKept (boot_heap w.params) s.abs.heap with
   |true=>some (Fast.tw4187177175401517315 q loose (importedModules p.main.body) (λ_=>true) true s.abs,c s.abs)
   |false=>none)=some (openGood q loose,g w)):LeftO p q loose (λ_=>true) c g N:=λw=>by
 obtain⟨⟨j,gs,d,k,os⟩,n,m⟩:=Option.map_eq_some_iff.mp (boot_open e l f w);obtain⟨rfl,rfl,rfl,rfl⟩:j=boot_heap w.params/\gs=⟨[]⟩/\d=boot_drawn/\k=boot_toks:=by simpa using m
 obtain⟨s,i,a⟩:=Option.bind_eq_some_iff.mp (h w os);let b:=KL i;rw[Rb]at b;rw[<-Fast.te4187177175401517315]at a;unfold openEnds;rw[n];change(topFrom treeTable p w N _).map _=_;unfold topFrom;rw[show((boot_heap w.params).isNs mainGlobals&&(⟨[]⟩:Array GenState).size==0)=true from by kernel_rfl];dsimp only;rw[show(boot_heap w.params).objs.size=11 from by kernel_rfl,show(boot_heap w.params).nsMap mainGlobals "__annotations__"=some (.ref 6)from by kernel_rfl,b];change((match staticsOk (importedModules p.main.body) (boot_heap w.params) s.abs.heap&&namesBound p s.abs.heap&&gensDone s.abs&&laidKept (boot_heap w.params) s.abs.heap with|true=>some s.abs|false=>none):Option Shared).map _=_;cases z:(staticsOk (importedModules p.main.body) (boot_heap w.params) s.abs.heap&&namesBound p s.abs.heap&&gensDone s.abs&&laidKept (boot_heap w.params) s.abs.heap)with
 |false=>rw[z]at a;cases a
 |true=>rw[z]at a;show a
abbrev e(x:Str)(t:Nat)(v:Value):Str×Nat×Value:=(x,t,v)
abbrev k(a:Addr)(o:Obj):Addr×Obj:=(a,o)
def no(P:Params)(n:Nat)(l:List (Str×Nat×Value)):Obj:=⟨.type "dict",none,.dict (l.map λe=>⟨PyData.keyHash P e.1,.str e.1 e.2.1,e.2.2⟩).toArray n,#[]⟩
def fd(st:Stmt)(x q:Str)(a:Value)(c:Addr):FuncData:=fnOf x q (L2.mR st) (L2.hJ st) (L2.bH st) .none .none .none a none (.ref c) .none
def fq(st:Stmt)(x q:Str)(a:Value)(c:Addr):Obj:=⟨.type "function",none,.func (fd st x q a c),#[]⟩
def co(x q:Str)(t:Nat)(c e:Int)(a b:Addr)(u v:Value)(d:Addr)(i:Int)(z:Nat):Obj:=⟨.type "code",none,.fields #[.str x t,.str q (t+1),.str "/claim/cut.py" (t+2),.int c 0,.int e 0,.int 0 0,.int 0 0,.int 3 0,.ref a,.bool true,.int 181 0,.ref b,.none,u,v,.ref d,.int i 0,.int c 0,.str "/claim/cut.py" z],#[]⟩
end Hd
namespace Row
open PySem L2
open PySem.Spec hiding items?
open PyProof.Rows hiding St
def top(i:Nat):Stmt:=PySem.Challenge.pw_latticeworks_k71_plans_gone_through.main.body.getD i (.Pass ⟨0,0,0,0⟩)
abbrev PW:Program:=PySem.Challenge.pw_latticeworks_k71_plans_gone_through
abbrev xI:Stmt:=top 1
abbrev C5:Stmt:=top 2
abbrev Dd:Stmt:=top 3
abbrev Ax:Stmt:=top 4
abbrev Ai:Stmt:=top 5
abbrev DW:Stmt:=top 6
abbrev Aq:Stmt:=top 7
abbrev uO:Stmt:=top 9
abbrev zx:Stmt:=top 10
abbrev xj:Stmt:=top 11
abbrev xD:Stmt:=top 12
abbrev o6:Stmt:=top 13
abbrev tE:Stmt:=top 14
abbrev rL:Stmt:=top 15
abbrev HB:Stmt:=top 16
abbrev vw:Stmt:=top 18
abbrev j6:Stmt:=top 19
abbrev rQ:Stmt:=top 20
abbrev uA:Stmt:=top 21
abbrev d8:Stmt:=inClass (top 22) 0
abbrev kE:Stmt:=inClass (top 22) 1
abbrev gQ:Stmt:=inClass (top 22) 2
abbrev fH:Stmt:=inClass (top 22) 3
abbrev eN:Stmt:=inClass (top 22) 4
abbrev i4:Stmt:=inClass (top 22) 5
abbrev fF:Stmt:=inClass (top 22) 6
abbrev sT:Stmt:=top 23
abbrev vz:Stmt:=top 24
abbrev zB:Stmt:=top 25
abbrev rl:Stmt:=top 27
abbrev rD:Stmt:=top 28
abbrev nj:Stmt:=top 29
abbrev nY:Stmt:=top 31
abbrev uW:Stmt:=top 32
abbrev oi:Stmt:=top 34
abbrev pw:Stmt:=top 35
abbrev ff:Stmt:=inClass (top 36) 0
abbrev fZ:Stmt:=inClass (top 37) 0
abbrev ju:Stmt:=inClass (top 37) 1
abbrev j_:Stmt:=inClass (top 37) 2
abbrev gu:Stmt:=inClass (top 37) 3
abbrev gG:Stmt:=inClass (top 37) 4
abbrev gy:Stmt:=inClass (top 37) 5
abbrev gJ:Stmt:=inClass (top 37) 6
abbrev fS:Stmt:=inClass (top 39) 0
abbrev fV:Stmt:=inClass (top 39) 1
abbrev jA:Stmt:=inClass (top 39) 2
abbrev e_:Stmt:=inClass (top 39) 5
abbrev iZ:Stmt:=inClass (top 39) 4
abbrev fx:Stmt:=inClass (top 39) 3
abbrev jb:Stmt:=top 41
abbrev nJ:Stmt:=top 42
abbrev o7:Stmt:=top 43
abbrev rK:Stmt:=top 44
abbrev gv:Stmt:=inClass (top 45) 0
abbrev fU:Stmt:=inClass (top 45) 1
abbrev gh:Stmt:=inClass (top 45) 2
abbrev vg:Stmt:=top 46
abbrev xn:Stmt:=top 48
abbrev td:Stmt:=top 49
abbrev tw:Stmt:=top 50
abbrev vf:Stmt:=top 51
abbrev vh:Stmt:=top 52
abbrev tD:Stmt:=top 53
abbrev uM:Stmt:=top 54
abbrev rW:Stmt:=top 55
abbrev pq:Stmt:=top 56
abbrev uu:Stmt:=top 57
abbrev rP:Stmt:=top 58
abbrev nA:Stmt:=top 59
abbrev pU:Stmt:=top 60
abbrev oV:Stmt:=top 61
abbrev rJ:Stmt:=top 62
abbrev rM:Stmt:=top 63
abbrev yb:Stmt:=top 64
def qY:Value:=(.str "latticeworks.fractions" 187)
def o_:Value:=(.str "latticeworks.rows" 248)
def fT:Value:=(.str "latticeworks.standing" 304)
def Gj:Value:=(.str "latticeworks.inside" 455)
def Nq:Value:=(.str "latticeworks.answers" 491)
def iE:Value:=(.str "latticeworks.layers" 516)
def nE:Value:=(.str "latticeworks.waiting" 651)
def mM:Value:=(.str "latticeworks.plans" 728)
def fQ:Value:=(.str "law_latticeworks_k71_plans_gone_through" 833)
def KX(P:Params):PySem.W.Frag:=[Hd.k 3 (Hd.no P 65 [Hd.e "__name__" 165 (.str "law_latticeworks_k71_plans_gone_through" 833),Hd.e "__doc__" 166 .none,Hd.e "__package__" 167 .none,Hd.e "__loader__" 168 (.builtin "__main__.__loader__#opaque"),Hd.e "__spec__" 169 .none,Hd.e "__annotations__" 170 (.ref 6),Hd.e "__builtins__" 171 (.ref 4),Hd.e "__file__" 173 (.str "/claim/cut.py" 172),Hd.e "__cached__" 174 .none,Hd.e "common" 199 (.ref 21),Hd.e "part" 208 (.ref 28),Hd.e "plus" 216 (.ref 35),Hd.e "minus" 224 (.ref 42),Hd.e "times" 232 (.ref 49),Hd.e "over" 240 (.ref 56),Hd.e "whole" 247 (.ref 63),Hd.e "as_rows" 255 (.ref 68),Hd.e "added" 261 (.ref 73),Hd.e "sum_by" 273 (.ref 80),Hd.e "column" 279 (.ref 85),Hd.e "turned_over" 285 (.ref 90),Hd.e "unit_row" 291 (.ref 95),Hd.e "unit_rows" 297 (.ref 100),Hd.e "dot" 303 (.ref 105),Hd.e "lead_of" 314 (.ref 112),Hd.e "nearest_quotient" 322 (.ref 119),Hd.e "exchanged" 332 (.ref 126),Hd.e "negated" 338 (.ref 131),Hd.e "Bench" 422 (.ref 186),Hd.e "standing" 433 (.ref 197),Hd.e "weighed" 446 (.ref 204),Hd.e "falls" 454 (.ref 211),Hd.e "parts_dot" 467 (.ref 218),Hd.e "bottom_at" 477 (.ref 225),Hd.e "parts_against" 490 (.ref 232),Hd.e "steps_behind" 500 (.ref 239),Hd.e "answers" 515 (.ref 246),Hd.e "least_sum" 523 (.ref 251),Hd.e "most_sum" 529 (.ref 256),Hd.e "Layer" 559 (.ref 271),Hd.e "Task" 650 (.ref 332),Hd.e "Waiting" 727 (.ref 388),Hd.e "first_and_rows" 735 (.ref 397),Hd.e "node_against" 747 (.ref 404),Hd.e "put_if_open" 758 (.ref 411),Hd.e "best_plan" 770 (.ref 418),Hd.e "Grower" 817 (.ref 447),Hd.e "planned" 832 (.ref 458),Hd.e "_law_at" 842 (.ref 465),Hd.e "_law_hand" 851 (.ref 472),Hd.e "_law_take" 862 (.ref 479),Hd.e "_law_dot" 868 (.ref 484),Hd.e "_law_row" 874 (.ref 489),Hd.e "_law_rows" 880 (.ref 494),Hd.e "_law_box" 886 (.ref 499),Hd.e "_law_inner" 898 (.ref 506),Hd.e "_law_task" 904 (.ref 511),Hd.e "_law_all" 910 (.ref 516),Hd.e "_law_first" 916 (.ref 521),Hd.e "_law_is_number" 923 (.ref 528),Hd.e "_law_is_row" 929 (.ref 533),Hd.e "_law_is_best" 937 (.ref 540),Hd.e "_law_lists" 943 (.ref 545),Hd.e "_law_right" 953 (.ref 552),Hd.e "law" 963 (.ref 559)]),
 Hd.k 20 (Hd.co "common" "common" 189 2 2 15 16 (.ref 17) (.ref 18) 19 197 198),
 Hd.k 21 (Hd.fq xI "common" "common" qY 20),
 Hd.k 27 (Hd.co "part" "part" 200 10 2 22 23 (.ref 24) (.ref 25) 26 206 207),
 Hd.k 28 (Hd.fq C5 "part" "part" qY 27),
 Hd.k 34 (Hd.co "plus" "plus" 209 15 2 29 30 (.ref 31) (.ref 32) 33 214 215),
 Hd.k 35 (Hd.fq Dd "plus" "plus" qY 34),
 Hd.k 41 (Hd.co "minus" "minus" 217 17 2 36 37 (.ref 38) (.ref 39) 40 222 223),
 Hd.k 42 (Hd.fq Ax "minus" "minus" qY 41),
 Hd.k 48 (Hd.co "times" "times" 225 19 2 43 44 (.ref 45) (.ref 46) 47 230 231),
 Hd.k 49 (Hd.fq Ai "times" "times" qY 48),
 Hd.k 55 (Hd.co "over" "over" 233 21 2 50 51 (.ref 52) (.ref 53) 54 238 239),
 Hd.k 56 (Hd.fq DW "over" "over" qY 55),
 Hd.k 62 (Hd.co "whole" "whole" 241 23 1 57 58 (.ref 59) (.ref 60) 61 245 246),
 Hd.k 63 (Hd.fq Aq "whole" "whole" qY 62),
 Hd.k 67 (Hd.co "as_rows" "as_rows" 250 26 1 64 65 .none .none 66 253 254),
 Hd.k 68 (Hd.fq uO "as_rows" "as_rows" o_ 67),
 Hd.k 72 (Hd.co "added" "added" 256 28 3 69 70 .none .none 71 259 260),
 Hd.k 73 (Hd.fq zx "added" "added" o_ 72),
 Hd.k 79 (Hd.co "sum_by" "sum_by" 262 30 3 74 75 (.ref 76) (.ref 77) 78 271 272),
 Hd.k 80 (Hd.fq xj "sum_by" "sum_by" o_ 79),
 Hd.k 84 (Hd.co "column" "column" 274 35 2 81 82 .none .none 83 277 278),
 Hd.k 85 (Hd.fq xD "column" "column" o_ 84),
 Hd.k 89 (Hd.co "turned_over" "turned_over" 280 37 2 86 87 .none .none 88 283 284),
 Hd.k 90 (Hd.fq o6 "turned_over" "turned_over" o_ 89),
 Hd.k 94 (Hd.co "unit_row" "unit_row" 286 39 2 91 92 .none .none 93 289 290),
 Hd.k 95 (Hd.fq tE "unit_row" "unit_row" o_ 94),
 Hd.k 99 (Hd.co "unit_rows" "unit_rows" 292 41 1 96 97 .none .none 98 295 296),
 Hd.k 100 (Hd.fq rL "unit_rows" "unit_rows" o_ 99),
 Hd.k 104 (Hd.co "dot" "dot" 298 43 2 101 102 .none .none 103 301 302),
 Hd.k 105 (Hd.fq HB "dot" "dot" o_ 104),
 Hd.k 111 (Hd.co "lead_of" "lead_of" 306 46 1 106 107 (.ref 108) (.ref 109) 110 312 313),
 Hd.k 112 (Hd.fq vw "lead_of" "lead_of" fT 111),
 Hd.k 118 (Hd.co "nearest_quotient" "nearest_quotient" 315 51 2 113 114 (.ref 115) (.ref 116) 117 320 321),
 Hd.k 119 (Hd.fq j6 "nearest_quotient" "nearest_quotient" fT 118),
 Hd.k 125 (Hd.co "exchanged" "exchanged" 323 53 3 120 121 (.ref 122) (.ref 123) 124 330 331),
 Hd.k 126 (Hd.fq rQ "exchanged" "exchanged" fT 125),
 Hd.k 130 (Hd.co "negated" "negated" 333 58 1 127 128 .none .none 129 336 337),
 Hd.k 131 (Hd.fq uA "negated" "negated" fT 130),
 Hd.k 142 (Hd.co "__init__" "Bench.__init__" 351 62 2 139 140 .none .none 141 354 355),
 Hd.k 143 (Hd.fq d8 "__init__" "Bench.__init__" fT 142),
 Hd.k 149 (Hd.co "take" "Bench.take" 357 67 4 144 145 (.ref 146) (.ref 147) 148 364 365),
 Hd.k 150 (Hd.fq kE "take" "Bench.take" fT 149),
 Hd.k 156 (Hd.co "exchange" "Bench.exchange" 367 72 3 151 152 (.ref 153) (.ref 154) 155 373 374),
 Hd.k 157 (Hd.fq gQ "exchange" "Bench.exchange" fT 156),
 Hd.k 163 (Hd.co "change_sign" "Bench.change_sign" 376 77 2 158 159 (.ref 160) (.ref 161) 162 381 382),
 Hd.k 164 (Hd.fq fH "change_sign" "Bench.change_sign" fT 163),
 Hd.k 168 (Hd.co "live_rows" "Bench.live_rows" 384 82 3 165 166 .none .none 167 387 388),
 Hd.k 169 (Hd.fq eN "live_rows" "Bench.live_rows" fT 168),
 Hd.k 175 (Hd.co "gather" "Bench.gather" 390 86 3 170 171 (.ref 172) (.ref 173) 174 399 400),
 Hd.k 176 (Hd.fq i4 "gather" "Bench.gather" fT 175),
 Hd.k 182 (Hd.co "lower_above" "Bench.lower_above" 402 100 3 177 178 (.ref 179) (.ref 180) 181 409 410),
 Hd.k 183 (Hd.fq fF "lower_above" "Bench.lower_above" fT 182),
 Hd.k 185 (Hd.no P 4 [Hd.e "__module__" 346 (.str "latticeworks.standing" 304),Hd.e "__firstlineno__" 350 (.int (60) 349),Hd.e "__init__" 356 (.ref 143),Hd.e "take" 366 (.ref 150),Hd.e "exchange" 375 (.ref 157),Hd.e "change_sign" 383 (.ref 164),Hd.e "live_rows" 389 (.ref 169),Hd.e "gather" 401 (.ref 176),Hd.e "lower_above" 411 (.ref 183),Hd.e "__static_attributes__" 415 (.ref 184),Hd.e "__dict__" 417 (.ref 187),Hd.e "__weakref__" 419 (.ref 188),Hd.e "__doc__" 420 .none]),
 Hd.k 186 (⟨(.type "type"),none,.cls {name:="Bench",bases:=[(.type "object")],mro:=[(.ref 186),(.type "object")],ns:=185,qualname:="Bench",hasDict:=true,subclasses:=[],abstract:=false,hasDel:=false},#[none,none,(some (.str "Bench" 339)),(some (.str "Bench" 347)),(some (.builtin "object.__new__")),(some (.bool true))]⟩),
 Hd.k 196 (Hd.co "standing" "standing" 423 103 1 191 192 (.ref 193) (.ref 194) 195 431 432),
 Hd.k 197 (Hd.fq sT "standing" "standing" fT 196),
 Hd.k 203 (Hd.co "weighed" "weighed" 434 112 2 198 199 (.ref 200) (.ref 201) 202 444 445),
 Hd.k 204 (Hd.fq vz "weighed" "weighed" fT 203),
 Hd.k 210 (Hd.co "falls" "falls" 447 121 2 205 206 (.ref 207) (.ref 208) 209 452 453),
 Hd.k 211 (Hd.fq zB "falls" "falls" fT 210),
 Hd.k 217 (Hd.co "parts_dot" "parts_dot" 457 124 2 212 213 (.ref 214) (.ref 215) 216 465 466),
 Hd.k 218 (Hd.fq rl "parts_dot" "parts_dot" Gj 217),
 Hd.k 224 (Hd.co "bottom_at" "bottom_at" 468 129 3 219 220 (.ref 221) (.ref 222) 223 475 476),
 Hd.k 225 (Hd.fq rD "bottom_at" "bottom_at" Gj 224),
 Hd.k 231 (Hd.co "parts_against" "parts_against" 478 134 2 226 227 (.ref 228) (.ref 229) 230 488 489),
 Hd.k 232 (Hd.fq nj "parts_against" "parts_against" Gj 231),
 Hd.k 238 (Hd.co "steps_behind" "steps_behind" 493 145 2 233 234 (.ref 235) (.ref 236) 237 498 499),
 Hd.k 239 (Hd.fq nY "steps_behind" "steps_behind" Nq 238),
 Hd.k 245 (Hd.co "answers" "answers" 501 147 2 240 241 (.ref 242) (.ref 243) 244 513 514),
 Hd.k 246 (Hd.fq uW "answers" "answers" Nq 245),
 Hd.k 250 (Hd.co "least_sum" "least_sum" 518 159 3 247 248 .none .none 249 521 522),
 Hd.k 251 (Hd.fq oi "least_sum" "least_sum" iE 250),
 Hd.k 255 (Hd.co "most_sum" "most_sum" 524 161 3 252 253 .none .none 254 527 528),
 Hd.k 256 (Hd.fq pw "most_sum" "most_sum" iE 255),
 Hd.k 267 (Hd.co "__init__" "Layer.__init__" 542 165 3 264 265 .none .none 266 545 546),
 Hd.k 268 (Hd.fq ff "__init__" "Layer.__init__" iE 267),
 Hd.k 270 (Hd.no P 4 [Hd.e "__module__" 537 (.str "latticeworks.layers" 516),Hd.e "__firstlineno__" 541 (.int (163) 540),Hd.e "__init__" 547 (.ref 268),Hd.e "__static_attributes__" 552 (.ref 269),Hd.e "__dict__" 554 (.ref 272),Hd.e "__weakref__" 556 (.ref 273),Hd.e "__doc__" 557 .none]),
 Hd.k 271 (⟨(.type "type"),none,.cls {name:="Layer",bases:=[(.type "object")],mro:=[(.ref 271),(.type "object")],ns:=270,qualname:="Layer",hasDict:=true,subclasses:=[],abstract:=false,hasDel:=false},#[none,none,(some (.str "Layer" 530)),(some (.str "Layer" 538)),(some (.builtin "object.__new__")),(some (.bool true))]⟩),
 Hd.k 286 (Hd.co "__init__" "Task.__init__" 572 174 7 283 284 .none .none 285 575 576),
 Hd.k 287 (Hd.fq fZ "__init__" "Task.__init__" iE 286),
 Hd.k 293 (Hd.co "is_end" "Task.is_end" 578 183 2 288 289 (.ref 290) (.ref 291) 292 583 584),
 Hd.k 294 (Hd.fq ju "is_end" "Task.is_end" iE 293),
 Hd.k 300 (Hd.co "fixed" "Task.fixed" 586 186 3 295 296 (.ref 297) (.ref 298) 299 592 593),
 Hd.k 301 (Hd.fq j_ "fixed" "Task.fixed" iE 300),
 Hd.k 307 (Hd.co "is_outside" "Task.is_outside" 595 189 3 302 303 (.ref 304) (.ref 305) 306 601 602),
 Hd.k 308 (Hd.fq gu "is_outside" "Task.is_outside" iE 307),
 Hd.k 314 (Hd.co "is_broken" "Task.is_broken" 604 192 4 309 310 (.ref 311) (.ref 312) 313 612 613),
 Hd.k 315 (Hd.fq gG "is_broken" "Task.is_broken" iE 314),
 Hd.k 321 (Hd.co "least_cost" "Task.least_cost" 615 196 3 316 317 (.ref 318) (.ref 319) 320 621 622),
 Hd.k 322 (Hd.fq gy "least_cost" "Task.least_cost" iE 321),
 Hd.k 328 (Hd.co "is_dearer" "Task.is_dearer" 624 199 5 323 324 (.ref 325) (.ref 326) 327 633 634),
 Hd.k 329 (Hd.fq gJ "is_dearer" "Task.is_dearer" iE 328),
 Hd.k 331 (Hd.no P 4 [Hd.e "__module__" 567 (.str "latticeworks.layers" 516),Hd.e "__firstlineno__" 571 (.int (172) 570),Hd.e "__init__" 577 (.ref 287),Hd.e "is_end" 585 (.ref 294),Hd.e "fixed" 594 (.ref 301),Hd.e "is_outside" 603 (.ref 308),Hd.e "is_broken" 614 (.ref 315),Hd.e "least_cost" 623 (.ref 322),Hd.e "is_dearer" 635 (.ref 329),Hd.e "__static_attributes__" 643 (.ref 330),Hd.e "__dict__" 645 (.ref 333),Hd.e "__weakref__" 647 (.ref 334),Hd.e "__doc__" 648 .none]),
 Hd.k 332 (⟨(.type "type"),none,.cls {name:="Task",bases:=[(.type "object")],mro:=[(.ref 332),(.type "object")],ns:=331,qualname:="Task",hasDict:=true,subclasses:=[],abstract:=false,hasDel:=false},#[none,none,(some (.str "Task" 560)),(some (.str "Task" 568)),(some (.builtin "object.__new__")),(some (.bool true))]⟩),
 Hd.k 349 (Hd.co "__init__" "Waiting.__init__" 665 205 1 344 345 (.ref 346) (.ref 347) 348 669 670),
 Hd.k 350 (Hd.fq fS "__init__" "Waiting.__init__" nE 349),
 Hd.k 356 (Hd.co "is_empty" "Waiting.is_empty" 672 208 1 351 352 (.ref 353) (.ref 354) 355 676 677),
 Hd.k 357 (Hd.fq fV "is_empty" "Waiting.is_empty" nE 356),
 Hd.k 363 (Hd.co "put" "Waiting.put" 679 211 2 358 359 (.ref 360) (.ref 361) 362 686 687),
 Hd.k 364 (Hd.fq jA "put" "Waiting.put" nE 363),
 Hd.k 370 (Hd.co "take_least" "Waiting.take_least" 689 220 1 365 366 (.ref 367) (.ref 368) 369 696 697),
 Hd.k 371 (Hd.fq fx "take_least" "Waiting.take_least" nE 370),
 Hd.k 377 (Hd.co "sink" "Waiting.sink" 699 228 2 372 373 (.ref 374) (.ref 375) 376 707 708),
 Hd.k 378 (Hd.fq iZ "sink" "Waiting.sink" nE 377),
 Hd.k 384 (Hd.co "lesser_below" "Waiting.lesser_below" 710 238 2 379 380 (.ref 381) (.ref 382) 383 716 717),
 Hd.k 385 (Hd.fq e_ "lesser_below" "Waiting.lesser_below" nE 384),
 Hd.k 387 (Hd.no P 4 [Hd.e "__module__" 660 (.str "latticeworks.waiting" 651),Hd.e "__firstlineno__" 664 (.int (203) 663),Hd.e "__init__" 671 (.ref 350),Hd.e "is_empty" 678 (.ref 357),Hd.e "put" 688 (.ref 364),Hd.e "take_least" 698 (.ref 371),Hd.e "sink" 709 (.ref 378),Hd.e "lesser_below" 718 (.ref 385),Hd.e "__static_attributes__" 720 (.ref 386),Hd.e "__dict__" 722 (.ref 389),Hd.e "__weakref__" 724 (.ref 390),Hd.e "__doc__" 725 .none]),
 Hd.k 388 (⟨(.type "type"),none,.cls {name:="Waiting",bases:=[(.type "object")],mro:=[(.ref 388),(.type "object")],ns:=387,qualname:="Waiting",hasDict:=true,subclasses:=[],abstract:=false,hasDel:=false},#[none,none,(some (.str "Waiting" 653)),(some (.str "Waiting" 661)),(some (.builtin "object.__new__")),(some (.bool true))]⟩),
 Hd.k 396 (Hd.co "first_and_rows" "first_and_rows" 730 246 3 393 394 .none .none 395 733 734),
 Hd.k 397 (Hd.fq jb "first_and_rows" "first_and_rows" mM 396),
 Hd.k 403 (Hd.co "node_against" "node_against" 736 252 3 398 399 (.ref 400) (.ref 401) 402 745 746),
 Hd.k 404 (Hd.fq nJ "node_against" "node_against" mM 403),
 Hd.k 410 (Hd.co "put_if_open" "put_if_open" 748 261 4 405 406 (.ref 407) (.ref 408) 409 756 757),
 Hd.k 411 (Hd.fq o7 "put_if_open" "put_if_open" mM 410),
 Hd.k 417 (Hd.co "best_plan" "best_plan" 759 265 2 412 413 (.ref 414) (.ref 415) 416 768 769),
 Hd.k 418 (Hd.fq rK "best_plan" "best_plan" mM 417),
 Hd.k 431 (Hd.co "__init__" "Grower.__init__" 783 278 3 426 427 (.ref 428) (.ref 429) 430 789 790),
 Hd.k 432 (Hd.fq gv "__init__" "Grower.__init__" mM 431),
 Hd.k 438 (Hd.co "is_dearer" "Grower.is_dearer" 792 283 3 433 434 (.ref 435) (.ref 436) 437 798 799),
 Hd.k 439 (Hd.fq fU "is_dearer" "Grower.is_dearer" mM 438),
 Hd.k 443 (Hd.co "node" "Grower.node" 801 288 3 440 441 .none .none 442 804 805),
 Hd.k 444 (Hd.fq gh "node" "Grower.node" mM 443),
 Hd.k 446 (Hd.no P 4 [Hd.e "__module__" 778 (.str "latticeworks.plans" 728),Hd.e "__firstlineno__" 782 (.int (276) 781),Hd.e "__init__" 791 (.ref 432),Hd.e "is_dearer" 800 (.ref 439),Hd.e "node" 806 (.ref 444),Hd.e "__static_attributes__" 810 (.ref 445),Hd.e "__dict__" 812 (.ref 448),Hd.e "__weakref__" 814 (.ref 449),Hd.e "__doc__" 815 .none]),
 Hd.k 447 (⟨(.type "type"),none,.cls {name:="Grower",bases:=[(.type "object")],mro:=[(.ref 447),(.type "object")],ns:=446,qualname:="Grower",hasDict:=true,subclasses:=[],abstract:=false,hasDel:=false},#[none,none,(some (.str "Grower" 771)),(some (.str "Grower" 779)),(some (.builtin "object.__new__")),(some (.bool true))]⟩),
 Hd.k 457 (Hd.co "planned" "planned" 818 298 5 452 453 (.ref 454) (.ref 455) 456 830 831),
 Hd.k 458 (Hd.fq vg "planned" "planned" mM 457),
 Hd.k 464 (Hd.co "_law_at" "_law_at" 835 309 2 459 460 (.ref 461) (.ref 462) 463 840 841),
 Hd.k 465 (Hd.fq xn "_law_at" "_law_at" fQ 464),
 Hd.k 471 (Hd.co "_law_hand" "_law_hand" 843 313 2 466 467 (.ref 468) (.ref 469) 470 849 850),
 Hd.k 472 (Hd.fq td "_law_hand" "_law_hand" fQ 471),
 Hd.k 478 (Hd.co "_law_take" "_law_take" 852 316 2 473 474 (.ref 475) (.ref 476) 477 860 861),
 Hd.k 479 (Hd.fq tw "_law_take" "_law_take" fQ 478),
 Hd.k 483 (Hd.co "_law_dot" "_law_dot" 863 326 2 480 481 .none .none 482 866 867),
 Hd.k 484 (Hd.fq vf "_law_dot" "_law_dot" fQ 483),
 Hd.k 488 (Hd.co "_law_row" "_law_row" 869 328 3 485 486 .none .none 487 872 873),
 Hd.k 489 (Hd.fq vh "_law_row" "_law_row" fQ 488),
 Hd.k 493 (Hd.co "_law_rows" "_law_rows" 875 330 3 490 491 .none .none 492 878 879),
 Hd.k 494 (Hd.fq tD "_law_rows" "_law_rows" fQ 493),
 Hd.k 498 (Hd.co "_law_box" "_law_box" 881 341 3 495 496 .none .none 497 884 885),
 Hd.k 499 (Hd.fq uM "_law_box" "_law_box" fQ 498),
 Hd.k 505 (Hd.co "_law_inner" "_law_inner" 887 348 3 500 501 (.ref 502) (.ref 503) 504 896 897),
 Hd.k 506 (Hd.fq rW "_law_inner" "_law_inner" fQ 505),
 Hd.k 510 (Hd.co "_law_task" "_law_task" 899 353 4 507 508 .none .none 509 902 903),
 Hd.k 511 (Hd.fq pq "_law_task" "_law_task" fQ 510),
 Hd.k 515 (Hd.co "_law_all" "_law_all" 905 362 2 512 513 .none .none 514 908 909),
 Hd.k 516 (Hd.fq uu "_law_all" "_law_all" fQ 515),
 Hd.k 520 (Hd.co "_law_first" "_law_first" 911 370 1 517 518 .none .none 519 914 915),
 Hd.k 521 (Hd.fq rP "_law_first" "_law_first" fQ 520),
 Hd.k 527 (Hd.co "_law_is_number" "_law_is_number" 917 379 1 522 523 (.ref 524) (.ref 525) 526 921 922),
 Hd.k 528 (Hd.fq nA "_law_is_number" "_law_is_number" fQ 527),
 Hd.k 532 (Hd.co "_law_is_row" "_law_is_row" 924 381 2 529 530 .none .none 531 927 928),
 Hd.k 533 (Hd.fq pU "_law_is_row" "_law_is_row" fQ 532),
 Hd.k 539 (Hd.co "_law_is_best" "_law_is_best" 930 385 2 534 535 (.ref 536) (.ref 537) 538 935 936),
 Hd.k 540 (Hd.fq oV "_law_is_best" "_law_is_best" fQ 539),
 Hd.k 544 (Hd.co "_law_lists" "_law_lists" 938 397 1 541 542 .none .none 543 941 942),
 Hd.k 545 (Hd.fq rJ "_law_lists" "_law_lists" fQ 544),
 Hd.k 551 (Hd.co "_law_right" "_law_right" 944 399 1 546 547 (.ref 548) (.ref 549) 550 951 952),
 Hd.k 552 (Hd.fq rM "_law_right" "_law_right" fQ 551),
 Hd.k 558 (Hd.co "law" "law" 954 408 1 553 554 (.ref 555) (.ref 556) 557 961 962),
 Hd.k 559 (Hd.fq yb "law" "law" fQ 558)]
def KA:List Addr:=[3,20,21,27,28,34,35,41,42,48,49,55,56,62,63,67,68,72,73,79,80,84,85,89,90,94,95,99,100,104,105,111,112,118,119,125,126,130,131,142,143,149,150,156,157,163,164,168,169,175,176,182,183,185,186,196,197,203,204,210,211,217,218,224,225,231,232,238,239,245,246,250,251,255,256,267,268,270,271,286,287,293,294,300,301,307,308,314,315,321,322,328,329,331,332,349,350,356,357,363,364,370,371,377,378,384,385,387,388,396,397,403,404,410,411,417,418,431,432,438,439,443,444,446,447,457,458,464,465,471,472,478,479,483,484,488,489,493,494,498,499,505,506,510,511,515,516,520,521,527,528,532,533,539,540,544,545,551,552,558,559]
set_option maxHeartbeats 0 in
def left:PySem.W.LeftO PW (PySem.W.view PW [1,2,3,4,5,6,7,9,10,11,12,13,14,15,16,18,19,20,21,22,23,24,25,27,28,29,31,32,34,35,36,37,39,41,42,43,44,45,46,48,49,50,51,52,53,54,55,56,57,58,59,60,61,62,63,64]) [] (λ_=>true) (PySem.W.kmHook Row.KX Row.KA (λ_=>rfl) [166]).obs (PySem.W.kmHook Row.KX Row.KA (λ_=>rfl) [166]).val 6792:=
 Hd.left (by kernel_rfl) (λs=>by kernel_rfl) rfl λw os=>by kernel_rfl
def L7:PySem.Challenge.rw_latticeworks_k71_plans_gone_through.wellSaid=true:=by decide+kernel
end Row
namespace L3
open PySem PySem.Spec PyProof.Rows L2
section
variable {prog:Program}{w:World}{A:Around}{R:Result->Shared->Prop}{s:Shared}
def EU{e target b:Expr}(I:Nat->Shared->Prop)
 (g:∀n s,I n s->wpAny (model prog w) A (pyNext it) (λr j=>match r with
   |none=>R (.ok .next) j
   |some v=>wpAny (model prog w) A (letOwnedTupleGo target it v) (λ_ s₀=>wpAny (model prog w) A (assign target env v) (λ_ o=>
     wpAny (model prog w) A (forIn d true λc r=>if r=true then do let ok <-isTrue c env (eval c env);pure (ForInStep.yield ok)else pure (ForInStep.yield r)) (λok i=>
      if ok=true then wpAny (model prog w) A (eval e env) (λx l=>
       wpAny (model prog w) A (call (.builtin "list.append") [f,x]) (λ_ k=>∃m,m<n/\I m k) (λ_ _=>False) l) (λ_ _=>False) i
      else∃m,m<n/\I m i) (λ_ _=>False) o) (λ_ _=>False) s₀) (λ_ _=>False) j) (λ_ _=>False) s)
 (n:Nat) (h:I n s):
 codeAny (model prog w) A (.compLoop (.ListComp e [⟨target,b,d,0⟩] scope pos) 0 it f env) R s:=by
 show codeAny_loop rfl I (λn s B=>?_) n h;change wpAny _ A ((compTurn (.ListComp e [⟨target,b,d,0⟩] scope pos) 0 it f env).onRaise (λx=>do noteFrame x env;theTreesLotGoes x)) _ _ s;show wpAny_noted ?_;rw[compTurn_list];show Xi (aa_ (Xi (Y3 (g n s B) (λr j q=>?_) λ_ _ a=>a.elim)));cases r with
 |none=>show Xz q
 |some v=>
  show Xi (Y3 q (λ_ s₀ z=>?_) λ_ _ a=>a.elim);show Xi (Y3 z (λ_ o y=>Xi (Y3 y (λok i p=>?_) λ_ _ a=>a.elim)) λ_ _ a=>a.elim);cases ok with
  |false=>show Xz ⟨rfl,p⟩
  |true=>
   show Xi (Xi (Y3 p (λx l u=>Xi (Y3 u (λ_ k t=>Xz (Xz ⟨rfl,t⟩)) λ_ _ a=>a.elim)) λ_ _ a=>a.elim))
end
def d6(cells:List (Str×Addr)):List (Str×NameKind)->List (Str×Addr)->List (Str×Addr)
 | [],a=>a
 |(n,k)::r,a=>if k== .free then(match cells.lookup n with|some c=>d6 cells r ((n,c)::a)|none=>d6 cells r a)else d6 cells r a
def dH{cells:List (Str×Addr)}:∀(names:List (Str×NameKind)) (acc:List (Str×Addr)),(∀x c,acc.lookup x=some c->cells.lookup x=some c)->
 ∀x c,(d6 cells names acc).lookup x=some c->cells.lookup x=some c
 | [],acc,h,x,c,e=>h x c e
 |(n,k)::r,acc,h,x,c,e=>by
  unfold d6 at e;split at e
  . split at e
    . rename_i d q;show dH r _ (λy b a=>?_) x c e;rw[Yr]at a;split at a
      . rename_i z;cases a;let f:y=n:=by simpa using z
        rw[f];show q
      . show h y b a
    . show dH r _ h x c e
  . show dH r _ h x c e
def kg{cells:List (Str×Addr)}:∀(names:List (Str×NameKind)) (acc:List (Str×Addr)),(∃c,cells.lookup x=some c)->((x,NameKind.free)∈names\/∃c,acc.lookup x=some c)->
 ∃c,(d6 cells names acc).lookup x=some c
 | [],acc,_,h=>by
   rcases h with h|h
   . simp at h
   . show h
 |(n,k)::r,acc,a,h=>by
  unfold d6;split
  . rename_i b;split
    . rename_i d q;show kg r _ a ?_;rcases h with h|⟨c,h⟩
      . rcases XJ.mp h with e|e
        . cases e;show .inr ⟨d,by simp[Yr]⟩
        . show .inl e
      . show .inr ?_;rw[Yr];split
        . show⟨_,rfl⟩
        . show⟨c,h⟩
    . rename_i q;show kg r _ a ?_;rcases h with h|h
      . rcases XJ.mp h with e|e
        . cases e;obtain⟨c,a⟩:=a;rw[a]at q;cases q
        . show .inl e
      . show .inr h
  . rename_i b;show kg r _ a ?_;rcases h with h|h
    . rcases XJ.mp h with e|e
      . cases e;show absurd rfl b
      . show .inl e
    . show .inr h
def oX{scope:Scope}{env:Env}(h:∀x∈scope.names,x.2= .free->∃c,env.cells.lookup x.1=some c):closureFor scope env=pure (d6 env.cells scope.names []):=by
 let key:∀(names:List (Str×NameKind)) (b:List (Str×Addr)),(∀x∈names,x.2= .free->∃c,env.cells.lookup x.1=some c)->
  (forIn names b (λ(x:Str×NameKind) (l:List (Str×Addr))=>if(x.2==NameKind.free)=true then(do let a <-cellOf env x.1;pure (ForInStep.yield ((x.1,a)::l)):Sem (ForInStep (List (Str×Addr))))else pure (ForInStep.yield l)))=(pure (d6 env.cells names b):Sem (List (Str×Addr))):=by
  intro names;induction names with
  |nil=>intro b _;rfl
  |cons p r g=>
   intro b j;obtain⟨n,k⟩:=p;rw[aai];let m:=g;by_cases f:(k==NameKind.free)=true
   . obtain⟨c,e⟩:=j (n,k) XT (by simpa using f);simp![f,ZH]
     let o:cellOf env n=pure c:=by
      unfold cellOf;rw[e]
     rw[o];simp![pure_bind];rw[g _ λx i=>j x (XM _ i)];conv=>rhs;unfold d6
     simp![f,ZH];rw[show env.cells.lookup n=some c from e]
   . have d:(k==NameKind.free)=false:=by simpa using f
     simp![d,ZK,ZY,pure_bind];rw[g _ λx i=>j x (XM _ i)];conv=>rhs;unfold d6
     simp![d,ZK,ZY]
 unfold closureFor;let:=key scope.names [] h;rw[bind_pure]
 first
  |show this
  |(simp![bind_pure]at this⊢;show this)
end L3
namespace L3
open PySem PySem.Spec L2
open PyProof.Rows hiding St
def kJ(env:Env):∀(names:List (Str×NameKind)) (x:Str),
 (names.map λ(n,k)=>if(k==NameKind.free&&env.scope.kind== .function&&env.kindOf n==some .cell)then(n,NameKind.cell)else(n,k)).lookup x=
   (names.lookup x).map λk=>if(k==NameKind.free&&env.scope.kind== .function&&env.kindOf x==some .cell)then NameKind.cell else k
 | [],_=>rfl
 |(n,k)::r,x=>by
  change List.lookup x ((if(k==NameKind.free&&env.scope.kind== .function&&env.kindOf n==some .cell)=true then(n,NameKind.cell)else(n,k))::_)=_;cases b:x==n with
  |true=>
   have e:x=n:=by simpa using b
   subst e;by_cases a:(k==NameKind.free&&env.scope.kind== .function&&env.kindOf x==some .cell)=true
   . rw[Xr a];simp![Yr,aaE,ZL];rw[Xr a]
   . rw[Xn a];simp![Yr,aaE,ZL];rw[Xn a]
  |false=>
   by_cases a:(k==NameKind.free&&env.scope.kind== .function&&env.kindOf n==some .cell)=true
   . rw[Xr a];simp![Yr,b];show kJ env r x
   . rw[Xn a];simp![Yr,b];show kJ env r x
def Ey{scope:Scope}(h:scope.names.lookup x=some .free):(relabel scope env).names.lookup x=some .cell\/(relabel scope env).names.lookup x=some .free:=by
 let e:(relabel scope env).names.lookup x=_:=kJ env scope.names x;rw[e,h];simp![ZL];split
 . show .inl rfl
 . show .inr rfl
def Dy{scope:Scope}(h:(relabel scope env).names.lookup x=some .cell\/(relabel scope env).names.lookup x=some .free):(x,NameKind.free)∈scope.names\/scope.names.lookup x=some .cell:=by
 let e:(relabel scope env).names.lookup x=_:=kJ env scope.names x;rw[e]at h;cases q:scope.names.lookup x with
 |none=>rw[q]at h;rcases h with h|h<;>cases h
 |some k=>
  rw[q]at h;simp![ZL]at h;let m:=Yc q;by_cases a:(k==NameKind.free&&env.scope.kind== .function&&env.kindOf x==some .cell)=true
  . have:k= .free:=by
     simp![X9]at a;simpa using a.1.1
    subst this;show .inl m
  . rw[Xn a]at h;rcases h with h|h
    . cases h;show .inr rfl
    . cases h;show .inl m
def ia:∀(names:List (Str×NameKind)) (L:Nat) (acc:List (Str×Addr)),cellsFrom L names acc=cellsFrom L names []++acc
 | [],_,_=>rfl
 |(n,k)::r,L,acc=>by
  unfold cellsFrom;by_cases a:(k==NameKind.cell)=true
  . rw[Xr a,Xr a,ia r (L+1) ((n,L)::acc),ia r (L+1) [(n,L)],ZR];rfl
  . rw[Xn a,Xn a];show ia r L acc
def uw:∀ {names:List (Str×NameKind)} {L:Nat} {x:Str} {c:Addr},(x,c)∈cellsFrom L names []->(x,NameKind.cell)∈names
 | [],_,_,_,h=>by unfold cellsFrom at h;cases h
 |(n,k)::r,L,x,c,h=>by
  unfold cellsFrom at h;by_cases b:(k==NameKind.cell)=true
  . rw[Xr b,ia]at h;let a:k= .cell:=by simpa using b
    subst a;rcases XZ.mp h with h|h
    . show XM _ (uw h)
    . have:(x,c)=(n,L):=by simpa using h
      cases this;show XT
  . rw[Xn b]at h;show XM _ (uw h)
def tO:∀ {a b:List (Str×Addr)} {x:Str} {c:Addr},(a++b).lookup x=some c->a.lookup x=some c\/(a.lookup x=none/\b.lookup x=some c)
 | [],_,_,_,h=> .inr ⟨rfl,h⟩
 |(n,d)::a,b,x,c,h=>by
  rw[List.cons_append,Yr]at h;rw[Yr];cases e:x==n with
  |true=>rw[e]at h;show .inl h
  |false=>rw[e]at h;show tO h
def xa:∀ {b a:List (Str×Addr)} {x:Str},b.lookup x=none->(b++a).lookup x=a.lookup x
 | [],_,_,_=>rfl
 |(n,d)::b,a,x,h=>by
  rw[Yr]at h;rw[List.cons_append,Yr];cases c:x==n with
  |true=>rw[c]at h;cases h
  |false=>rw[c]at h;show xa h
def oB(scope:Scope)(C:Addr)(cl:List (Str×Addr)):List (Str×Addr):=cellsFrom (C+1) scope.names cl
def kq{scope:Scope}{cl:List (Str×Addr)}(h:(oB scope C cl).lookup x=some c):(x,c)∈cellsFrom (C+1) scope.names []\/cl.lookup x=some c:=by
 unfold oB at h;rw[ia]at h;rcases tO h with h|h
 . show .inl (Yc h)
 . show .inr h.2
def Sj(names:List (Str×NameKind))(h:Heap){C:Addr}(e:h.objs.size=C+1):CellsOk (pushCells h names) (C+1) (cellsFrom (C+1) names []):=by
 let:=cellsFrom_ok names h (C+1) [] ⟨λ_ _ a=>(nomatch a),List.Pairwise.nil⟩ (by rw[e];show Xl _);rw[e]at this;show this
def qi{names:List (Str×NameKind)}{C:Addr}{x:Str}{c:Addr}:∀ {L:Nat},C<=L->(x,c)∈cellsFrom L names []->C<=c:=by
 induction names with
 |nil=>intro L _ h;unfold cellsFrom at h;cases h
 |cons p r b=>
  obtain⟨n,k⟩:=p;intro L a h;unfold cellsFrom at h;by_cases d:(k==NameKind.cell)=true
  . rw[Xr d,ia]at h;rcases XZ.mp h with h|h
    . show b (Xu a (Nat.le_succ L)) h
    . have:(x,c)=(n,L):=by simpa using h
      cases this;show a
  . rw[Xn d]at h;show b a h
def own_apart:∀ {L:Nat},(x,c)∈cellsFrom L names []->(y,c)∈cellsFrom L names []->x=y:=by
 induction names with
 |nil=>intro L h;unfold cellsFrom at h;cases h
 |cons p r j=>
  obtain⟨n,k⟩:=p;intro L b a;unfold cellsFrom at b a;by_cases l:(k==NameKind.cell)=true
  . rw[Xr l,ia]at b a;rcases XZ.mp b with e|e<;>rcases XZ.mp a with d|d
    . show j e d
    . have g:(y,c)=(n,L):=by simpa using d
      let f:c=L:=(abI g).2;let:=qi (C:=L+1) (Xl _) e;rw[f]at this;show absurd this (Nat.not_succ_le_self _)
    . have i:(x,c)=(n,L):=by simpa using e
      let f:c=L:=(abI i).2;let:=qi (C:=L+1) (Xl _) d;rw[f]at this;show absurd this (Nat.not_succ_le_self _)
    . have i:(x,c)=(n,L):=by simpa using e
      let g:(y,c)=(n,L):=by simpa using d
      show(abI i).1.trans (abI g).1.symm
  . rw[Xn l]at b a;show j b a
def xG{s:Shared}{scope:Scope}{cl:List (Str×Addr)}
 (e:Q (newEnv scope s.heap.objs.size globals (oB scope s.heap.objs.size cl) a none .none (some env) builtinsNs) {s with heap:=pushCells (s.heap.push {cls:= .type "dict",data:= .dict #[]}) scope.names}):
 wpAny M A (newFunctionEnv scope globals cl [] a none .none (some env)) Q E s:=by
 simp![newFunctionEnv,Option.isSome_some,ZH];show Xi (wpAny_alloc ?_);show Xi (wpAny_layCells _ (λd b cells=>by cases c:b==NameKind.cell<;>simp[c]) _ _ _ _ ?_);rw[show({s with heap:=s.heap.push {cls:= .type "dict",data:= .dict #[]}}:Shared).heap.objs.size=s.heap.objs.size+1 from Yj ..];rw[aas];show Xi (Xz (Xz e))
structure c_(X:Cx)(scope:Scope)(Nc:List Str)(fr:List (Option Nat)):Prop where
 kind:scope.kind= .function
 cells:∀x∈scope.names,x.2= .cell->scope.names.lookup x.1=some .cell
 names:∀x∈scope.names,x.2= .local->scope.names.lookup x.1=some .local
 free:∀x∈scope.names,x.2= .free->X.env.kindOf x.1=some .cell\/X.env.kindOf x.1=some .free
 len:fr.length=Nc.length
 map:∀(i j:Nat) (x:Str),Nc[i]?=some x->fr[i]?=some (some j)->X.N[j]?=some x/\scope.names.lookup x=some .free/\(X.env.kindOf x=some .cell\/X.env.kindOf x=some .free)
def σC(fr:List (Option Nat))(σ:St):St:=fr.map λo=>o.bind λj=>(σ[j]?).join
def dO(X:Cx)(scope:Scope)(Nc:List Str)(C:Addr)(s:Shared)(H:Hp)(ex:List Addr):Cx:=
 {X with N:=Nc,s₀:=s,H₀:=H,env:=compEnvC scope (oB scope C (d6 X.env.cells scope.names [])) C X.env,outer:=X.stack,stack:=X.stack,ex:=ex,fn:=λx=>scope.names.lookup x==some .cell,pn:=[],xe:=λ_ _=>False}
def v9(n:TI)(fr:List (Option Nat))(g:TG)(c:TT)(o:TE):TE:=λσ H Q=>n σ H λJ H1=>∀l,H1 l=none->
 ∃W:Nat->Nat->L2.St->Hp->Prop,(∃m,W 0 m (σC fr σ) (upd H1 l (.lst [])))/\∀i m σ H,W i m σ H->
  (J.stop i H/\Q (.ref l) H)\/(J.go i H/\∃N:L2.St->Hp->Prop,(∀f a,N f a->∃h,h<m/\W (i+1) h f a)/\∀x a,J.qh i H x a->
    g x σ a λd p=>c d p λb k=>if b=true then o d k λy j=>∃e,j l=some (.lst e)/\e.length<sizeLine/\N d (upd j l (.lst (e++[y])))else N d k)
def vj(X:Cx)(b:List Expr)(t:TT):Prop:=
 ∀(a:List (Addr×Obj)) (s:Shared) (σ:St) (H:Hp) (Q:Bool->Hp->Prop),Inv X a σ H s->t σ H Q->
  wpAny (model X.prog X.w) X.A (forIn b true λc r=>if r=true then do let ok <-isTrue c X.env (eval c X.env);pure (ForInStep.yield ok)else pure (ForInStep.yield r)) (TP X a σ Q) X.xe s
def Vi:TT:=λ_ H Q=>Q true H
def O8:vj X [] Vi:=λ_ _ _ H _ I h=>wpAny_tests_nil ⟨H,I,h⟩
def Ow(h:PT X c t):vj X [c] t:=λa s σ H Q I q=>wpAny_tests_one (h a s σ H Q I q)
section
variable {X:Cx}{scope:Scope}{Nc:List Str}{fr:List (Option Nat)}{pins:List (Addr×Obj)}{σ:St}{H:Hp}{s:Shared}
def Sq{C:Addr}{fp:List Addr}(S:c_ X scope Nc fr)(I:Inv X pins σ H s)(i:C=s.heap.objs.size)(l:∀b∈fp,n_ X pins H b)(k:∀b∈fp,b<s.heap.objs.size)(n:∀b∈fp,∀x c,X.env.cells.lookup x=some c->c≠b):
 (dO X scope Nc C s H fp).Ok where
 mod:=I.ok.mod
 kind:=S.kind
 glob:=I.ok.glob
 blt:=I.ok.blt
 above:=abo i.symm
 inj:=λx y c g f=>by
  let low:∀ {z},(d6 X.env.cells scope.names []).lookup z=some c->c<s.heap.objs.size:=λ{z} p=>by
   obtain⟨v,q⟩:=I.cell z c (dH _ [] (λ_ _ e=>by cases e) z c p);show q.lt
  rcases kq g with g|g<;>rcases kq f with f|f
  . show own_apart g f
  . have a:=qi (C:=C+1) (Xl _) g;let b:c<C:=by rw[i];show low f
    show absurd a (Nat.not_le_of_gt (X7 b))
  . have a:=qi (C:=C+1) (Xl _) f;let b:c<C:=by rw[i];show low g
    show absurd a (Nat.not_le_of_gt (X7 b))
  . show I.ok.inj x y c (dH _ [] (λ_ _ e=>by cases e) x c g) (dH _ [] (λ_ _ e=>by cases e) y c f)
 has:=λx r=>by
  rcases Dy r with m|m
  . obtain⟨c,e⟩:=kg scope.names [] (I.ok.has x (S.free _ m rfl)) (.inl m);show Zy.mp (Zi _ _ _ (.inr (by rw[e];rfl)))
  . show Zy.mp (Zi _ _ _ (.inl m))
 CC:=λx c l h=>by
  let t:scope.names.lookup x=some .cell:=by
   let:(scope.names.lookup x==some .cell)=true:=l;simpa using this
  obtain⟨A,e⟩:=Zy.mp (Zi (x:=x) scope.names (C+1) [] (.inl t))
  let u:(cellsFrom (C+1) scope.names []++d6 X.env.cells scope.names []).lookup x=some c:=by
   rw[<-ia];show h
  rcases tO u with q|q
  . have:=qi (C:=C+1) (Xl _) (Yc q);change s.heap.objs.size<=c;rw[<-i];show abe this
  . rw[q.1]at e;cases e
 hd:=I.ok.hd
 frames:=I.ok.frames
 Gr:= .inl rfl
 Ja:=λb d=>⟨by rw[show(dO X scope Nc C s H fp).env.locals=s.heap.objs.size from i];show XU (k b d),λx c h=>by
  rcases kq h with h|h
  . have a:=qi (C:=C+1) (Xl _) h;let w:b<C:=by rw[i];show k b d
    show Y0 (XF w (abe a))
  . show n b d x c (dH _ [] (λ_ _ e=>by cases e) x c h)⟩
 bs:=I.bs
 vm:=Xu I.ok.vm I.sz
 xJ:=λb o e d=>by
  let j:=(l b d).2.2.2.1;rcases j with j|j
  . show I.ok.xJ b o e j
  . show absurd (XC (I.ok.bs b o e).1) (Nat.not_lt.mpr j)
 xQ:=λb d z=>by
  let q:=I.Ew b z;rcases XJ.mp q with q|q
  . show(l b d).2.1 q
  . show(l b d).2.2.1 q
 nv:=I.stack
 zh:=λb d=>I.zm b d
 gt:=I.ok.gt
def F7{i:Nat}{v:V}(h:(σC fr σ)[i]?=some (some v)):∃j,fr[i]?=some (some j)/\σ[j]?=some (some v):=by
 unfold σC at h;rw[XB]at h;cases q:fr[i]? with
 |none=>rw[q]at h;cases h
 |some o=>
  rw[q]at h;cases o with
  |none=>simp at h
  |some j=>
   simp![ZL,Option.some.injEq,Option.bind_some]at h;show⟨j,rfl,?_⟩;cases r:σ[j]? with
   |none=>rw[r]at h;cases h
   |some u=>rw[r]at h;simp at h;rw[h]
def LL{s':Shared}{h':Heap}{C:Addr}{fp:List Addr}{t':Nat}(S:c_ X scope Nc fr)(I:Inv X pins σ H s)(n:C=s.heap.objs.size)(ok:(dO X scope Nc C s H fp).Ok)(L:∀b∈fp,H b=none)
 (k:∀b o,s.heap.get? b=some o->h'.get? b=some o) (J:h'.Ns C (λ_=>none)) (g:∀x c,(x,c)∈cellsFrom (C+1) scope.names []->h'.IsCell c none):Inv (dO X scope Nc C s H fp) [] (σC fr σ) H {s with heap:=h',toks:=t'} where
 ok:=ok
 os:=rfl
 bare:=I.bare
 base:=Un.kept k
 loc:=⟨_,J,λi x v N M Q=>by
  obtain⟨j,B,A⟩:=F7 M;obtain⟨D,f,l⟩:=S.map i j x N B;obtain⟨m,P,K⟩:=I.loc
  let d:CT X.env.scope x:=by
   rcases l with z|z
   . show .inr (.inl z)
   . show .inr (.inr z)
  obtain⟨u,r,E⟩:=K j x v D A d;show⟨u,r,?_⟩;rcases E with⟨z,_⟩|⟨z,c,e,F⟩
  . rcases l with y|y
    . rw[y]at z;cases z
    . rw[y]at z;cases z
  . show .inr ⟨Ey f,?_⟩;obtain⟨O,w⟩:=kg scope.names [] ⟨c,e⟩ (.inl (Yc f));let t:=dH _ [] (λ_ _ e=>by cases e) x O w;rw[e]at t;cases t;show⟨c,?_,F.keeps k⟩;change(oB scope C (d6 X.env.cells scope.names [])).lookup x=some c;unfold oB;rw[ia,xa ?_]
    . show w
    . cases q:(cellsFrom (C+1) scope.names []).lookup x with
      |none=>rfl
      |some R=>
       have:=S.cells _ (uw (Yc q)) rfl;rw[f]at this;cases this⟩
 cell:=λx c h=>by
  rcases kq h with h|h
  . show⟨_,g x c h⟩
  obtain⟨v,q⟩:=I.cell x c (dH _ [] (λ_ _ e=>by cases e) x c h);show⟨v,q.keeps k⟩
 free:=by change H C=none;rw[n];show I.aK.fresh (Xl _)
 j5:=λx c h=>by
  rcases kq h with h|h
  . have a:=qi (C:=C+1) (Xl _) h;show I.aK.fresh (by rw[<-n];show abe a)
  . show I.j5 x c (dH _ [] (λ_ _ e=>by cases e) x c h)
 pin:=λp G=>by cases G
 aK:=I.aK.kept k
 len:=by unfold σC;rw[Xk];show S.len
def Inv.forget(I:Inv X pins σ H s)(f:n_ X pins H C)(g:Heap.SameBut C s.heap h'):Inv X pins σ H {s with heap:=h'}:=by
 show I.Hb (s':={s with heap:=h'}) (ch:=[C]) rfl ?_ ?_ I.bare λb c=>?_
 . have h:∀b,b∉[C]->b≠C:=λb c z=>c (by simp[z]);show{keep:=λb o q _ _ d=>(g.2 b (h b d)).trans q,slot:=λb o q _ _ d=>⟨o.slots,(g.2 b (h b d)).trans q⟩,free:=λb o q n _=>n,there:=λb o q d=>⟨o,(g.2 b (h b d)).trans q⟩,rh:=λ_ _ e=>e,qB:=λ_ _ _ e=>e,pV:=λb i e=>⟨#[],by rw[e];simp⟩}
 . intro a o q;let na:∀b u,H b=some u->b≠C:=λb u q z=>by rw[z,f.1]at q;cases q
   show(I.aK a o q).rT (λb u c e=>?_) (λ_ q=>q) λ_ _ q=>q;rw[g.2 b ?_]
   . show e
   . rcases c with rfl|c
     . show na _ _ q
     . show na _ _ c
 . have:b=C:=by simpa using c
   subst this;show⟨f.2.2.2.1,f.2.1,f.2.2.2.2.1,f.2.2.2.2.2⟩
def yz{z tg t:Expr}{w:List Expr}{wi:TI}{g:TG}{c:TT}{te:TE}{pos:Pos}{Q:VK}{RR:Value->Addr->Result->Shared->Prop}(hx:X.xe=λ_ _=>False)(hc:X.calm=true)(S:c_ X scope Nc fr)(hi:PI X tg t wi)
 (hg:∀C s H ex,PG (dO X scope Nc C s H ex) tg g) (ht:∀C s H ex,vj (dO X scope Nc C s H ex) w c) (he:∀C s H ex,PE (dO X scope Nc C s H ex) z te) (I:Inv X pins σ H s) (h:v9 wi fr g c te σ H Q)
 (bu:∀(l C:Addr) (s6:Shared) (H5:Hp) (m:Str->Option Value),s6.heap.Ns C m->n_ X pins H5 C->Inv X pins σ H5 s6->Q (.ref l) H5->RR (.ref l) C (.ok .next) s6):
 wpAny (model X.prog X.w) X.A (eval t X.env) (λx s₁=>wpAny (model X.prog X.w) X.A (pyIter x) (λit s₂=>wpAny (model X.prog X.w) X.A (newList []) (λa5 s₃=>
  wpAny (model X.prog X.w) X.A (newFunctionEnv scope X.env.globals (d6 X.env.cells scope.names []) [] X.env.qual none .none (some X.env)) (λF s₄=>
   codeAny (model X.prog X.w) X.A (.compStart (.ListComp z [⟨tg,t,w,0⟩] scope pos) 0 it a5 {F with scope:=relabel scope X.env}) (RR a5 F.locals) s₄) X.xe s₃) X.xe s₂) X.xe s₁) X.xe s:=by
 show cj (hi pins s σ H _ I h) λv s1 h1=>cj h1 λbF j h2=>?_;obtain⟨it,fp,tn,J,Y,e,I2,T,aK,f2,hR⟩:=h2;subst e;show wpAny_newList ?_ (XY _);let V:=I2.Mq (t':=j.toks) (aq:=[]) (ys:=[]) .nil (XY _);generalize e3:({j with heap:=j.heap.push {cls:= .type "list",data:= .seq ([]:List Value).toArray}}:Shared)=s3;let V:Inv X pins σ (upd Y j.heap.objs.size (.lst [])) s3:=by rw[<-e3];show V
 let ml:j.heap.objs.size<s3.heap.objs.size:=by rw[<-e3];change _<(j.heap.push _).objs.size;rw[Yj];lia
 let k3:∀b o,j.heap.get? b=some o->s3.heap.get? b=some o:=λb o q=>by rw[<-e3];show Xj _ q
 obtain⟨W,⟨m0,w0⟩,ab⟩:=hR j.heap.objs.size (I2.aK.fresh (Xl _));show xG ?_;let hn:(pushCells (s3.heap.push {cls:= .type "dict",data:= .dict #[]}) scope.names).Ns s3.heap.objs.size (λ_=>none):=(Heap.Ns.new s3.heap (.type "dict")).keeps (pushCells_keeps _ _);let a3:∀x c,(x,c)∈cellsFrom (s3.heap.objs.size+1) scope.names []->(pushCells (s3.heap.push {cls:= .type "dict",data:= .dict #[]}) scope.names).IsCell c none:=λx c h=>((Sj scope.names _ (Yj ..)).empty x c h).1;let k4:∀b o,s3.heap.get? b=some o->(pushCells (s3.heap.push {cls:= .type "dict",data:= .dict #[]}) scope.names).get? b=some o:=λb o q=>pushCells_keeps _ _ b o (Xj _ q);generalize(pushCells (s3.heap.push {cls:= .type "dict",data:= .dict #[]}) scope.names)=h' at hn a3 k4⊢;let D:∀b∈fp,∃o,j.heap.get? b=some o/\∀v,o.data≠ .cell v:=T.obj _ _ aK;let E:∀b∈fp,b<s3.heap.objs.size:=λb a=>let⟨o,q,_⟩:=D b a;XC (k3 b o q)
 let bj:∀b∈fp,b≠j.heap.objs.size:=λb a=>by
  obtain⟨o,q,_⟩:=D b a;show XU (XC q)
 let P:∀b∈fp,n_ X pins (upd Y j.heap.objs.size (.lst [])) b:=λb a=>⟨by rw[aD (bj b a)];show(f2 b a).1,(f2 b a).2⟩
 let ok:=Sq (C:=s3.heap.objs.size) (fp:=fp) S V rfl P E λb a=>(f2 b a).2.2.2.2.1
 let I4:Inv (dO X scope Nc s3.heap.objs.size s3 (upd Y j.heap.objs.size (.lst [])) fp) [] (σC fr σ) (upd Y j.heap.objs.size (.lst [])) {s3 with heap:=h',toks:=s3.toks}:=
  LL (s':=s3) S V rfl ok (λb a=>(P b a).1) k4 hn a3
 let au:tn 0 h':=T.keep _ _ _ aK λb _ o q=>k4 b o (k3 b o q);generalize f:dO X scope Nc s3.heap.objs.size s3 (upd Y j.heap.objs.size (.lst [])) fp=Xc at I4;let bp:PG Xc tg g:=by rw[<-f];show hg _ _ _ _
 let bh:vj Xc w c:=by rw[<-f];show ht _ _ _ _
 let bq:PE Xc z te:=by rw[<-f];show he _ _ _ _
 let K:Xc.prog=X.prog:=by rw[<-f];rfl
 let G:Xc.w=X.w:=by rw[<-f];rfl
 let xK:Xc.K=X.K:=by rw[<-f];rfl
 let xc:Xc.calm=true:=by rw[<-f];show hc
 let R:Xc.A=X.A:=by rw[<-f];rfl
 let xE:Xc.env=compEnvC scope (oB scope s3.heap.objs.size (d6 X.env.cells scope.names [])) s3.heap.objs.size X.env:=by rw[<-f];rfl
 let xx:Xc.xe=λ_ _=>False:=by rw[<-f];rfl
 let O:∀ {k:Hp},(∀b∈fp,k b=none)->∀b∈fp,n_ Xc [] k b:=λ{k} hn b a=>by
  rw[<-f];show⟨hn b a,XU (E b a),ok.xQ b a,.inl a,(ok.Ja b a).2,λp hp=>by cases hp⟩
 let B:codeAny (model X.prog X.w) X.A (.compLoop (.ListComp z [⟨tg,t,w,0⟩] scope pos) 0 (.ref it) (.ref j.heap.objs.size) (compEnvC scope (oB scope s3.heap.objs.size (d6 X.env.cells scope.names [])) s3.heap.objs.size X.env))
  (RR (.ref j.heap.objs.size) s3.heap.objs.size) {s3 with heap:=h',toks:=s3.toks}:=by
  show EU (λn s'=>∃i Z k,Inv Xc [] Z k s'/\tn i s'.heap/\(∀b∈fp,k b=none)/\W i n Z k) ?_ m0 ⟨0,_,_,I4,au,λb a=>(P b a).1,w0⟩;rintro n s5 ⟨i,σ5,H5,I5,ar,a4,w5⟩;rcases ab i n σ5 H5 w5 with⟨ah,qn⟩|⟨go,N,hN,step⟩
  . have q:=T.done Xc K G xK xc i [] s5 σ5 H5 (λ_ _=>False) I5 (O a4) ar ah;rw[R]at q;show cj q λr s6 ⟨hr,U⟩=>?_;subst hr;obtain⟨m,hm,_⟩:=U.loc;rw[xE]at hm;let M:H5 s3.heap.objs.size=none:=by let:=U.free;rw[xE]at this;show this
    let a6:Un (sj X.stack) fp (upd Y j.heap.objs.size (.lst [])) H5 s3.heap s6.heap:=by let:=U.base;rw[<-f]at this;show this
    let bc:s6.os=s3.os:=by let:=U.os;rw[<-f]at this;show this
    let a0:jz X.prog X.w H5 s6.heap:=by let:=U.aK;rw[K,G]at this;show this
    let J:=V.Hb (s':=s6) (ch:=fp) bc a6 a0 U.bare λb a=>⟨(P b a).2.2.2.1,(P b a).2.1,(P b a).2.2.2.2.1,(P b a).2.2.2.2.2⟩
    show bu _ _ s6 H5 m hm (V.uR (Xl _) M) J qn
  . have q:=T.item Xc K G xK xc i [] s5 σ5 H5 (λ_ _=>False) I5 (O a4) ar go;rw[R]at q;show cj q λr s6 ⟨u,hr,h6⟩=>?_;subst hr;show cj h6 λ_ s7 ⟨x,H7,I7,r7,y7,L,br⟩=>?_;let bw:=I7.pinned (O br) (T.obj _ _ L);let q8:=bp _ s7 σ5 H7 x u _ bw r7 (step x H7 y7);rw[K,G,R,xE,xx]at q8;show cj q8 λ_ s8 ⟨A,H8,I8,q8⟩=>?_;let q9:=bh _ s8 A H8 _ I8 q8;rw[K,G,R,xE,xx]at q9;show cj q9 λb s9 ⟨H9,I9,q9⟩=>?_
    let again:∀ {k:Hp} {s':Shared},Inv Xc ([]++vn fp s7.heap) A k s'->N A k->∃m,m<n/\∃i Z k,Inv Xc [] Z k s'/\tn i s'.heap/\(∀b∈fp,k b=none)/\W i m Z k:=λ{k s'} J nn=>by
     obtain⟨m',hm,w7⟩:=hN A k nn;show⟨m',hm,i+1,A,k,J.jl,T.keep _ _ _ L λb a o e=>(J.pin (b,o) (XI _ (XI _ (pC a e)))).1,λb a=>?_,w7⟩;obtain⟨o,e,d⟩:=T.obj _ _ L b a;show(J.pin (b,o) (XI _ (XI _ (pC a e)))).2.1
    cases b with
    |false=>show again I9 q9
    |true=>
     have qe:=bq _ s9 A H9 _ I9 q9;rw[K,G,R,xE,xx]at qe;show cj qe λy a7 ⟨vy,bB,bA,ry,ys,hy,bl,qN⟩=>?_;let qa:=A3 (X:=Xc) _ a7 A bB (.ref j.heap.objs.size) [vy] (.ref j.heap.objs.size) [y] (λ_ k=>N A k) bA rfl (.cons ry .nil) ⟨_,ys,vy,rfl,rfl,hy,bl,qN⟩;rw[K,G,R,xx]at qa;show cj qa λ_ bC ⟨_,bG,bx,_,bb⟩=>again bx bb
 show codeAny_compStart_list ?_ ?_
 . show B
 . show T.self _ 0 _ _ _ au B
def F2{e i a:Expr}{g:TG}(j:X.xe=λ_ _=>False)(A:X.calm=true)(S:c_ X scope Nc fr)(w:PI X i a o)
 (y:∀C s H ex,PG (dO X scope Nc C s H ex) i g) (r:∀C s H ex,vj (dO X scope Nc C s H ex) b c) (z:∀C s H ex,PE (dO X scope Nc C s H ex) e p)
 (t:∀x,foldedSetIterable a X.env x=pure x:=by intro _;rfl):PE X (.ListComp e [⟨i,a,b,0⟩] scope pos) (v9 o fr g c p):=by
 intro pins s σ H Q I h;rw[eval_ListComp];let k:closureFor scope X.env=pure (d6 X.env.cells scope.names []):=oX λx j v=>I.ok.has x.1 (S.free x j v);show wpAny_comprehension_free rfl t k S.kind S.names ?_;show yz (RR:=λn C=>compPost (model X.prog X.w) X.A X.xe none (EP X pins σ Q) n C) j A S w y r z I h λl C E D m u f J q=>⟨m,u,λB d=>⟨.ref l,D,Inv.forget J f d,rfl,q⟩⟩
def F1{k p d:Expr}{j:List Expr}{G:TI}{g:TG}{c:TT}{K:TE}{pos b n:Pos}{i:Nat}{x:Str}(u:X.xe=λ_ _=>False)(Y:X.calm=true)(S:c_ X scope Nc fr)(T:PI X p d G)
 (U:∀C s H ex,PG (dO X scope Nc C s H ex) p g) (L:∀C s H ex,vj (dO X scope Nc C s H ex) j c) (W:∀C s H ex,PE (dO X scope Nc C s H ex) k K) (Z:X.N.Nodup) (w:X.N[i]?=some x) (P:Loc X.env.scope x) (V:X.fn x=true\/X.env.scope.names.lookup x=some .local)
 (v:swapsWith (.ListComp k [⟨p,d,j,0⟩] scope pos) (some (.Name x b)) n.line X.env=pure true)
 (M:∀x,foldedSetIterable d X.env x=pure x:=by intro _;rfl):PS X (.Assign [.Name x b] (.ListComp k [⟨p,d,j,0⟩] scope pos) n) (p8 (v9 G fr g c K) (gR i)):=by
 intro pins s σ H D I h;let y:closureFor scope X.env=pure (d6 X.env.cells scope.names []):=oX λx u R=>I.ok.has x.1 (S.free x u R);rw[exec_Assign_Name_used _ _ _ _ v];show Xi (aa_ (Xi ?_));change wpAny _ X.A (do let _ <-comprehension (.ListComp k [⟨p,d,j,0⟩] scope pos) scope X.env _ (newList []) false (eval d X.env) (some (assign (.Name x b) X.env))) _ _ s
 show Xi (Y3 (wpAny_comprehension_free (use:=some (assign (.Name x b) X.env)) (Q:=λ_ t=>SP X pins D .next t) rfl M y S.kind S.names
  (yz (RR:=λF C=>compPost (model X.prog X.w) X.A X.xe (some (assign (.Name x b) X.env)) (λ_ t=>SP X pins D .next t) F C) u Y S T U L W I h λl C s6 H5 m O f J q=>?_)) (λ_ t N=>Xz (Xz N)) λ_ _ e=>e)
 change wpAny _ X.A (assign (.Name x b) X.env (.ref l)) _ _ _;show wpAny_assign_Name (A_ J Z w P (show RelV (.ref l) (.ref l)from rfl) (λs7 J7 A=>?_) V);obtain⟨a,o,B⟩:=A
 let E:C≠a:=by
  rcases B with rfl|B
  . show f.2.1
  . show λz=>f.2.2.2.2.1 x a B z.symm
 show⟨m,O.sameBut o E,λab r=>⟨σ.set i (some (.ref l)),H5,Inv.forget J7 f r,q⟩⟩
end
inductive D where
 |au|bl (b:Bool)|int (i:Int)|str (x:Str)|ty (n:String)|ref (n:Nat)|lst (xs:List D)|tup (xs:List D)
inductive Cell where
 |lst (xs:List D)|ins (C:Addr) (fs:List (Str×D))|dead
  |tab (P:Addr) (pos:Pos) (qual:Str) (b:Bool)
abbrev ag:=List Cell
abbrev cz:=List (Option D)
mutual
def Rep(α:List (Option Addr))(H:Hp):D->V->Prop
 | .au,v=>v= .au
 | .bl b,v=>v= .bl b
 | .int i,v=>v= .int i
 | .str x,v=>v= .str x
 | .ty n,v=>v= .ty n
 | .ref n,v=>α[n]?=some none\/∃a,α[n]?=some (some a)/\v= .ref a
 | .lst d,v=>∃a c,v= .ref a/\some a∉α/\Rd H a (.lst c)/\aG α H d c
 | .tup d,v=>∃a c,v= .ref a/\some a∉α/\H a=some (.tup c)/\aG α H d c
def aG(α:List (Option Addr))(H:Hp):List D->List V->Prop
 | [],a=>a=[]
 |d::ds,a=>∃v r,a=v::r/\Rep α H d v/\aG α H ds r
end
def bL:∀ {c:List D} {vs:List V},aG α H c vs↔Paired (Rep α H) c vs
 | [],vs=>by
   unfold aG;constructor
   . rintro rfl;show .nil
   . intro h;cases h;rfl
 |d::c,vs=>by
  unfold aG;constructor
  . rintro⟨v,r,rfl,b,a⟩;show .cons b (bL.mp a)
  . intro h;cases h with|cons b a=>show⟨_,_,rfl,b,bL.mpr a⟩
section
variable {α:List (Option Addr)}{H:Hp}
def aG.length{a:List D}{vs:List V}(h:aG α H a vs):a.length=vs.length:=Paired.length (bL.mp h)
def yI{A B:Type}{F:A->B->Prop}:∀ {a:List A} {ys:List B} {i:Nat} {x:A},Paired F a ys->a[i]?=some x->∃y,ys[i]?=some y/\F x y
 |_,_,_,_,.nil,e=>by simp at e
 |_,_,0,_,.cons r _,e=>by simp at e;subst e;show⟨_,rfl,r⟩
 |_,_,i+1,x,.cons _ t,e=>by
  obtain⟨u,c,b⟩:=yI (i:=i) (x:=x) t (by simpa using e);show⟨u,by simpa using c,b⟩
def g0{A B:Type}{F:A->B->Prop}:∀ {b a:List A} {ys ys':List B},Paired F b ys->Paired F a ys'->Paired F (b++a) (ys++ys')
 |_,_,_,_,.nil,s=>s
 |_,_,_,_,.cons r t,s=> .cons r (g0 t s)
def wD{A B:Type}{F:A->B->Prop}:∀ {a:List A} {ys:List B} (n:Nat),Paired F a ys->Paired F (a.take n) (ys.take n)
 |_,_,0,_=> .nil
 |_,_,_+1,.nil=> .nil
 |_,_,n+1,.cons r t=> .cons r (wD n t)
def wM{A B:Type}{F:A->B->Prop}:∀ {a:List A} {ys:List B} (n:Nat),Paired F a ys->Paired F (a.drop n) (ys.drop n)
 |_,_,0,r=>r
 |_,_,_+1,.nil=> .nil
 |_,_,n+1,.cons _ t=>wM n t
def tL{A B:Type}{F:A->B->Prop}{x:A}{y:B}(r:F x y):∀ {a:List A} {ys:List B} (i:Nat),Paired F a ys->Paired F (a.set i x) (ys.set i y)
 |_,_,_,.nil=> .nil
 |_,_,0,.cons _ t=> .cons r t
 |_,_,i+1,.cons q t=> .cons q (tL r i t)
def oq{A B:Type}{F:A->B->Prop}{a:List A}{ys:List B}(h:Paired F a ys):∀k:Nat,Paired F (List.replicate k a).flatten (List.replicate k ys).flatten
 |0=> .nil
 |k+1=>by
  rw[Yp,Yp,YO,YO];show g0 h (oq h k)
def aG.get{a:List D}{vs:List V}{i:Nat}{d:D}(h:aG α H a vs)(e:a[i]?=some d):∃v,vs[i]?=some v/\Rep α H d v:=yI (bL.mp h) e
end
structure Step(α:List (Option Addr))(H:Hp)(α':List (Option Addr))(H':Hp):Prop where
 ext:∀b o,some b∉α->H b=some o->H' b=some o
 pre:∀(n:Nat) (x:Option Addr),α[n]?=some x->α'[n]?=some x\/α'[n]?=some none
 new:∀b,some b∈α'->some b∉α->H b=none
def Step.refl:Step α H α H:=⟨λ_ _ _ h=>h,λ_ _ h=> .inl h,λ_ h n=>absurd h n⟩
def Step.trans{H H1 k:Hp}(a:Step α H f H1)(b:Step f H1 i k):Step α H i k where
 ext:=λc o d e=>b.ext c o (λz=>by rw[a.new c z d]at e;cases e) (a.ext c o d e)
 pre:=λn x e=>by
  rcases a.pre n x e with h|h
  . show b.pre n x h
  . rcases b.pre n none h with g|g
    . show .inr g
    . show .inr g
 new:=λc d n=>by
  by_cases j:some c∈f
  . show a.new c j n
  . have:=b.new c d j;cases q:H c with
    |none=>rfl
    |some o=>rw[a.ext c o n q]at this;cases this
def Step.laid(h:H p=none):Step α H α (upd H p o):=
 ⟨λb u _ e=>by rw[aD (eA e h)];show e,λ_ _ h=> .inl h,λ_ h n=>absurd h n⟩
def Step.cell(h:H p=none):Step α H (α++[some p]) (upd H p o):=
 ⟨λb u _ e=>by rw[aD (eA e h)];show e,λn x e=> .inl (by rw[Xs (Xm.mp e).1];show e),λb a n=>by
  rcases XZ.mp a with z|z
  . show absurd z n
  . have:b=p:=by simpa using z
    subst this;show h⟩
def Step.write(h:some p∈α):Step α H α (upd H p o):=
 ⟨λb u n e=>by rw[aD (λz=>by subst z;show n h)];show e,λ_ _ h=> .inl h,λ_ h n=>absurd h n⟩
mutual
def Rep.step(s:Step α H c f):∀ {d:D} {v:V},Rep α H d v->Rep c f d v
 | .au,_,h=>by unfold Rep at h⊢;show h
 | .bl _,_,h=>by unfold Rep at h⊢;show h
 | .int _,_,h=>by unfold Rep at h⊢;show h
 | .str _,_,h=>by unfold Rep at h⊢;show h
 | .ty _,_,h=>by unfold Rep at h⊢;show h
 | .ref n,_,h=>by
   unfold Rep at h⊢;rcases h with h|⟨a,e,r⟩
   . rcases s.pre _ _ h with z|z<;>show .inl z
   . rcases s.pre _ _ e with z|z
     . show .inr ⟨a,z,r⟩
     . show .inl z
 | .lst g,_,h=>by
   unfold Rep at h⊢;obtain⟨a,b,e,n,r,q⟩:=h;show⟨a,b,e,λz=>?_,?_,aG.step s q⟩
   . have:=s.new a z n;rcases r with r|⟨o,r⟩<;>(rw[this]at r;cases r)
   . rcases r with r|⟨o,r⟩
     . show .inl (s.ext _ _ n r)
     . show .inr ⟨o,s.ext _ _ n r⟩
 | .tup g,_,h=>by
   unfold Rep at h⊢;obtain⟨a,b,e,n,r,q⟩:=h;show⟨a,b,e,(λz=>by rw[s.new a z n]at r;show nomatch r),s.ext _ _ n r,aG.step s q⟩
def aG.step(s:Step α H b c):∀ {a:List D} {vs:List V},aG α H a vs->aG b c a vs
 | [],_,h=>by unfold aG at h⊢;show h
 |d::a,_,h=>by
  unfold aG at h⊢;obtain⟨v,r,e,g,f⟩:=h;show⟨v,r,e,Rep.step s g,aG.step s f⟩
end
structure cG(G F H:Hp):Prop where
 eq:∀b,H b=(G b).or (F b)
 Dl:∀b o,G b=some o->F b=none
section
variable {G F H:Hp}
def cG.get(P:cG G F H)(h:G b=some o):H b=some o:=by rw[P.eq b,h];rfl
def cG.same(P:cG G F H):MH G H:=λ_ _ h=>P.get h
def cG.none(P:cG G F H)(h:H b=none):G b=none/\F b=none:=by
 let e:=P.eq b;rw[h]at e;cases q:G b with
 |none=>rw[q]at e;show⟨rfl,e.symm⟩
 |some o=>rw[q]at e;cases e
def cG.frame(P:cG G F H)(h:F b=some o):H b=some o/\G b=Option.none:=by
 let a:G b=Option.none:=by
  cases q:G b with
  |none=>rfl
  |some u=>rw[P.Dl b u q]at h;cases h
 show⟨by rw[P.eq b,a,h];rfl,a⟩
def cG.laid(P:cG G F H)(h:H p=Option.none):cG (upd G p o) F (upd H p o):=by
 obtain⟨d,c⟩:=P.none h;show⟨λb=>?_,λb u e=>?_⟩
 . by_cases a:b=p
   . subst a;rw[a_,a_];rfl
   . rw[aD a,aD a];show P.eq b
 . by_cases a:b=p
   . subst a;show c
   . rw[aD a]at e;show P.Dl b u e
def cG.write(P:cG G F H)(h:G p=some o):cG (upd G p o') F (upd H p o'):=by
 show⟨λb=>?_,λb u e=>?_⟩
 . by_cases a:b=p
   . subst a;rw[a_,a_];rfl
   . rw[aD a,aD a];show P.eq b
 . by_cases a:b=p
   . subst a;show P.Dl b o h
   . rw[aD a]at e;show P.Dl b u e
def cG.hide(P:cG G F H)(h:H p=Option.none):cG G (upd F p o) (upd H p o):=by
 obtain⟨c,d⟩:=P.none h;show⟨λb=>?_,λb u e=>?_⟩
 . by_cases a:b=p
   . subst a;rw[a_,a_,c];rfl
   . rw[aD a,aD a];show P.eq b
 . by_cases a:b=p
   . subst a;rw[c]at e;cases e
   . rw[aD a];show P.Dl b u e
def cG.WX(P:cG G F H)(h:F p=some o):cG G (upd F p o') (upd H p o'):=by
 let c:=(P.frame h).2;show⟨λb=>?_,λb u e=>?_⟩
 . by_cases a:b=p
   . subst a;rw[a_,a_,c];rfl
   . rw[aD a,aD a];show P.eq b
 . by_cases a:b=p
   . subst a;rw[c]at e;cases e
   . rw[aD a];show P.Dl b u e
def cG.show(P:cG G (upd F p o) H)(h:F p=Option.none):cG (upd G p o) F H:=by
 let c:=(P.frame (b:=p) a_)
 show⟨λb=>?_,λb u e=>?_⟩
 . by_cases a:b=p
   . subst a;rw[a_,c.1];rfl
   . rw[aD a,P.eq b,aD a]
 . by_cases a:b=p
   . subst a;show h
   . rw[aD a]at e;let:=P.Dl b u e;rw[aD a]at this;show this
end
mutual
def Rep.mono(s:MH G H):∀ {d:D} {v:V},Rep α G d v->Rep α H d v
 | .au,_,h=>by unfold Rep at h⊢;show h
 | .bl _,_,h=>by unfold Rep at h⊢;show h
 | .int _,_,h=>by unfold Rep at h⊢;show h
 | .str _,_,h=>by unfold Rep at h⊢;show h
 | .ty _,_,h=>by unfold Rep at h⊢;show h
 | .ref n,_,h=>by unfold Rep at h⊢;show h
 | .lst c,_,h=>by
   unfold Rep at h⊢;obtain⟨a,b,e,n,r,q⟩:=h;show⟨a,b,e,n,?_,aG.mono s q⟩;rcases r with r|⟨o,r⟩
   . show .inl (s _ _ r)
   . show .inr ⟨o,s _ _ r⟩
 | .tup c,_,h=>by
   unfold Rep at h⊢;obtain⟨a,b,e,n,r,q⟩:=h;show⟨a,b,e,n,s _ _ r,aG.mono s q⟩
def aG.mono(s:MH G H):∀ {a:List D} {vs:List V},aG α G a vs->aG α H a vs
 | [],_,h=>by unfold aG at h⊢;show h
 |d::a,_,h=>by
  unfold aG at h⊢;obtain⟨v,r,e,c,b⟩:=h;show⟨v,r,e,Rep.mono s c,aG.mono s b⟩
end
def mz(α:List (Option Addr))(H:Hp):List (Str×D)->List (Str×V)->Prop:=Paired λp q=>p.1=q.1/\Rep α H p.2 q.2
def mV(α:List (Option Addr))(H:Hp)(a:Addr):Cell->Prop
 | .lst xs=>∃d,H a=some (.lst d)/\aG α H xs d
 | .ins C fs=>∃g d,H a=some (.ins C g d)/\mz α H fs d
 | .dead=>False
 | .tab P pos e b=>a=P/\∃f:Array Value,H a=some (.mQ f)/\TriplesOk f.toList/\
    ((b=false/\codeAmong pos f.toList=none)\/(b=true/\∃c o d t,codeAmong pos f.toList=some (.ref c)/\some c∉α/\H c=some (.iG o (.own c))/\o.data= .fields d/\d[1]?=some (.str e t)))
structure aY(α:List (Option Addr))(st:ag)(H:Hp):Prop where
 len:α.length=st.length
 nd:∀(i j:Nat) (a:Addr),α[i]?=some (some a)->α[j]?=some (some a)->i=j
 at':∀(n:Nat) (c:Cell),st[n]?=some c->(c= .dead/\α[n]?=some none)\/∃a,α[n]?=some (some a)/\mV α H a c
def mz.step(s:Step α H a c)(h:mz α H b vs):mz a c b vs:=Paired.LZ h λ_ _ z=>⟨z.1,z.2.step s⟩
def mV.same{H k:Hp}(s:Step α H l k)(e:k a=H a)(h:mV α H a c):mV l k a c:=by
 cases c with
 |lst w=>obtain⟨d,g,f⟩:=h;show⟨d,e.trans g,f.step s⟩
 |ins C fs=>obtain⟨v,d,g,f⟩:=h;show⟨v,d,e.trans g,f.step s⟩
 |dead=>show h.elim
 |tab P pos m b=>
  obtain⟨z,r,g,f,j⟩:=h;show⟨z,r,e.trans g,f,?_⟩;rcases j with j|⟨u,c,o,d,t,q,n,i,p⟩
  . show .inl j
  . show .inr ⟨u,c,o,d,t,q,(λy=>by rw[s.new c y n]at i;cases i),s.ext c _ n i,p⟩
def mV.some(h:mV α H a c):∃o,H a=some o:=by
 cases c with
 |lst i=>obtain⟨f,d,g⟩:=h;show⟨_,d⟩
 |ins C fs=>obtain⟨k,f,d,g⟩:=h;show⟨_,d⟩
 |dead=>show h.elim
 |tab P pos e b=>obtain⟨_,j,d,_⟩:=h;show⟨_,d⟩
def d7(e:α[n]?=Option.some (Option.some a))(r:Rep α H (.ref n) v):v= .ref a:=by
 unfold Rep at r;rcases r with r|⟨b,c,rfl⟩
 . rw[e]at r;cases r
 . rw[e]at c;cases c;rfl
section
variable {α:List (Option Addr)}{st:ag}{H:Hp}
def aY.ik(S:aY α st H){n:Nat}{b:List D}(e:st[n]?=Option.some (.lst b)):∃a,α[n]?=Option.some (Option.some a)/\∃vs,H a=Option.some (.lst vs)/\aG α H b vs:=by
 rcases S.at' n _ e with⟨z,_⟩|z
 . cases z
 . show z
def aY.y6(S:aY α st H){n:Nat}{C:Addr}{fs:List (Str×D)}(e:st[n]?=Option.some (.ins C fs)):∃a,α[n]?=Option.some (Option.some a)/\∃b vs,H a=Option.some (.ins C b vs)/\mz α H fs vs:=by
 rcases S.at' n _ e with⟨z,_⟩|z
 . cases z
 . show z
def aY.mem(S:aY α st H)(h:Option.some a∈α):∃(n:Nat) (c:Cell),α[n]?=Option.some (Option.some a)/\st[n]?=Option.some c/\mV α H a c:=by
 obtain⟨n,d,e⟩:=X8.mp h;let f:n<st.length:=by rw[<-S.len];show d
 let b:α[n]?=Option.some (Option.some a):=by rw[Xv d,e]
 rcases S.at' n st[n] (by simp[f])with⟨_,q⟩|⟨a',q,ca⟩
 . rw[b]at q;cases q
 . rw[b]at q;cases q;show⟨n,_,b,by simp[f],ca⟩
def aY.mh(S:aY α st H)(h:H p=none):Option.some p∉α:=λz=>by
 obtain⟨n,c,_,_,a⟩:=S.mem z;obtain⟨o,e⟩:=a.some;rw[h]at e;cases e
def aY.laid(S:aY α st H)(h:H p=none):aY α st (upd H p o):=
 ⟨S.len,S.nd,λn c e=>by
  rcases S.at' n c e with z|⟨a,q,b⟩
  . show .inl z
  . show .inr ⟨a,q,b.same (Step.laid h) (aD (by obtain⟨u,z⟩:=b.some;show eA z h))⟩⟩
def aY.cell(S:aY α st H)(h:H p=none)(v:mV (α++[Option.some p]) (upd H p o) p c):aY (α++[Option.some p]) (st++[c]) (upd H p o) where
 len:=by rw[Yn,Yn,S.len];rfl
 nd:=λi j a A y=>by
  let key:∀(i:Nat) (a:Addr),(α++[Option.some p])[i]?=Option.some (Option.some a)->(i<α.length/\α[i]?=Option.some (Option.some a))\/(i=α.length/\a=p):=by
   intro i a e;by_cases m:i<α.length
   . rw[Xs m]at e;show .inl ⟨m,e⟩
   . rw[Yg (Zz m)]at e
     let f:i-α.length=0:=by
      cases q:i-α.length with
      |zero=>rfl
      |succ k=>rw[q]at e;simp at e
     rw[f]at e;let:p=a:=by simpa using e
     show .inr ⟨by lia,this.symm⟩
  rcases key i a A with⟨x,l⟩|⟨x,l⟩<;>rcases key j a y with⟨w,g⟩|⟨w,g⟩
  . show S.nd i j a l g
  . subst g;show absurd (XO l) (S.mh h)
  . subst l;show absurd (XO g) (S.mh h)
  . lia
 at':=λn d e=>by
  by_cases b:n<st.length
  . rw[Xs b]at e;let r:n<α.length:=by rw[S.len];show b
    rcases S.at' n d e with⟨z,q⟩|⟨a,q,s⟩
    . show .inl ⟨z,by rw[Xs r];show q⟩
    . show .inr ⟨a,by rw[Xs r];show q,s.same (Step.cell h) (aD (by obtain⟨u,z⟩:=s.some;show eA z h))⟩
  . rw[Yg (Zz b)]at e
    let f:n-st.length=0:=by
     cases q:n-st.length with
     |zero=>rfl
     |succ k=>rw[q]at e;simp at e
    rw[f]at e;let t:c=d:=by simpa using e
    subst t;show .inr ⟨p,?_,v⟩;rw[Yg (by rw[S.len];show Zz b),S.len,f];rfl
def aY.write(S:aY α st H)(e:α[n]?=Option.some (Option.some p))(h:mV α (upd H p o) p c):aY α (st.set n c) (upd H p o) where
 len:=by rw[XA];show S.len
 nd:=S.nd
 at':=λm d q=>by
  let f:Option.some p∈α:=XO e;by_cases b:m=n
  . subst b
    let g:m<st.length:=by
     let:=(Xm.mp q).1;rw[XA]at this;show this
    rw[Xx g]at q;cases q;show .inr ⟨p,e,h⟩
  . rw[Xq (Xp b)]at q;rcases S.at' m d q with z|⟨a,r,i⟩
    . show .inl z
    . show .inr ⟨a,r,i.same (Step.write f) (aD λz=>?_)⟩;subst z;show b (S.nd m n _ r e)
end
abbrev DK:=D->ag->Prop
abbrev DE:=cz->ag->DK->Prop
abbrev DT:=cz->ag->(Bool->ag->Prop)->Prop
abbrev DA:=cz->ag->(List D->ag->Prop)->Prop
structure m7 where
 nx:cz->ag->Prop
 rt:DK
 bk:cz->ag->Prop:=λ_ _=>False
 ct:cz->ag->Prop:=λ_ _=>False
abbrev DS:=m7->cz->ag->Prop
structure fv(α:List (Option Addr))(H:Hp)(σd:cz)(σ:L2.St):Prop where
 len:σd.length=σ.length
 at':∀(i:Nat) (d:D),σd[i]?=some (some d)->∃v,σ[i]?=some (some v)/\Rep α H d v
def fv.step(s:Step α H b c)(h:fv α H a σ):fv b c a σ:=
 ⟨h.len,λi d e=>let⟨v,q,r⟩:=h.at' i d e;⟨v,q,r.step s⟩⟩
def fv.set{a:cz}{σ:L2.St}(h:fv α H a σ)(i:Nat)(r:Rep α H d v):fv α H (a.set i (some d)) (σ.set i (some v)):=by
 show⟨by rw[XA,XA,h.len],λj e q=>?_⟩;let f:=h.len;by_cases c:j=i
 . subst c
   let b:j<a.length:=by
    let:=(Xm.mp q).1;rw[XA]at this;show this
   rw[Xx b]at q;cases q;show⟨v,Xx (by lia),r⟩
 . rw[Xq (Xp c)]at q;rw[Xq (Xp c)];show h.at' j e q
def LK(α:List (Option Addr))(G F:Hp)(K:DK)(Q:VK):Prop:=∀d a,K d a->∀c b e v,Step α G c b->cG b F e->aY c a b->Rep c b d v->Q v e
def Np(α:List (Option Addr))(G F:Hp)(K:Bool->ag->Prop)(Q:Bool->Hp->Prop):Prop:=∀b a,K b a->∀d c e,Step α G d c->cG c F e->aY d a c->Q b e
def WN(α:List (Option Addr))(G F:Hp)(K:List D->ag->Prop)(Q:List V->Hp->Prop):Prop:=∀e a,K e a->∀c b f d,Step α G c b->cG b F f->aY c a b->aG c b e d->Q d f
inductive VD(t:DE)(σ:L2.St)(H:Hp)(Q:VK):Prop
 |mk (α:List (Option Addr)) (σd:cz) (st:ag) (K:DK) (G F:Hp) (P:cG G F H) (R:fv α G σd σ) (S:aY α st G) (h:t σd st K) (k:LK α G F K Q):VD t σ H Q
def LE(t:DE):TE:=VD t
inductive Vs(t:DT)(σ:L2.St)(H:Hp)(Q:Bool->Hp->Prop):Prop
 |mk (α:List (Option Addr)) (σd:cz) (st:ag) (K:Bool->ag->Prop) (G F:Hp) (P:cG G F H) (R:fv α G σd σ) (S:aY α st G) (h:t σd st K) (k:Np α G F K Q):Vs t σ H Q
def LT(t:DT):TT:=Vs t
inductive VL(t:DA)(σ:L2.St)(H:Hp)(Q:List V->Hp->Prop):Prop
 |mk (α:List (Option Addr)) (σd:cz) (st:ag) (K:List D->ag->Prop) (G F:Hp) (P:cG G F H) (R:fv α G σd σ) (S:aY α st G) (h:t σd st K) (k:WN α G F K Q):VL t σ H Q
def LA(t:DA):TA:=VL t
def LK.here{α:List (Option Addr)}{G F H:Hp}{K:DK}{Q:VK}(h:LK α G F K Q)(P:cG G F H){d:D}{st:ag}{v:V}(k:K d st)(S:aY α st G)(r:Rep α G d v):Q v H:=h d st k α G H v Step.refl P S r
def LK.at{α b:List (Option Addr)}{G F c:Hp}{K:DK}{Q:VK}(h:LK α G F K Q)(s:Step α G b c):LK b c F K Q:=λd a k e i g v f P S r=>h d a k e i g v (s.trans f) P S r
def Np.at{α b:List (Option Addr)}{G F c:Hp}{K:Bool->ag->Prop}{Q:Bool->Hp->Prop}(h:Np α G F K Q)(s:Step α G b c):Np b c F K Q:=λd a k e i g f P S=>h d a k e i g (s.trans f) P S
section
variable {X:Cx}{a b c e:Expr}{es:List Expr}{ta tb tc te:DE}{pos:Pos}
def PE.imp(h:PE X e t)(f:∀σ H Q,t' σ H Q->t σ H Q):PE X e t':=λd s σ H Q I q=>h d s σ H Q I (f σ H Q q)
def PT.imp(h:PT X e t)(f:∀σ H Q,t' σ H Q->t σ H Q):PT X e t':=λd s σ H Q I q=>h d s σ H Q I (f σ H Q q)
def PW.imp(h:PW X e t)(f:∀σ H Q,t' σ H Q->t σ H Q):PW X e t':=λw d s σ H Q I q=>h w d s σ H Q I (f σ H Q q)
def PA.imp(h:PA X es t)(f:∀σ H Q,t' σ H Q->t σ H Q):PA X es t':=λp d s σ H Q I q=>h p d s σ H Q I (f σ H Q q)
def aa(i:Nat):DE:=λσ f K=>match σ[i]? with|some (some d)=>K d f|_=>False
def dC(d:D):DE:=λ_ f K=>K d f
def TF(h:PE X (.Name x pos) (SY i)):PE X (.Name x pos) (LE (aa i)):=PE.imp h λσ H Q ⟨α,f,g,K,G,F,P,R,S,t,k⟩=>by
 unfold aa at t;split at t
 . rename_i d q;obtain⟨v,e,r⟩:=R.at' i d q;show⟨v,e,k.here P t S r⟩
 . show t.elim
def sF(h:PE X e (tC v))(r:∀α H,Rep α H d v):PE X e (LE (dC d)):=PE.imp h λσ H Q ⟨α,f,g,K,G,F,P,R,S,t,k⟩=>k.here P t S (r α G)
def UR:PE X (.Constant (.int i) j pos) (LE (dC (.int i))):=sF Td λ_ _=>by unfold Rep;rfl
def Wl:PE X (.Constant (.bool i) j pos) (LE (dC (.bl i))):=sF UG λ_ _=>by unfold Rep;rfl
def TU:PE X (.Constant (.str i) j pos) (LE (dC (.str i))):=sF RE λ_ _=>by unfold Rep;rfl
def Um:PE X (.Constant .none j pos) (LE (dC .au)):=sF R6 λ_ _=>by unfold Rep;rfl
abbrev dg:=D->D->ag->DK->Prop
abbrev Ds:=D->ag->DK->Prop
abbrev f7:=List D->ag->DK->Prop
inductive Vy(r:dg)(x y:V)(H:Hp)(Q:VK):Prop
 |mk (α:List (Option Addr)) (d e:D) (st:ag) (K:DK) (G F:Hp) (P:cG G F H) (rx:Rep α G d x) (ry:Rep α G e y) (S:aY α st G) (h:r d e st K) (k:LK α G F K Q):Vy r x y H Q
def LR(r:dg):R2:=Vy r
inductive Qy(r:Ds)(x:V)(H:Hp)(Q:VK):Prop
 |mk (α:List (Option Addr)) (d:D) (st:ag) (K:DK) (G F:Hp) (P:cG G F H) (rx:Rep α G d x) (S:aY α st G) (h:r d st K) (k:LK α G F K Q):Qy r x H Q
def Oa(r:Ds):V->Hp->VK->Prop:=Qy r
inductive SG(r:f7)(xs:List V)(H:Hp)(Q:VK):Prop
 |mk (α:List (Option Addr)) (ds:List D) (st:ag) (K:DK) (G F:Hp) (P:cG G F H) (rx:aG α G ds xs) (S:aY α st G) (h:r ds st K) (k:LK α G F K Q):SG r xs H Q
def ip(r:f7):List V->Hp->VK->Prop:=SG r
def aj(r:dg)(ta tb:DE):DE:=λσ g K=>ta σ g λx f=>tb σ f λy d=>r x y d K
def qV(r:Ds)(ta:DE):DE:=λσ f K=>ta σ f λx d=>r x d K
def LE.op(h:LE (aj r ta tb) σ H Q):Jj (LR r) (LE ta) (LE tb) σ H Q:=by
 obtain⟨α,i,o,K,G,F,P,R,S,t,k⟩:=h;show⟨α,i,o,_,G,F,P,R,S,t,λd g q n C H1 v l A y s=>?_⟩;show⟨n,i,g,_,C,F,A,R.step l,y,q,λw f u m B E D j z x p=>?_⟩;show⟨m,d,w,f,K,B,F,z,s.step j,p,x,u,(k.at l).at j⟩
def LE.un(h:LE (qV r ta) σ H Q):VI (Oa r) (LE ta) σ H Q:=by
 obtain⟨α,g,j,K,G,F,P,R,S,t,k⟩:=h;show⟨α,g,j,_,G,F,P,R,S,t,λd f q i p H1 v l o n m=>?_⟩;show⟨i,d,f,K,p,F,o,m,n,q,k.at l⟩
def We(d:cm X (binaryOp op) (LR r))(g:PE X a (LE ta))(f:PE X b (LE tb)):PE X (.BinOp a op b pos) (LE (aj r ta tb)):=PE.imp (Tv d g f) λ_ _ _ h=>LE.op h
def Wy(d:Gw X (unaryOp op) (Oa r))(f:PE X a (LE ta)):PE X (.UnaryOp op a pos) (LE (qV r ta)):=PE.imp (US d f) λ_ _ _ h=>LE.un h
def TZ(d:cm X (compareOp op) (LR r))(i:PE X a (LE ta))(g:PE X b (LE tb))(f:behindInMarks op b=false:=by first|show cW _|rfl):PE X (.Compare a [op] [b] pos) (LE (aj r ta tb)):=PE.imp (PZ d i g f) λ_ _ _ h=>LE.op h
def aV(t:DE):DT:=λσ g K=>t σ g λd f=>match d with| .bl b=>K b f|_=>False
def LT.test(h:LT (aV te) σ H Q):LE te σ H λx p=>∃k,x= .bl k/\Q k p:=by
 obtain⟨α,i,l,K,G,F,P,R,S,t,k⟩:=h;show⟨α,i,l,_,G,F,P,R,S,t,λd f q j r H1 v m o n g=>?_⟩;cases d with
 |bl b=>
  unfold Rep at g;show⟨b,g,k b f q j r H1 m o n⟩
 |_=>show q.elim
def Sy(d:cm X (compareOp op) (LR r))(i:PE X a (LE ta))(g:PE X b (LE tb))(f:behindInMarks op b=false:=by first|show cW _|rfl):PT X (.Compare a [op] [b] pos) (LT (aV (aj r ta tb))):=PT.imp (O5 d i g f) λσ H Q h=>by
 let q:=LT.test h;show LE.op (Q:=λx j=>∃k,x= .bl k/\Q k j) q
def RV(f:PE X e (LE te))(d:∀whole,isTrue e X.env whole=(do let v <-whole;standAt e.pos;holding [v] (truthy v)):=by intro _;rfl):PT X e (LT (aV te)):=PT.imp (Su f d) λσ H Q h=>LT.test h
def pF(t:DT):DT:=λσ f K=>t σ f λb d=>K (!b) d
def qU(t u:DT):DT:=λσ f K=>t σ f λb d=>if b=true then u σ d K else K false d
def tG(t u:DT):DT:=λσ f K=>t σ f λb d=>if b=true then K true d else u σ d K
def QT(j:PT X a (LT t)):PT X (.UnaryOp .Not a pos) (LT (pF t)):=PT.imp (QZ j) λσ H Q ⟨α,f,h,K,G,F,P,R,S,t,k⟩=>
 ⟨α,f,h,_,G,F,P,R,S,t,λb d q g n H1 i m l=>k _ d q g n H1 i m l⟩
def LT.and(h:LT (qU t u) σ H Q):Qz (LT t) (LT u) σ H Q:=by
 obtain⟨α,g,n,K,G,F,P,R,S,t,k⟩:=h;show⟨α,g,n,_,G,F,P,R,S,t,λb d q i m H1 f l j=>?_⟩;cases b with
 |true=>show⟨i,g,d,K,m,F,l,R.step f,j,q,k.at f⟩
 |false=>show k _ d q i m H1 f l j
def LT.or(h:LT (tG t u) σ H Q):Vp (LT t) (LT u) σ H Q:=by
 obtain⟨α,g,n,K,G,F,P,R,S,t,k⟩:=h;show⟨α,g,n,_,G,F,P,R,S,t,λb d q i m H1 f l j=>?_⟩;cases b with
 |false=>show⟨i,g,d,K,m,F,l,R.step f,j,q,k.at f⟩
 |true=>show k _ d q i m H1 f l j
def Px(d:PT X a (LT t)):PW X (.BoolOp .And [a] pos) (LT t):=pw_and1 d
def Sh(d:PT X a (LT t)):PW X (.BoolOp .Or [a] pos) (LT t):=pw_or1 d
def Tq(f:PT X a (LT t))(d:PW X (.BoolOp .And (b::es) pos) (LT u)):PW X (.BoolOp .And (a::b::es) pos) (LT (qU t u)):=PW.imp (pw_and f d) λ_ _ _ h=>LT.and h
def UX(f:PT X a (LT t))(d:PW X (.BoolOp .Or (b::es) pos) (LT u)):PW X (.BoolOp .Or (a::b::es) pos) (LT (tG t u)):=PW.imp (pw_or f d) λ_ _ _ h=>LT.or h
def qG(ta tb:DE):DE:=λσ g K=>ta σ g λd f=>match d with| .bl b=>if b=true then tb σ f K else K (.bl false) f|_=>False
def MF(ta tb:DE):DE:=λσ g K=>ta σ g λd f=>match d with| .bl b=>if b=true then K (.bl true) f else tb σ f K|_=>False
def yZ(t:DT):DE:=λσ f K=>t σ f λb d=>K (.bl (!b)) d
def Ua(d:PE X a (LE ta)):PE X (.BoolOp op [a] pos) (LE ta):=Rj d
def TJ(r:PE X a (LE ta))(p:PE X (.BoolOp .And (b::es) pos) (LE tb)):PE X (.BoolOp .And (a::b::es) pos) (LE (qG ta tb)):=PE.imp (QB r p) λσ H Q ⟨α,h,o,K,G,F,P,R,S,t,k⟩=>by
 show⟨α,h,o,_,G,F,P,R,S,t,λd f q i n H1 v g m l j=>?_⟩;cases d with
 |bl b=>
  unfold Rep at j;show⟨b,j,?_⟩;cases b with
  |true=>show⟨i,h,f,K,n,F,m,R.step g,l,q,k.at g⟩
  |false=>show k _ f q i n H1 _ g m l (by unfold Rep;rfl)
 |_=>show q.elim
def V9(r:PE X a (LE ta))(p:PE X (.BoolOp .Or (b::es) pos) (LE tb)):PE X (.BoolOp .Or (a::b::es) pos) (LE (MF ta tb)):=PE.imp (UI r p) λσ H Q ⟨α,h,o,K,G,F,P,R,S,t,k⟩=>by
 show⟨α,h,o,_,G,F,P,R,S,t,λd f q i n H1 v g m l j=>?_⟩;cases d with
 |bl b=>
  unfold Rep at j;show⟨b,j,?_⟩;cases b with
  |false=>show⟨i,h,f,K,n,F,m,R.step g,l,q,k.at g⟩
  |true=>show k _ f q i n H1 _ g m l (by unfold Rep;rfl)
 |_=>show q.elim
def Vb(m:PE X a (LE ta)):PE X (.UnaryOp .Not a pos) (LE (yZ (aV ta))):=PE.imp (SN m) λσ H Q ⟨α,h,j,K,G,F,P,R,S,t,k⟩=>by
 show⟨α,h,j,_,G,F,P,R,S,t,λd f q i p H1 v l o n g=>?_⟩;cases d with
 |bl b=>
  unfold Rep at g;show⟨b,g,k _ f q i p H1 _ l o n (by unfold Rep;rfl)⟩
 |_=>show q.elim
def JN(t:DT)(ta tb:DE):DE:=λσ f K=>t σ f λb d=>if b=true then ta σ d K else tb σ d K
def UT(n:PT X c (LT t))(p:PE X a (LE ta))(o:PE X b (LE tb)):PE X (.IfExp c a b pos) (LE (JN t ta tb)):=PE.imp (Mj n p o) λσ H Q ⟨α,g,m,K,G,F,P,R,S,t,k⟩=>by
 show⟨α,g,m,_,G,F,P,R,S,t,λb d q h l H1 f j i=>?_⟩;cases b with
 |true=>show⟨h,g,d,K,l,F,j,R.step f,i,q,k.at f⟩
 |false=>show⟨h,g,d,K,l,F,j,R.step f,i,q,k.at f⟩
def ai:DA:=λ_ d K=>K [] d
def ae(ta:DE)(tr:DA):DA:=λσ h K=>ta σ h λx f=>tr σ f λg d=>K (x::g) d
def DN:PA X [] (LA ai):=PA.imp RH λσ H Q ⟨α,f,d,K,G,F,P,R,S,t,k⟩=>k [] d t α G H [] Step.refl P S (by unfold aG;rfl)
def zU{tr:DA}(x:PE X e (LE te))(w:PA X es (LA tr))(u:starEach (e::es) X.env=(false,eval e X.env)::starEach es X.env:=by rfl):PA X (e::es) (LA (ae te tr)):=PA.imp (Pw x w u) λσ H Q ⟨α,h,o,K,G,F,P,R,S,t,k⟩=>by
 show⟨α,h,o,_,G,F,P,R,S,t,λd g q n E H1 v l B z r=>?_⟩;show⟨n,h,g,_,E,F,B,R.step l,z,q,λI f s m D C i j A y p=>?_⟩;show k _ f s m D C (v::i) (l.trans j) A y (by unfold aG;show⟨v,i,rfl,r.step j,p⟩)
def dA(t:DA):DE:=λσ g K=>t σ g λf d=>f.length<=sizeLine/\K (.tup f) d
def tN(t:DA):DE:=λσ g K=>t σ g λf d=>f.length<=sizeLine/\K (.lst f) d
def Ac(t:DA):DE:=λσ g K=>t σ g λf d=>f.length<=sizeLine/\K (.ref d.length) (d++[.lst f])
def LK.tup{α:List (Option Addr)}{G F H:Hp}{K:DK}{Q:VK}{g:List D}{vs:List V}{st:ag}{p:Addr}(k:LK α G F K Q)(P:cG G F H)(q:K (.tup g) st)(S:aY α st G)(r:aG α G g vs)(f:H p=none):Q (.ref p) (upd H p (.tup vs)):=
 have d:=(P.none f).1
 k _ st q α _ _ _ (Step.laid d) (P.laid f) (S.laid d) (by unfold Rep;show⟨p,vs,rfl,S.mh d,a_,r.step (Step.laid d)⟩)
def LK.lst{α:List (Option Addr)}{G F H:Hp}{K:DK}{Q:VK}{g:List D}{vs:List V}{st:ag}{p:Addr}(k:LK α G F K Q)(P:cG G F H)(q:K (.lst g) st)(S:aY α st G)(r:aG α G g vs)(f:H p=none):Q (.ref p) (upd H p (.lst vs)):=
 have d:=(P.none f).1
 k _ st q α _ _ _ (Step.laid d) (P.laid f) (S.laid d) (by unfold Rep;show⟨p,vs,rfl,S.mh d,.of a_,r.step (Step.laid d)⟩)
def LK.new{α:List (Option Addr)}{G F H:Hp}{K:DK}{Q:VK}{g:List D}{vs:List V}{st:ag}{p:Addr}(k:LK α G F K Q)(P:cG G F H)(q:K (.ref st.length) (st++[.lst g]))(S:aY α st G)(r:aG α G g vs)(f:H p=none):Q (.ref p) (upd H p (.lst vs)):=
 have d:=(P.none f).1
 k _ _ q (α++[some p]) _ _ _ (Step.cell d) (P.laid f) (S.cell d ⟨vs,a_,r.step (Step.cell d)⟩) (by
  unfold Rep;show .inr ⟨p,?_,rfl⟩;rw[Yg (by rw[S.len];show Xl _),S.len,ZT];rfl)
def Tw(h:PA X es (LA t)):PE X (.Tuple es n pos) (LE (dA t)):=PE.imp (QY h) λσ H Q ⟨α,f,i,K,G,F,P,R,S,t,k⟩=>
 ⟨α,f,i,_,G,F,P,R,S,t,λu g q r v H1 s j o m d=>⟨by rw[<-d.length];show q.1,λp l=>(k.at j).tup o q.2 m d l⟩⟩
def UJ(h:PA X es (LA t)):PE X (.List es pos) (LE (tN t)):=PE.imp (Ll h) λσ H Q ⟨α,f,i,K,G,F,P,R,S,t,k⟩=>
 ⟨α,f,i,_,G,F,P,R,S,t,λs g q o u H1 r j n m d=>⟨by rw[<-d.length];show q.1,λp l=>(k.at j).lst n q.2 m d l⟩⟩
def U_(h:PA X es (LA t)):PE X (.List es pos) (LE (Ac t)):=PE.imp (Ll h) λσ H Q ⟨α,f,i,K,G,F,P,R,S,t,k⟩=>
 ⟨α,f,i,_,G,F,P,R,S,t,λs g q o u H1 r j n m d=>⟨by rw[<-d.length];show q.1,λp l=>(k.at j).new n q.2 m d l⟩⟩
abbrev bV:=List D->ag->DK->Prop
inductive Rg(T:bV)(vs:List V)(H:Hp)(Q:VK):Prop
 |mk (α:List (Option Addr)) (ds:List D) (st:ag) (K:DK) (G F:Hp) (P:cG G F H) (rx:aG α G ds vs) (S:aY α st G) (h:T ds st K) (k:LK α G F K Q):Rg T vs H Q
def fe(S:bV):Sp:=λd H Q _=>Rg S d H Q
def aB(S:bV)(t:DA):DE:=λσ f K=>t σ f λg d=>S g d K
def LE.call{S:bV}(h:LE (aB S t) σ H Q):NG (fe S) [] E0 (LA t) σ H Q:=by
 obtain⟨α,f,i,K,G,F,P,R,S,t,k⟩:=h;show⟨α,f,i,_,G,F,P,R,S,t,λm d q g p H1 r j o n l=>?_⟩;try dsimp only
 rw[YZ];show⟨g,m,d,K,p,F,o,l,n,q,k.at j⟩
def RK{S:bV}{k:Nat}{f:Addr}{fd:FuncData}{i:List Str}{x:Str}{p:Pos}{t:DA}(F:cH X.prog X.w X.K X.mg X.base eC k f fd i (fe S))(j:cU k X.A)(n:Gl X x)(l:X.mg x=some (.ref f))(m:PySem.W.keepIn X.K (.ref f)=true)(q:Binds X.K fd i [])
 (r:PA X (e::es) (LA t)) (g:(x==("__debug__":Str))=false:=by decide) (o:starEach (e::es) X.env=(false,eval e X.env)::starEach es X.env:=by rfl) (d:(backTo pos (starEach es X.env)).any (·.1)=false:=by rfl):
 PE X (.Call (.Name x p) (e::es) [] pos) (LE (aB S t)):=PE.imp (OV F j n l m q .nil yG r g o d) λ_ _ _ h=>LE.call h
def ck(r:f7)(t:DA):DE:=λσ f K=>t σ f λg d=>r g d K
def LE.cb(h:LE (ck r t) σ H Q):Sv (ip r) (LA t) σ H Q:=by
 obtain⟨α,f,i,K,G,F,P,R,S,t,k⟩:=h;show⟨α,f,i,_,G,F,P,R,S,t,λm d q g p H1 s j o n l=>?_⟩;show⟨g,m,d,K,p,F,o,l,n,q,k.at j⟩
end
section
variable {X:Cx}
def cm.imp{f:Value->Value->Sem Value}(h:cm X f r)(k:∀x y H Q,b x y H Q->r x y H Q):cm X f b:=λa s σ H x y v u Q I d c q=>h a s σ H x y v u Q I d c (k x y H Q q)
def cw.imp(h:cw X f r)(k:∀a H Q,c a H Q->r a H Q):cw X f c:=λb s σ H a d Q I e q=>h b s σ H a d Q I e (k a H Q q)
def wV(C:Int->Int->Prop)(g:Int->Int->D):dg:=λx y a K=>match x,y with| .int i,.int j=>C i j/\K (g i j) a|_,_=>False
def nk{f:Value->Value->Sem Value}{g:Int->Int->D}{g':Int->Int->V}(c:∀i j α H,Rep α H (g i j) (g' i j))(h:cm X f (rI C g')):cm X f (LR (wV C g)):=cm.imp h λx y H Q ⟨α,d,e,l,K,G,m,P,b,a,S,q,k⟩=>by
 cases d<;>cases e<;>first
  |show q.elim
  |(unfold Rep at b a;show⟨_,_,b,a,q.1,k.here P q.2 S (c _ _ _ _)⟩)
abbrev T2:Int->Int->Prop:=λ_ _=>True
def yS{g:Int->Int->V}{f:Value->Value->Sem Value}(h:cm X f (yk g)):cm X f (rI T2 g):=cm.imp h λx y H Q ⟨i,j,b,a,_,q⟩=>⟨i,j,b,a,q⟩
abbrev NI:dg:=wV T2 λi j=> .int (i-j)
abbrev IH:dg:=wV (λ_ j=>j≠0/\j.natAbs.log2<9000) λi j=> .int (i.fdiv j)
abbrev N1:dg:=wV (λ_ j=>j≠0) λi j=> .int (i.fmod j)
abbrev NB:dg:=wV Me λi j=> .int (i^j.toNat)
abbrev QC:dg:=wV T2 λi j=> .bl (decide (i<j))
abbrev QA:dg:=wV T2 λi j=> .bl (decide (i<=j))
abbrev Q5:dg:=wV T2 λi j=> .bl (decide (j<i))
abbrev R9:dg:=wV T2 λi j=> .bl (decide (j<=i))
def UC:cm X (binaryOp .Sub) (LR NI):=nk (λ_ _ _ _=>by unfold Rep;rfl) (yS QG)
def Sb:cm X (binaryOp .FloorDiv) (LR IH):=nk (λ_ _ _ _=>by unfold Rep;rfl) (N2 λi j _ _ _ _ _ a q=>floordiv_int a.1 q (.inl (abt a.2)))
def Uk:cm X (binaryOp .Mod) (LR N1):=nk (λ_ _ _ _=>by unfold Rep;rfl) OI
def UB:cm X (binaryOp .Pow) (LR NB):=nk (λ_ _ _ _=>by unfold Rep;rfl) SE
def Wz:cm X (compareOp .Lt) (LR QC):=nk (λ_ _ _ _=>by unfold Rep;rfl) (yS UW)
def VT:cm X (compareOp .LtE) (LR QA):=nk (λ_ _ _ _=>by unfold Rep;rfl) (yS Tx)
def WE:cm X (compareOp .Gt) (LR Q5):=nk (λ_ _ _ _=>by unfold Rep;rfl) (yS Ug)
def Ww:cm X (compareOp .GtE) (LR R9):=nk (λ_ _ _ _=>by unfold Rep;rfl) (yS Ut)
def NN:Ds:=λx a K=>match x with| .int i=>K (.int (-i)) a|_=>False
def Va:Gw X (unaryOp .USub) (Oa NN):=λa s σ H x v Q I b ⟨α,d,c,K,G,e,P,r,S,q,k⟩=>by
 cases d<;>first
  |show q.elim
  |(unfold Rep at r;show Rk a s σ H x v Q I b ⟨_,r,k.here P q S (by unfold Rep;rfl)⟩)
def Inv.zK{pins:List (Addr×Obj)}{σ:L2.St}{H:Hp}{s:Shared}{l:Addr}{a:List V}(I:Inv X pins σ H s)(h:Rd H l (.lst a)):
 a.length<=sizeLine/\∃(aq:List Value) (n:Nat),Vals a aq/\a.length=aq.length/\s.heap.get? l=some {cls:= .type "list",data:= .seq aq.toArray n}:=by
 obtain⟨z,aq,n,r,e⟩:=h.ok I.aK;show⟨z,aq,n,r,r.length,e⟩
def iJ(P:cG G F H)(h:Rd G a u):Rd H a u:=by
 rcases h with h|⟨o,h⟩
 . show .inl (P.get h)
 . show .inr ⟨o,P.get h⟩
def OW:cm X (binaryOp .Add) (λx y H Q=>∃l b d c,x= .ref l/\y= .ref b/\Rd H l (.lst d)/\Rd H b (.lst c)/\d.length+c.length<=sizeLine/\∀p,H p=none->Q (.ref p) (upd H p (.lst (d++c)))):=by
 intro f s σ H x y v u Q I j i h;obtain⟨l,b,d,c,rfl,rfl,o,t,D,q⟩:=h;cases j;cases i;obtain⟨z,g,n,r,E,e⟩:=Inv.zK I o;obtain⟨B,a,C,k,m,A⟩:=Inv.zK I t;show PySem.P.add_list e A ?_ (by rw[Xy,Xy];lia);let w:g.toArray++a.toArray=(g++a).toArray:=by simp
 rw[w];show⟨.ref _,_,I.Mq (t':=s.toks) (r.append k) (by rw[Yn];lia),rfl,q _ I.fresh⟩
def F0:cm X (binaryOp .Mult) (λx y H Q=>∃l k j,x= .ref l/\y= .int k/\Rd H l (.lst j)/\ -(2^63)<=k/\k<2^63/\j.length*k.toNat<=sizeLine/\
 ∀p,H p=none->Q (.ref p) (upd H p (.lst (List.replicate k.toNat j).flatten))):=by
 intro A s σ H x y v u Q I E D h;obtain⟨l,k,j,rfl,rfl,J,L,K,B,q⟩:=h;cases E;obtain⟨t,rfl⟩:=D;obtain⟨z,b,n,r,G,e⟩:=Inv.zK I J;let f:b.toArray.size*k.toNat<=sizeLine:=by rw[Xy,<-G];show B
 let i:¬b.toArray.size*k.toNat>(2^63-1)/8:=by
  let:(sizeLine:Nat)<=(2^63-1)/8:=by decide
  lia
 let g:¬(!Builtin.List.listFitsIndex k)=true:=by
  rw[fitsIndex_both L K];show Yw
 let c:¬Builtin.List.listTooLong (b.toArray.size*k.toNat)=true:=by
  rw[MX f];show Yw
 let d:List.foldl (λw o=>w++o) #[] (List.replicate (if b.toArray.isEmpty=true then 0 else k.toNat) b.toArray)=(List.replicate k.toNat b).flatten.toArray:=by
  let M:∀m:Nat,List.foldl (λw o=>w++o) #[] (List.replicate m b.toArray)=(List.replicate m b).flatten.toArray:=λm=>by
   let:=foldl_rep b m [];rw[List.nil_append]at this;show this
  rw[M];cases b with
  |nil=>simp
  |cons a N=>rw[Xn (by simp)]
 show abk (T:="list") (U:="int") (by decide) ⟨_,e,rfl⟩ (λC=>abj C k t) noFill_list_mul F.fills_int_mul aaP repeat_list F.slot_int_index.lookup
  (ZZ aaP (abj s k t) F.entry_int_rmul (F.args_int_rmul_2 _ _) (int___rmul___int_list k t l b.toArray n)
    ⟨e,rfl,⟨_,e,rfl⟩,ZZ F.slot_list_mul ⟨_,e,rfl⟩ F.entry_list_mul (F.args_list_mul_2 _ _) (AutoListH.list___mul___list_int_3 l b.toArray n k t g i c) ⟨e,?_⟩⟩)
 rw[d];show⟨.ref _,_,I.Mq (t':=s.toks) (r.rep k.toNat) (by rw[len_rep,YV];show B),rfl,q _ I.fresh⟩
def MT:cm X (binaryOp .Add) (λx y H Q=>∃a b c ys,x= .ref a/\y= .ref b/\H a=some (.tup c)/\H b=some (.tup ys)/\c.length+ys.length<=sizeLine/\
 (c=[]->Q (.ref b) H)/\(c≠ []->ys=[]->Q (.ref a) H)/\(c≠ []->ys≠ []->∀p,H p=none->Q (.ref p) (upd H p (.tup (c++ys))))):=by
 intro d s σ H x y v u Q I o m h;obtain⟨a,b,c,ys,rfl,rfl,z,w,N,J,G,F⟩:=h;by_cases f:c=[]
 . cases o;cases m;obtain⟨C,E,L,_⟩:=I.tuple (.of z);obtain⟨e,S,K,_⟩:=I.tuple (.of w);obtain⟨⟨R,P,A,D⟩,q,t,n,r⟩:=id L;obtain⟨⟨B,l,data2,k⟩,g,j,M,i⟩:=id K;simp only at t r j i;subst t r j i;let O:C=[]:=(L2.Vals.vY E).mpr f
   show concat_meets ⟨_,q,rfl⟩ ⟨_,g,rfl⟩ abq seq_tuple_add aaC aau (aan _ _)
    (tuple_addW0 a b C.toArray e.toArray n M P l D k (by simp[O])) ⟨q,g,⟨.ref b,H,I,rfl,J f⟩⟩
 . show O3 d s σ H _ _ v u Q I o m ⟨a,b,c,ys,rfl,rfl,.of z,.of w,f,N,G f,F f⟩
def zZ:fillsNumberSlot (.type "tuple") "mul"=pure false:=
 PySem.fillsNumberSlot_seq (id:="tuple.__mul__") (r:=some (.builtin "tuple.__rmul__")) Z_.lookup (by decide+kernel) F.slot_tuple_rmul.lookup (by decide+kernel)
def Hx:seqRepeat? (.type "tuple")=pure (some (.builtin "tuple.__mul__")):=by
 unfold seqRepeat?;rw[PySem.seqSlot_of (T:="tuple") (name:="__mul__") (id:="tuple.__mul__") Z_.lookup (by decide+kernel),PySem.seqSlot_of (T:="tuple") (name:="__rmul__") (id:="tuple.__rmul__") F.slot_tuple_rmul.lookup (by decide+kernel)];rfl
def Dz(a:Int)(t:Tok)(l:Addr)(aq:Array Value)(n:Nat)(c:Option Addr)(b:Array (Option Value)):Meets (Builtin.«int.__rmul__» ⟨[.int a t,.ref l],[]⟩) (λ_ R s=>s.heap.get? l=some {cls:= .type "tuple",dict:=c,data:= .seq aq n,slots:=b}/\R (.ok (.ret Value.notImplemented)) s):=
 .of_wp λP w A R s h=>by
  obtain⟨f,g,d,tk,e⟩:=s;obtain⟨i,h⟩:=h
  wp_walk
  show⟨_,rfl,h⟩
def C2(l:Addr)(aq:Array Value)(n:Nat)(c:Option Addr)(a:Array (Option Value))(x:Int)(u:Tok)(b:(decide (x< -(2^63))||decide (x>=2^63))=false)(j:(aq.isEmpty||x==1)=true):
 Meets (Builtin.«tuple.__mul__» ⟨[.ref l,.int x u],[]⟩) (λ_ R s=>s.heap.get? l=some {cls:= .type "tuple",dict:=c,data:= .seq aq n,slots:=a}/\R (.ok (.ret (.ref l))) s):=
 .of_wp λP w A R s h=>by
  obtain⟨f,g,d,tk,e⟩:=s;obtain⟨i,h⟩:=h
  wp_walk
  show aaQ (by rw[b];rfl) ?_
  wp_walk
  show⟨_,rfl,h⟩
def CG(l:Addr)(aq:Array Value)(n:Nat)(c:Option Addr)(a:Array (Option Value))(x:Int)(u:Tok)(b:(decide (x< -(2^63))||decide (x>=2^63))=false)(k:(aq.isEmpty||x==1)=false)(j:(decide (x<=0)||aq.isEmpty)=true):
 Meets (Builtin.«tuple.__mul__» ⟨[.ref l,.int x u],[]⟩) (λ_ R s=>s.heap.get? l=some {cls:= .type "tuple",dict:=c,data:= .seq aq n,slots:=a}/\R (.ok (.ret (.ref s.heap.objs.size))) {s with heap:=s.heap.push {cls:= .type "tuple",data:= .seq #[]}}):=
 .of_wp λP w A R s h=>by
  obtain⟨f,g,d,tk,e⟩:=s;obtain⟨i,h⟩:=h
  wp_walk
  show aaQ (by rw[b];rfl) ?_
  wp_walk
  show⟨_,rfl,h⟩
def DJ(l:Addr)(aq:Array Value)(n:Nat)(i:Option Addr)(c:Array (Option Value))(x:Int)(u:Tok)(f:(decide (x< -(2^63))||decide (x>=2^63))=false)(r:(aq.isEmpty||x==1)=false)(q:(decide (x<=0)||aq.isEmpty)=false)(e:¬((aq.size:Int)*x>(2^63-1)/8))(p:Builtin.Tuple.tupleTooMany (aq.size*x)=false)
 (k:(List.foldl (λb a=>b++a) #[] (List.replicate x.toNat aq)).size<=sizeLine):
 Meets (Builtin.«tuple.__mul__» ⟨[.ref l,.int x u],[]⟩) (λ_ R s=>s.heap.get? l=some {cls:= .type "tuple",dict:=i,data:= .seq aq n,slots:=c}/\R (.ok (.ret (.ref s.heap.objs.size))) {s with heap:=s.heap.push {cls:= .type "tuple",data:= .seq (List.foldl (λb a=>b++a) #[] (List.replicate x.toNat aq))}}):=
 .of_wp λP w A R s h=>by
  obtain⟨m,g,d,tk,j⟩:=s;obtain⟨o,h⟩:=h
  wp_walk
  show aaQ (by rw[f];rfl) ?_
  wp_walk
  show aaQ (XG e) ?_
  wp_walk
  show⟨_,rfl,h⟩
def Qp:cm X (binaryOp .Mult) (λx y H Q=>∃l k c,x= .ref l/\y= .int k/\H l=some (.tup c)/\ -(2^63)<=k/\k<2^63/\c.length*k.toNat<=sizeLine/\
 ((c=[]\/k=1)->Q (.ref l) H)/\(¬(c=[]\/k=1)->∀p,H p=none->Q (.ref p) (upd H p (.tup (List.replicate k.toNat c).flatten)))):=by
 intro g s σ H x y v u Q I Y W h;obtain⟨l,k,c,rfl,rfl,hH,h1,h2,K,Z,A⟩:=h;cases Y;obtain⟨t,rfl⟩:=W;obtain⟨a,r,p1,_⟩:=I.tuple (.of hH);obtain⟨⟨cls,w,data,m⟩,b,M,n,L⟩:=id p1;simp only at M L;subst M L;let C:c.length=a.length:=r.length
 let J:(decide (k< -(2^63))||decide (k>=2^63))=false:=by
  rw[XG (by lia),XG (by lia)];rfl
 show abk (T:="tuple") (U:="int") (by decide) ⟨_,b,rfl⟩ (λS=>abj S k t) zZ F.fills_int_mul aaP Hx F.slot_int_index.lookup
  (ZZ aaP (abj s k t) F.entry_int_rmul (F.args_int_rmul_2 _ _) (Dz k t l a.toArray n w m) ⟨b,rfl,⟨_,b,rfl⟩,?_⟩)
 by_cases f:c=[]\/k=1
 . have o:(a.toArray.isEmpty||k==1)=true:=by
    rcases f with z|z
    . have:a=[]:=YY.mp (by rw[<-C,z];rfl);rw[this];rfl
    . rw[z];simp
   show ZZ Z_ ⟨_,b,rfl⟩ abf (aa4 _ _) (C2 l a.toArray n w m k t J o) ⟨b,⟨.ref l,H,I,rfl,Z f⟩⟩
 . have B:a≠ []:=λz=>f (.inl (YY.mp (by rw[C,z];rfl)));let D:k≠1:=λz=>f (.inr z);let O:a.toArray.isEmpty=false:=by simpa using B
   let o:(a.toArray.isEmpty||k==1)=false:=by rw[O];simpa using D
   let new:∀(j:List Value) (i:List V),Vals i j->i.length<=sizeLine->Inv X g σ (upd H s.heap.objs.size (.tup i)) {s with heap:=s.heap.push {cls:= .type "tuple",data:= .seq j.toArray}}:=λj i hv hy=>
    I.laid (t':=s.toks) (λ_ _ q=>Xj _ q) (Xl _) ⟨hy,j,hv,⟨_,XE _ rfl,rfl,_,rfl⟩⟩
   by_cases N:k<=0
   . have G:(decide (k<=0)||a.toArray.isEmpty)=true:=by rw[XQ N];rfl
     show ZZ Z_ ⟨_,b,rfl⟩ abf (aa4 _ _) (CG l a.toArray n w m k t J o G) ⟨b,?_⟩;let ez:k.toNat=0:=by lia
     rw[ez]at A;show⟨.ref _,_,new [] [] .nil (XY _),rfl,A f _ I.fresh⟩
   . have G:(decide (k<=0)||a.toArray.isEmpty)=false:=by rw[XG N,O];rfl
     let hk:(k.toNat:Int)=k:=by lia
     let e:a.toArray.size*k.toNat<=sizeLine:=by rw[Xy,<-C];show K
     let ab:((a.toArray.size:Nat):Int)*k<=(sizeLine:Int):=by
      rw[<-hk]
      exact_mod_cast e
     let f3:¬(((a.toArray.size:Nat):Int)*k>(2^63-1)/8):=by
      let:((sizeLine:Nat):Int)<=(2^63-1)/8:=by decide
      lia
     let f4:Builtin.Tuple.tupleTooMany (((a.toArray.size:Nat):Int)*k)=false:=by
      unfold Builtin.Tuple.tupleTooMany;show XG (by lia)
     let d:List.foldl (λR P=>R++P) #[] (List.replicate k.toNat a.toArray)=(List.replicate k.toNat a).flatten.toArray:=by
      let:=foldl_rep a k.toNat [];rw[List.nil_append]at this;show this
     let E:(List.replicate k.toNat a).flatten.length=a.length*k.toNat:=by rw[len_rep,YV]
     show ZZ Z_ ⟨_,b,rfl⟩ abf (aa4 _ _) (DJ l a.toArray n w m k t J o G f3 f4 (by rw[d,Xy,E];show e)) ⟨b,?_⟩;rw[d];show⟨.ref _,_,new _ _ (r.rep k.toNat) (by rw[len_rep,YV];show K),rfl,A f _ I.fresh⟩
def NA:dg:=λx y c K=>match x,y with
 | .int i,.int j=>K (.int (i+j)) c
 | .tup b,.tup a=>b.length+a.length<=sizeLine/\K (.tup (b++a)) c
 | .lst b,.lst a=>b.length+a.length<=sizeLine/\K (.lst (b++a)) c
 | .str x,.str y=>x.length+y.length<=sizeLine/\K (.str (x++y)) c
 |_,_=>False
def UO:cm X (binaryOp .Add) (LR NA):=λc s σ H x y v u Q I r o ⟨α,d,e,E,K,G,F,P,g,f,S,q,k⟩=>by
 cases d<;>cases e<;>try show q.elim
 . unfold Rep at g f;show RG c s σ H x y v u Q I r o ⟨_,_,g,f,k.here P q S (by unfold Rep;rfl)⟩
 . unfold Rep at g f;show G0 c s σ H x y v u Q I r o ⟨_,_,g,f,q.1,k.here P q.2 S (by unfold Rep;rfl)⟩
 . unfold Rep at g f;obtain⟨a,n,rfl,na,w,l⟩:=g;obtain⟨b,m,rfl,B,t,j⟩:=f;show OW c s σ H _ _ v u Q I r o ⟨a,b,n,m,rfl,rfl,iJ P w,iJ P t,by rw[<-l.length,<-j.length];show q.1,λp A=>?_⟩;show k.lst P q.2 S (bL.mpr (g0 (bL.mp l) (bL.mp j))) A
 . rename_i D C;unfold Rep at g f;obtain⟨a,n,rfl,na,w,l⟩:=g;obtain⟨b,m,rfl,B,t,j⟩:=f;let i:=l.length;let h:=j.length;show MT c s σ H _ _ v u Q I r o ⟨a,b,n,m,rfl,rfl,P.get w,P.get t,by rw[<-i,<-h];show q.1,λz=>?_,λ_ z=>?_,λ_ _ p A=>?_⟩
   . show k.here P q.2 S ?_;unfold Rep;let:D=[]:=by rw[z]at i;show YY.mp i
     subst this;show⟨b,m,rfl,B,t,j⟩
   . show k.here P q.2 S ?_;unfold Rep;let:C=[]:=by rw[z]at h;show YY.mp h
     subst this;rw[YZ];show⟨a,n,rfl,na,w,l⟩
   . show k.tup P q.2 S (bL.mpr (g0 (bL.mp l) (bL.mp j))) A
def NW:dg:=λx y b K=>match x,y with
 | .int i,.int j=>IntMulOk i j/\K (.int (i*j)) b
 | .lst a,.int k=>(-(2^63)<=k/\k<2^63/\a.length*k.toNat<=sizeLine)/\K (.lst (List.replicate k.toNat a).flatten) b
 | .tup a,.int k=>(-(2^63)<=k/\k<2^63/\a.length*k.toNat<=sizeLine)/\K (.tup (List.replicate k.toNat a).flatten) b
 |_,_=>False
def Uh:cm X (binaryOp .Mult) (LR NW):=λb s σ H x y v u Q I r o ⟨α,d,e,E,K,G,F,P,c,g,S,q,k⟩=>by
 cases d<;>cases e<;>try show q.elim
 . unfold Rep at c g;let h:cm X (binaryOp .Mult) (rI IntMulOk λi j=> .int (i*j)):=N2 λ_ _ _ _ _ _ _ D q=>mul_int q D;show h b s σ H x y v u Q I r o ⟨_,_,c,g,q.1,k.here P q.2 S (by unfold Rep;rfl)⟩
 . unfold Rep at c g;obtain⟨a,n,rfl,na,A,f⟩:=c;show F0 b s σ H _ _ v u Q I r o ⟨a,_,n,rfl,g,iJ P A,q.1.1,q.1.2.1,by rw[<-f.length];show q.1.2.2,λp w=>?_⟩;show k.lst P q.2 S (bL.mpr (oq (bL.mp f) _)) w
 . rename_i l m;let t:=c;unfold Rep at c g;obtain⟨a,n,rfl,na,A,f⟩:=c;show Qp b s σ H _ _ v u Q I r o ⟨a,_,n,rfl,g,P.get A,q.1.1,q.1.2.1,by rw[<-f.length];show q.1.2.2,λC=>?_,λ_ p w=>k.tup P q.2 S (bL.mpr (oq (bL.mp f) _)) w⟩
   let e:(List.replicate m.toNat l).flatten=l:=by
    rcases C with z|z
    . have:l=[]:=YY.mp (by rw[f.length,z];rfl);rw[this];simp
    . rw[z];simp
   let B:=q.2;rw[e]at B;show k.here P B S t
def live(st:ag):D->Bool
 | .ref n=>(match st[n]? with|some (.lst _)=>true|some (.ins _ _)=>true|_=>false)
 |_=>true
def x9{α:List (Option Addr)}{H:Hp}{st:ag}{n:Nat}{v:V}(S:aY α st H)(h:live st (.ref n)=true)(r:Rep α H (.ref n) v):∃a,v= .ref a:=by
 unfold live at h;simp only at h;split at h
 . rename_i e;obtain⟨a,b,_⟩:=S.ik e;show⟨a,d7 b r⟩
 . rename_i e;obtain⟨a,b,_⟩:=S.y6 e;show⟨a,d7 b r⟩
 . cases h
def OY:dg:=λx y a K=>match y with| .au=>live a x=true/\K (.bl (match x with| .au=>false|_=>true)) a|_=>False
def Qh:cm X (compareOp .IsNot) (LR OY):=cm.imp O6 λx y H Q ⟨α,d,e,g,K,G,h,P,b,c,S,q,k⟩=>by
 cases e<;>try show q.elim
 unfold Rep at c;show⟨c,k.here P q.2 S ?_⟩;unfold Rep;cases d
 case ref n=>
  obtain⟨a,rfl⟩:=x9 S q.1 b;rfl
 all_goals(unfold Rep at b;first|(rw[b];rfl)|(obtain⟨a,f,rfl,_⟩:=b;rfl))
def sL:dg:=λx y b K=>match y with
 | .int i=>(match x with
   | .lst a=>(match eP a i with|some d=>K d b|none=>False)
   | .tup a=>(match eP a i with|some d=>K d b|none=>False)
   | .ref n=>(match b[n]? with|some (.lst a)=>(match eP a i with|some d=>K d b|none=>False)|_=>False)
   |_=>False)
 |_=>False
def aG.eP(h:aG α H a vs)(e:L2.eP a i=some d):∃v,L2.eP vs i=some v/\Rep α H d v:=by
 unfold L2.eP at e⊢;rw[<-h.length];cases q:ke a.length i with
 |none=>rw[q]at e;cases e
 |some j=>rw[q]at e;show h.get e
def V2:Nn X (LR sL):=λvalue slice b s σ H x y v u Q I o m ⟨α,d,e,J,K,G,L,P,g,l,S,q,k⟩ t=>by
 cases e<;>try show q.elim
 unfold Rep at l;cases d<;>try show q.elim
 . rename_i i n;unfold sL at q;simp only at q;split at q
   . split at q
     . rename_i A F _ B j;obtain⟨a,E,c,D,C⟩:=S.ik F;let r:=d7 E g;subst r;obtain⟨z,h,f⟩:=C.eP j;show FW value slice b s σ H _ _ v u Q I o m ⟨a,c,_,z,rfl,l,.of (P.get D),h,k.here P q S f⟩ t
     . show q.elim
   . show q.elim
 . unfold sL at q;simp only at q;split at q
   . rename_i A B j;unfold Rep at g;obtain⟨a,c,rfl,na,w,p⟩:=g;obtain⟨z,h,f⟩:=p.eP j;show FW value slice b s σ H _ _ v u Q I o m ⟨a,c,_,z,rfl,l,.inl (iJ P w),h,k.here P q S f⟩ t
   . show q.elim
 . unfold sL at q;simp only at q;split at q
   . rename_i A B j;unfold Rep at g;obtain⟨a,c,rfl,na,w,p⟩:=g;obtain⟨z,h,f⟩:=p.eP j;show RT value slice b s σ H _ _ v u Q I o m ⟨a,c,_,z,rfl,l,.of (P.get w),h,k.here P q S f⟩ t
   . show q.elim
def Wb(g:PE X a (LE d))(f:PE X b (LE c))(e:vU b:=by intro _ _;rfl):PE X (.Subscript a b pos) (LE (aj sL d c)):=PE.imp (Ui V2 g f e) λ_ _ _ h=>LE.op h
def items?(st:ag):D->Option (List D)
 | .lst a=>some a
 | .tup a=>some a
 | .ref n=>(match st[n]? with|some (.lst a)=>some a|_=>none)
 |_=>none
@[simp] theorem Vl(st:ag)(a:List D):items? st (.lst a)=some a:=rfl
@[simp] theorem Vk(st:ag)(a:List D):items? st (.tup a)=some a:=rfl
@[simp] theorem items_int(st:ag)(i:Int):items? st (.int i)=none:=rfl
@[simp] theorem V6(st:ag)(i:Bool):items? st (.bl i)=none:=rfl
@[simp] theorem items_str(st:ag)(i:Str):items? st (.str i)=none:=rfl
@[simp] theorem VE(st:ag):items? st .au=none:=rfl
def aO{st:ag}{n:Nat}{a:List D}(h:st[n]?=some (.lst a)):items? st (.ref n)=some a:=by unfold items?;simp![h]
def qW{α:List (Option Addr)}{H:Hp}{st:ag}{d:D}{v:V}{f:List D}(S:aY α st H)(r:Rep α H d v)(e:items? st d=some f):
 ∃p vs,v= .ref p/\aG α H f vs/\(Rd H p (.lst vs)\/H p=some (.tup vs)):=by
 cases d<;>try(cases e;done)
 . unfold items? at e;simp only at e;split at e
   . rename_i i q;cases e;obtain⟨a,h,vs,c,b⟩:=S.ik q;let g:=d7 h r;subst g;show⟨a,vs,rfl,b,.inl (.of c)⟩
   . cases e
 . cases e;unfold Rep at r;obtain⟨a,vs,rfl,_,c,b⟩:=r;show⟨a,vs,rfl,b,.inl c⟩
 . cases e;unfold Rep at r;obtain⟨a,vs,rfl,_,c,b⟩:=r;show⟨a,vs,rfl,b,.inr c⟩
def HP{K:PySem.W.Frag}{G F H:Hp}(P:cG G F H){p:Addr}{vs:List V}(h:Rd G p (.lst vs)\/G p=some (.tup vs)):oC K H p vs\/kF K H p vs:=h.elim (λz=> .inl (.inl (iJ P z))) λz=> .inr (.of (P.get z))
def jY(r:aG α H c a)(e:c=[d]):∃v,a=[v]/\Rep α H d v:=by
 subst e;unfold aG at r;obtain⟨v,q,rfl,f,b⟩:=r;unfold aG at b;subst b;show⟨v,rfl,f⟩
def qE{d e:D}(r:aG α H b a)(q:b=[d,e]):∃v u,a=[v,u]/\Rep α H d v/\Rep α H e u:=by
 subst q;unfold aG at r;obtain⟨v,q,rfl,g,f⟩:=r;obtain⟨u,rfl,c⟩:=jY f rfl;show⟨v,u,rfl,g,c⟩
def BU:f7:=λc a K=>match c with
 | [.str x]=>x.length<=sizeLine/\K (.int x.length) a
 | [d]=>(match items? a d with|some b=>K (.int b.length) a|none=>False)
 |_=>False
def TN:cw X (.builtin "len") (ip BU):=λa s σ H l c Q I f ⟨α,n,m,K,G,o,P,r,S,q,k⟩=>by
 unfold BU at q;split at q
 . rename_i x;obtain⟨v,rfl,b⟩:=jY r rfl;unfold Rep at b;subst b;show Du a s σ H _ c Q I f ⟨x,rfl,q.1,k.here P q.2 S (by unfold Rep;rfl)⟩
 . rename_i d _;split at q
   . rename_i j e;obtain⟨v,rfl,b⟩:=jY r rfl;obtain⟨p,g,rfl,i,h⟩:=qW S b e;show Dr a s σ H _ c Q I f ⟨p,g,rfl,HP P h,k.here P q S (by unfold Rep;rw[i.length])⟩
   . show q.elim
 . show q.elim
def Vo(g:Int->Int):f7:=λb a K=>match b with| [.int i]=>K (.int (g i)) a|_=>False
abbrev GF:f7:=Vo λi=>if i<0 then-i else i
def Vj:cw X (.builtin "abs") (ip GF):=cw.imp Mb λb H Q ⟨α,d,c,K,G,e,P,r,S,q,k⟩=>by
 unfold GF Vo at q;split at q
 . obtain⟨v,rfl,a⟩:=jY r rfl;unfold Rep at a;subst a;show⟨_,rfl,k.here P q S (by unfold Rep;rfl)⟩
 . show q.elim
def HG(g:Int->Int->Int):f7:=λb a K=>match b with| [.int i,.int j]=>K (.int (g i j)) a|_=>False
abbrev IG:f7:=HG λi j=>if j>i then j else i
abbrev H0:f7:=HG λi j=>if j<i then j else i
def UL(c:X.calm=true):cw X (.builtin "max") (ip IG):=cw.imp (Kn c) λd H Q ⟨α,f,e,K,G,g,P,r,S,q,k⟩=>by
 unfold IG HG at q;split at q
 . obtain⟨v,u,rfl,b,a⟩:=qE r rfl;unfold Rep at b a;subst b a;show⟨_,_,rfl,k.here P q S (by unfold Rep;rfl)⟩
 . show q.elim
def UD(c:X.calm=true):cw X (.builtin "min") (ip H0):=cw.imp (IY c) λd H Q ⟨α,f,e,K,G,g,P,r,S,q,k⟩=>by
 unfold H0 HG at q;split at q
 . obtain⟨v,u,rfl,b,a⟩:=qE r rfl;unfold Rep at b a;subst b a;show⟨_,_,rfl,k.here P q S (by unfold Rep;rfl)⟩
 . show q.elim
def HS:f7:=λc a K=>match c with| [.int i]=>K (.int i) a| [.bl b]=>K (.int (if b then 1 else 0)) a|_=>False
def Uj:cw X (.type "int") (ip HS):=cw.imp Kt λb H Q ⟨α,d,c,K,G,e,P,r,S,q,k⟩=>by
 unfold HS at q;split at q
 . obtain⟨v,rfl,a⟩:=jY r rfl;unfold Rep at a;subst a;show .inl ⟨_,rfl,k.here P q S (by unfold Rep;rfl)⟩
 . obtain⟨v,rfl,a⟩:=jY r rfl;unfold Rep at a;subst a;show .inr ⟨_,rfl,k.here P q S (by unfold Rep;rfl)⟩
 . show q.elim
def vR:f7:=λc a K=>match c with| [d]=>(match items? a d with|some b=>K (.tup b) a|none=>False)|_=>False
def Qn:cw X (.type "tuple") (ip vR):=cw.imp BL λx H Q ⟨α,A,y,K,G,B,P,r,S,q,k⟩=>by
 unfold vR at q;split at q
 . rename_i d;split at q
   . rename_i w e;obtain⟨v,rfl,c⟩:=jY r rfl;cases d with
     |tup u=>
      cases e;let m:=c;unfold Rep at c;obtain⟨a,g,rfl,na,b,s⟩:=c;show⟨a,g,rfl,.inr ⟨.of (P.get b),k.here P q S m⟩⟩
     |_=>
      obtain⟨p,g,rfl,j,h⟩:=qW S c e;show⟨p,g,rfl,?_⟩;rcases h with h|h
      . show .inl ⟨.inl (iJ P h),λl n=>k.tup P q S j n⟩
      . first
         |(cases e;done)
         |(exfalso
           unfold items? at e;simp only at e
           first
            |(split at e
              . rename_i z;obtain⟨a,t,f,b,s⟩:=S.ik z;let i:=d7 t c;cases i;rw[h]at b;cases b
              . cases e)
            |(unfold Rep at c
              obtain⟨a,f,i,_,b,_⟩:=c;cases i;rcases b with b|⟨o,b⟩<;>(rw[h]at b;cases b)))
   . show q.elim
 . show q.elim
def yq:f7:=λc a K=>match c with| [d]=>(match items? a d with|some b=>K (.lst b) a|none=>False)|_=>False
def Q2:cw X (.type "list") (ip yq):=cw.imp vt λg H Q ⟨α,j,i,K,G,m,P,r,S,q,k⟩=>by
 unfold yq at q;split at q
 . split at q
   . rename_i f e;obtain⟨v,rfl,c⟩:=jY r rfl;obtain⟨p,a,rfl,b,h⟩:=qW S c e;show⟨p,a,rfl,HP P h,λl d=>k.lst P q S b d⟩
   . show q.elim
 . show q.elim
def vW:f7:=λc a K=>match c with| [d]=>(match items? a d with|some b=>K (.ref a.length) (a++[.lst b])|none=>False)|_=>False
def Qe:cw X (.type "list") (ip vW):=cw.imp vt λg H Q ⟨α,j,i,K,G,m,P,r,S,q,k⟩=>by
 unfold vW at q;split at q
 . split at q
   . rename_i f e;obtain⟨v,rfl,c⟩:=jY r rfl;obtain⟨p,a,rfl,b,h⟩:=qW S c e;show⟨p,a,rfl,HP P h,λl d=>k.new P q S b d⟩
   . show q.elim
 . show q.elim
def oE:List D->Option (List Bool)
 | []=>some []
 | .bl b::r=>(oE r).map (b:: ·)
 |_::_=>none
def qT:List D->Option (List Int)
 | []=>some []
 | .int b::r=>(qT r).map (b:: ·)
 |_::_=>none
def yD:∀ {a:List D} {vs:List V} {bs:List Bool},aG α H a vs->oE a=some bs->vs=bs.map V.bl
 | [],vs,bs,r,e=>by
   unfold aG at r;cases e;show r
 |d::a,vs,bs,r,e=>by
  unfold aG at r;obtain⟨v,q,rfl,b,c⟩:=r;cases d<;>try(cases e;done)
  unfold oE at e;cases z:oE a with
  |none=>rw[z]at e;cases e
  |some f=>
   rw[z]at e;cases e;unfold Rep at b;rw[b,yD c z];rfl
def Az:∀ {a:List D} {vs:List V} {bs:List Int},aG α H a vs->qT a=some bs->vs=bs.map V.int
 | [],vs,bs,r,e=>by
   unfold aG at r;cases e;show r
 |d::a,vs,bs,r,e=>by
  unfold aG at r;obtain⟨v,q,rfl,b,c⟩:=r;cases d<;>try(cases e;done)
  unfold qT at e;cases z:qT a with
  |none=>rw[z]at e;cases e
  |some f=>
   rw[z]at e;cases e;unfold Rep at b;rw[b,Az c z];rfl
def ye:∀ {bs:List Bool} {us:List Value},Vals (bs.map V.bl) us->us=bs.map Value.bool
 | [],_,.nil=>rfl
 |b::bs,_,.cons h t=>by
  let h:_=Value.bool b:=h;rw[h,ye t];rfl
def Ci:f7:=λc b K=>match c with| [.lst a]=>(match oE a with|some bs=>K (.bl (bs.all id)) b|none=>False)|_=>False
def range_all{α:Type}(l:List α)(f:α->Bool)(tr:Nat->Bool)(h:∀i x,l[i]?=some x->tr i=f x):(List.range l.length).all tr=l.all f:=by
 induction l generalizing tr with
 |nil=>rfl
 |cons a l b=>
  rw[XH,Y1,ZI,ZI,List.all_map,h 0 a rfl];congr 1;show b (tr∘Nat.succ) λi x e=>h (i+1) x (by simpa using e)
def Ur(F:X.calm=true):cw X (.builtin "all") (ip Ci):=λm s σ H T V Q I B ⟨α,ds,W,K,G,F',P,r,S,q,k⟩=>by
 unfold Ci at q;split at q
 . rename_i R;split at q
   . rename_i bs e;obtain⟨v,rfl,l⟩:=jY r rfl;unfold Rep at l;obtain⟨a,U,rfl,na,M,L⟩:=l;obtain⟨u,rfl,y⟩:=vals1 B;cases y;let D:=yD L e;subst D;obtain⟨z,aq,n,t,Z,j⟩:=Inv.zK I (iJ P M);let c:=ye t;subst c;let g:s.heap.IsList a (bs.map Value.bool).toArray:=⟨_,j,rfl,n,rfl⟩
     show call_all_walk (aay g ?_);let h:a≠s.heap.objs.size:=XU (XC j);show⟨s.heap.objs.size,_,_,_,_,_,λi=>(bs[i]?).getD true,rfl,Walks.list (A:=X.A.in1) (I.ok.hd F) _ a h (bs.map Value.bool).toArray,⟨⟨_,XE _ rfl,rfl,rfl⟩,⟨_,Xj _ j,rfl,n,rfl⟩⟩,?_,?_⟩
     . intro i w Y Q' E' d p;rw[List.getElem?_toArray,XB]at d;cases f:bs[i]? with
       |none=>rw[f]at d;cases d
       |some b=>
        rw[f]at d;cases d;simp![f]at p;show YN p
     . intro N tk E
       let C:∀b o,s.heap.get? b=some o->N.get? b=some o:=λb o q=>E b o (by
        intro J;let:b=s.heap.objs.size:=by simpa using J
        show absurd (XC q) (by rw[this];show YL _)) (Xj _ q)
       let O:(List.range (bs.map Value.bool).toArray.size).all (λi=>(bs[i]?).getD true)=bs.all id:=by
        rw[Xy,Xk];show range_all bs id _ λi x e=>by rw[e];rfl
       rw[O];show⟨.bl (bs.all id),H,I.kept (t':=tk) C,rfl,k.here P q S (by unfold Rep;rfl)⟩
   . show q.elim
 . show q.elim
def kL(st:ag):D->Option String
 | .au=>some "NoneType"
 | .bl _=>some "bool"
 | .int _=>some "int"
 | .str _=>some "str"
 | .lst _=>some "list"
 | .tup _=>some "tuple"
 | .ref n=>(match st[n]? with|some (.lst _)=>some "list"|_=>none)
 | .ty _=>none
@[simp] theorem WY(st:ag)(a:List D):kL st (.lst a)=some "list":=rfl
@[simp] theorem Xf(st:ag)(a:List D):kL st (.tup a)=some "tuple":=rfl
@[simp] theorem ty_int(st:ag)(i:Int):kL st (.int i)=some "int":=rfl
@[simp] theorem Xg(st:ag)(i:Bool):kL st (.bl i)=some "bool":=rfl
@[simp] theorem ty_str(st:ag)(i:Str):kL st (.str i)=some "str":=rfl
@[simp] theorem W5(st:ag):kL st .au=some "NoneType":=rfl
def xC(t c:String):Bool:=t==c||(t=="bool"&&c=="int")
def CD{α:List (Option Addr)}{H:Hp}{st:ag}{K:PySem.W.Frag}{d:D}{v:V}{t:String}(S:aY α st H)(r:Rep α H d v)(e:kL st d=some t):lH K H v (.type t):=by
 cases d<;>unfold kL at e<;>try(cases e;done)
 . unfold Rep at r;cases e;subst r;show .au
 . unfold Rep at r;cases e;subst r;show .bl _
 . unfold Rep at r;cases e;subst r;show .int _
 . unfold Rep at r;cases e;subst r;show .str _
 . simp only at e;split at e
   . rename_i z;cases e;obtain⟨a,i,f,b,c⟩:=S.ik z;let h:=d7 i r;subst h;show .lst b
   . cases e
 . cases e;unfold Rep at r;obtain⟨a,g,rfl,na,b,c⟩:=r;rcases b with b|⟨o,b⟩
   . show .lst b
   . show .iG b
 . cases e;unfold Rep at r;obtain⟨a,g,rfl,na,b,c⟩:=r;show .tup b
def F9{G F H:Hp}{K:PySem.W.Frag}(P:cG G F H){x:V}{t:Value}(h:lH K G x t):lH K H x t:=by
 cases h with
 |au=>show .au
 |bl x=>show .bl x
 |int x=>show .int x
 |str x=>show .str x
 |wR x=>show .wR x
 |lst e=>show .lst (P.get e)
 |iG e=>show .iG (P.get e)
 |tup e=>show .tup (P.get e)
 |dK e=>show .dK (P.get e)
 |dT e=>show .dT (P.get e)
 |ins e a b c d f=>show .ins (P.get e) a b c d f
def vF:List String:=["NoneType","bool","int","str","list","tuple"]
def pL:List String:=["bool","int","str","list","tuple"]
def FO(K:PySem.W.Frag)(a:t∈vF)(b:c∈pL):PySem.W.kitOne K (.type t) (.type c)=some (xC t c):=by
 simp![vF,pL,XJ,XR,ZA]at a b;rcases a with rfl|rfl|rfl|rfl|rfl|rfl<;>rcases b with rfl|rfl|rfl|rfl|rfl<;>with_unfolding_all rfl
def DM{st:ag}{d:D}{t:String}(e:kL st d=some t):t∈vF:=by
 cases d<;>unfold kL at e<;>first
  |(cases e;done)
  |(cases e;decide)
  |(simp only at e;split at e<;>cases e;decide)
def kitx_of{pins:List (Addr×Obj)}{σ:L2.St}{H:Hp}{s:Shared}{x:V}{u:Value}{t:String}(I:Inv X pins σ H s)(b:RelV x u)(j:lH X.K H x (.type t)):
 ∃h:Heap->Prop,PySem.W.KitX X.K u (.type t) h/\h s.heap/\u≠ .builtin "__main__.__loader__#opaque":=by
 cases j with
 |au=>cases (show u=Value.none from b);show⟨_,PySem.W.kitx_none,True.intro,λz=>nomatch z⟩
 |bl y=>cases (show u=Value.bool y from b);show⟨_,PySem.W.kitx_bool,True.intro,λz=>nomatch z⟩
 |int i=>obtain⟨t,q⟩:=(show∃t,u=Value.int i t from b);cases q;show⟨_,PySem.W.kitx_int,True.intro,λz=>nomatch z⟩
 |str y=>obtain⟨t,q⟩:=(show∃t,u=Value.str y t from b);cases q;show⟨_,PySem.W.kitx_str,True.intro,λz=>nomatch z⟩
 |wR y=>obtain⟨t,q⟩:=(show∃t,u=Value.float y t from b);cases q;show⟨_,PySem.W.kitx_float,True.intro,λz=>nomatch z⟩
 | @lst a f d=>
   cases (show u=Value.ref a from b);obtain⟨_,_,n,_,c⟩:=(show d_ X.prog X.w H s.heap a (.lst f)from I.aK a _ d)
   show⟨_,aaw,⟨_,c,rfl⟩,λz=>nomatch z⟩
 | @iG a k f d=>
   cases (show u=Value.ref a from b);obtain⟨_,_,_,n,_,c⟩:=(show d_ X.prog X.w H s.heap a (.iG k (.lst f))from I.aK a _ d)
   show⟨_,aaw,⟨_,c,rfl⟩,λz=>nomatch z⟩
 | @tup a f d=>
   cases (show u=Value.ref a from b);obtain⟨_,_,_,p⟩:=(show d_ X.prog X.w H s.heap a (.tup f)from I.aK a _ d)
   obtain⟨o,c,g,_⟩:=p;show⟨_,PySem.W.kitx_tuple,⟨o,c,g⟩,λz=>nomatch z⟩
 | @dK a e d=>
   cases (show u=Value.ref a from b);obtain⟨_,_,r,_,p⟩:=(show d_ X.prog X.w H s.heap a (.dK e)from I.aK a _ d)
   obtain⟨o,l,m,c,g,_⟩:=p;show⟨_,aax,⟨o,c,g.1⟩,λz=>nomatch z⟩
 | @dT a e d=>
   cases (show u=Value.ref a from b);obtain⟨_,_,f,_,o,l,m,c,g,_⟩:=(show d_ X.prog X.w H s.heap a (.dT e)from I.aK a _ d)
   show⟨_,aax,⟨o,c,g.1⟩,λz=>nomatch z⟩
def sy:List D->Option (List String)
 | []=>some []
 | .ty b::r=>(sy r).map (b:: ·)
 |_::_=>none
def ED:∀ {a:List D} {vs:List V} {bs:List String},aG α H a vs->sy a=some bs->vs=bs.map V.ty
 | [],vs,bs,r,e=>by
   unfold aG at r;cases e;show r
 |d::a,vs,bs,r,e=>by
  unfold aG at r;obtain⟨v,q,rfl,b,c⟩:=r;cases d<;>try(cases e;done)
  unfold sy at e;cases z:sy a with
  |none=>rw[z]at e;cases e
  |some f=>
   rw[z]at e;cases e;unfold Rep at b;rw[b,ED c z];rfl
def Ec:∀ {bs:List String} {us:List Value},Vals (bs.map V.ty) us->us=bs.map Value.type
 | [],_,.nil=>rfl
 |b::bs,_,.cons h t=>by
  let h:_=Value.type b:=h;rw[h,Ec t];rfl
def FY(K:PySem.W.Frag)(b:t∈vF):∀a:List String,(∀c∈a,c∈pL)->PySem.W.kitAny K (.type t) (a.map Value.type)=some (a.any (xC t))
 | [],_=>rfl
 |c::a,h=>by
  change(match PySem.W.kitOne K (.type t) (.type c)with|some true=>some true|some false=>PySem.W.kitAny K (.type t) (a.map Value.type)|none=>none)=_;rw[FO K b (h c XT),List.any_cons];cases xC t c with
  |true=>rfl
  |false=>show FY K b a λc d=>h c (XM _ d)
def Co:f7:=λb a K=>match b with
 | [d,.ty c]=>(match kL a d with|some t=>c∈pL/\K (.bl (xC t c)) a|none=>False)
 | [d,.tup e]=>(match kL a d,sy e with|some t,some cl=>(∀c∈cl,c∈pL)/\K (.bl (cl.any (xC t))) a|_,_=>False)
 |_=>False
def T9:cw X (.builtin "isinstance") (ip Co):=λm s σ H L N Q I l ⟨α,U,O,K,G,F',P,r,S,q,k⟩=>by
 unfold Co at q;split at q
 . rename_i d c;split at q
   . rename_i t e;obtain⟨v,x,rfl,i,f⟩:=qE r rfl;obtain⟨u,g,rfl,h,b⟩:=vals2 l;unfold Rep at f;subst f;cases (show g=Value.type c from b);show JR I h (F9 P (CD S i e)) (FO _ (DM e) q.1) λtk=>⟨.bl (xC t c),H,I.tok tk,rfl,k.here P q.2 S (by unfold Rep;rfl)⟩
   . show q.elim
 . rename_i d W;split at q
   . rename_i t cl e F;obtain⟨v,x,rfl,i,f⟩:=qE r rfl;obtain⟨u,g,rfl,h,b⟩:=vals2 l;unfold Rep at f;obtain⟨a,M,rfl,na,E,D⟩:=f;cases (show g=Value.ref a from b);let z:=ED D F;subst z;obtain⟨Hh,Z,C,j⟩:=kitx_of I h (F9 P (CD S i e));obtain⟨Y,y,pl,T⟩:=I.tuple (kF.of (P.get E));let B:=Ec y;subst B;obtain⟨⟨J,V,w,R⟩,A,p,n,o⟩:=pl;simp only at p o;subst p o;show PySem.W.kia_tup Z I.iH C A (FY _ (DM e) cl q.1) j λtk=>⟨.bl _,H,I.tok tk,rfl,k.here P q.2 S (by unfold Rep;rfl)⟩
   . show q.elim
 . show q.elim
end
end L3
namespace L3
open PySem PySem.Spec L2 PySem.SeqAt
open PyProof.Rows hiding St
mutual
def cC:D->D->Bool
 | .au,.au=>true
 | .bl a,.bl b=>a==b
 | .bl a,.int b=>(if a then 1 else 0)==b
 | .int a,.bl b=>a==(if b then 1 else 0)
 | .int a,.int b=>a==b
 | .str a,.str b=>a==b
 | .lst d,.lst c=>jN d c
 | .tup d,.tup c=>jN d c
 |_,_=>false
def jN:List D->List D->Bool
 | [],[]=>true
 |x::xs,y::ys=>cC x y&&jN xs ys
 |_,_=>false
end
def pl:Nat->D->Bool
 |_,.au=>true
 |_,.bl _=>true
 |_,.int _=>true
 |_,.str _=>true
 |n+1,.lst a=>a.all (pl n)
 |n+1,.tup a=>a.all (pl n)
 |_,_=>false
mutual
def xS:∀(n:Nat) (d:D),pl n d=true->cC d d=true
 |_,.au,_=>rfl
 |_,.bl _,_=>by simp[cC]
 |_,.int _,_=>by simp[cC]
 |_,.str _,_=>by simp[cC]
 |n+1,.lst a,h=>by unfold cC;show vb n a (by unfold pl at h;show h)
 |n+1,.tup a,h=>by unfold cC;show vb n a (by unfold pl at h;show h)
 |0,.lst a,h=>by cases h
 |0,.tup a,h=>by cases h
 |_,.ref _,h=>by unfold pl at h;cases h
 |_,.ty _,h=>by unfold pl at h;cases h
def vb:∀(n:Nat) (xs:List D),xs.all (pl n)=true->jN xs xs=true
 |_,[],_=>by unfold jN;rfl
 |n,x::xs,h=>by
  rw[ZI,X9]at h;unfold jN;rw[xS n x h.1,vb n xs h.2];rfl
end
mutual
def Rep.inj:∀ {d e:D} {v:V} (n:Nat),pl n d=true->pl n e=true->Rep α H d v->Rep α H e v->d=e
 | .au,e,v,n,_,g,h,c=>by
   unfold Rep at h;subst h;cases e<;>first|(unfold pl at g;cases g;done)|(unfold Rep at c;cases c;rfl)|(unfold Rep at c;cases c;done)|(unfold Rep at c;obtain⟨_,_,c,_⟩:=c;cases c)|rfl|(cases c;done)|(obtain⟨_,_,c,_⟩:=c;cases c)|(obtain⟨_,_,c⟩:=c;cases c)
 | .bl b,e,v,n,_,g,h,c=>by
   unfold Rep at h;subst h;cases e<;>first|(unfold pl at g;cases g;done)|(unfold Rep at c;cases c;rfl)|(unfold Rep at c;cases c;done)|(unfold Rep at c;obtain⟨_,_,c,_⟩:=c;cases c)|(cases c;rfl)|(cases c;done)|(obtain⟨_,_,c,_⟩:=c;cases c)|(obtain⟨_,_,c⟩:=c;cases c)
 | .int b,e,v,n,_,g,h,c=>by
   unfold Rep at h;subst h;cases e<;>first|(unfold pl at g;cases g;done)|(unfold Rep at c;cases c;rfl)|(unfold Rep at c;cases c;done)|(unfold Rep at c;obtain⟨_,_,c,_⟩:=c;cases c)|(cases c;rfl)|(cases c;done)|(obtain⟨_,_,c,_⟩:=c;cases c)|(obtain⟨_,_,c⟩:=c;cases c)
 | .str b,e,v,n,_,g,h,c=>by
   unfold Rep at h;subst h;cases e<;>first|(unfold pl at g;cases g;done)|(unfold Rep at c;cases c;rfl)|(unfold Rep at c;cases c;done)|(unfold Rep at c;obtain⟨_,_,c,_⟩:=c;cases c)|(cases c;rfl)|(cases c;done)|(obtain⟨_,_,c,_⟩:=c;cases c)|(obtain⟨_,_,c⟩:=c;cases c)
 | .ty b,e,v,n,i,g,h,c=>by unfold pl at i;cases i
 | .ref b,e,v,n,i,g,h,c=>by unfold pl at i;cases i
 | .lst q,e,v,0,i,g,h,c=>by cases i
 | .tup q,e,v,0,i,g,h,c=>by cases i
 | .lst q,e,v,n+1,i,g,h,c=>by
   unfold Rep at h;obtain⟨a,t,rfl,na,k,r⟩:=h;cases e<;>unfold Rep at c<;>try(cases c;done)
   . unfold pl at g;cases g
   . obtain⟨s,l,p,m,f,j⟩:=c;cases p
     let:t=l:=by
      rcases k with k|⟨o,k⟩<;>rcases f with f|⟨u,f⟩<;>(rw[k]at f;first|(cases f;rfl)|(cases f;done))
     subst this;rw[aG.inj n (by unfold pl at i;show i) (by unfold pl at g;show g) r j]
   . obtain⟨s,l,p,m,f,j⟩:=c;cases p;rcases k with k|⟨o,k⟩<;>(rw[k]at f;cases f)
 | .tup q,e,v,n+1,i,g,h,c=>by
   unfold Rep at h;obtain⟨a,t,rfl,na,k,r⟩:=h;cases e<;>unfold Rep at c<;>try(cases c;done)
   . unfold pl at g;cases g
   . obtain⟨s,l,p,m,f,j⟩:=c;cases p;rcases f with f|⟨o,f⟩<;>(rw[k]at f;cases f)
   . obtain⟨s,l,p,m,f,j⟩:=c;cases p;rw[k]at f;cases f;rw[aG.inj n (by unfold pl at i;show i) (by unfold pl at g;show g) r j]
def aG.inj:∀ {f a:List D} {vs:List V} (n:Nat),f.all (pl n)=true->a.all (pl n)=true->aG α H f vs->aG α H a vs->f=a
 | [],a,vs,n,_,_,c,b=>by
   unfold aG at c;subst c;cases a with
   |nil=>rfl
   |cons e a=>unfold aG at b;obtain⟨_,_,h,_⟩:=b;cases h
 |d::f,a,vs,n,i,g,c,b=>by
  unfold aG at c;obtain⟨v,r,rfl,k,j⟩:=c;cases a with
  |nil=>unfold aG at b;cases b
  |cons e a=>
   unfold aG at b;obtain⟨o,p,h,m,l⟩:=b;cases h;rw[ZI,X9]at i g;rw[Rep.inj n i.1 g.1 k m,aG.inj n i.2 g.2 j l]
end
def pR:∀ {a ys:List D},a.length≠ys.length->jN a ys=false
 | [],[],h=>absurd rfl h
 | [],_::_,_=>by unfold jN;rfl
 |_::_,[],_=>by unfold jN;rfl
 |x::a,y::ys,h=>by
  unfold jN;rw[pR (by simpa using h),abM]
def pQ:∀ {a ys:List D},a.length=ys.length->jN a ys=(List.range a.length).all λj=>cC (a.getD j .au) (ys.getD j .au)
 | [],[],_=>by unfold jN;rfl
 | [],_::_,h=>by cases h
 |_::_,[],h=>by cases h
 |x::a,y::ys,h=>by
  unfold jN;rw[XH,Y1,ZI,List.all_map,pQ (by simpa using h)];rfl
section
variable {X:Cx}{pins:List (Addr×Obj)}{σ:L2.St}{H:Hp}{s:Shared}{α:List (Option Addr)}
def jM{a:List D}{aq:List Value}(r:aG α H a vs)(v:Vals vs aq)(j:Nat)(g:j<aq.length):∃x,a[j]?=some (a.getD j .au)/\Rep α H (a.getD j .au) x/\RelV x aq[j]:=by
 let i:=r.length;let h:=v.length;let c:j<a.length:=by lia
 let e:a[j]?=some (a.getD j .au):=by rw[Xv c,Xw,Xv c];rfl
 obtain⟨x,q,f⟩:=r.get e;obtain⟨u,b,d⟩:=v.get q;rw[Xv g]at b;cases b;show⟨x,e,f,d⟩
def kr{a:List D}(h:a.all (pl n)=true)(j:Nat):pl n (a.getD j .au)=true:=by
 rw[Xw];cases e:a[j]? with
 |none=>cases n<;>rfl
 |some d=>show Yi.mp h d (XO e)
def Be:D->Bool
 | .au=>true
 | .bl _=>true
 | .int _=>true
 | .str _=>true
 |_=>false
def Fx{d e:D}(h:Be d=true)(g:Be e=true)(f:Rep α H d x)(c:Rep α H e y)(b:RelV x u)(a:RelV y v):RcAt A s u v (cC d e)/\EqAt A s u v (cC d e):=by
 cases d<;>cases e<;>try(first|(cases h;done)|(cases g;done))
 all_goals(unfold Rep at f c;subst f c)
 all_goals(first|(obtain⟨t,rfl⟩:=b;obtain⟨i,rfl⟩:=a)|(obtain⟨t,rfl⟩:=b;cases a)|(cases b;obtain⟨t,rfl⟩:=a)|(cases b;cases a))
 all_goals unfold cC
 . show⟨RcAt.none_none,EqAt.same _⟩
 . show⟨RcAt.none_bool _,EqAt.none_bool _⟩
 . show⟨RcAt.none_int _ _,EqAt.none_int _ _⟩
 . show⟨RcAt.none_str _ _,EqAt.none_str _ _⟩
 . show⟨RcAt.bool_none _,EqAt.bool_none _⟩
 . show⟨RcAt.bool_bool _ _,EqAt.bool_bool _ _⟩
 . show⟨RcAt.bool_int _ _ _,EqAt.bool_int _ _ _⟩
 . show⟨RcAt.bool_str _ _ _,EqAt.bool_str _ _ _⟩
 . show⟨RcAt.int_none _ _,EqAt.int_none _ _⟩
 . show⟨RcAt.int_bool _ _ _,EqAt.int_bool _ _ _⟩
 . show⟨RcAt.int_int _ _ _ _,EqAt.int_int _ _ _ _⟩
 . show⟨RcAt.int_str _ _ _ _,EqAt.int_str _ _ _ _⟩
 . show⟨RcAt.str_none _ _,EqAt.str_none _ _⟩
 . show⟨RcAt.str_bool _ _ _,EqAt.str_bool _ _ _⟩
 . show⟨RcAt.str_int _ _ _ _,EqAt.str_int _ _ _ _⟩
 . show⟨RcAt.str_str _ _ _ _,EqAt.str_str _ _ _ _⟩
def lst_is(I:Inv X pins σ H s)(r:Rep α H (.lst b) x)(c:RelV x u):∃a vs aq,u= .ref a/\aG α H b vs/\Vals vs aq/\s.heap.IsList a aq.toArray:=by
 unfold Rep at r;obtain⟨a,vs,rfl,na,f,e⟩:=r;cases c;obtain⟨z,aq,n,d,h,g⟩:=Inv.zK I f;show⟨a,vs,aq,rfl,e,d,⟨_,g,rfl,n,rfl⟩⟩
def tup_is(I:Inv X pins σ H s)(r:Rep α H (.tup b) x)(c:RelV x u):∃a vs aq,u= .ref a/\aG α H b vs/\Vals vs aq/\s.heap.IsTuple a aq.toArray:=by
 unfold Rep at r;obtain⟨a,vs,rfl,na,f,d⟩:=r;cases c;obtain⟨aq,e,p,g⟩:=I.tuple (kF.of f);show⟨a,vs,aq,rfl,d,e,p⟩
def Bq(I:Inv X pins σ H s){A:Around}{e:D}(j:Be e=true)(i:Rep α H (.lst d) x)(g:Rep α H e y)(h:RelV x u)(f:RelV y v)(b:A.units<cLine):
 (RcAt A s u v (cC (.lst d) e)/\EqAt A s u v (cC (.lst d) e))/\RcAt A s v u (cC e (.lst d))/\EqAt A s v u (cC e (.lst d)):=by
 obtain⟨a,k,l,rfl,_,_,c⟩:=lst_is I i h;cases e<;>try(cases j;done)
 all_goals(unfold Rep at g;subst g)
 all_goals(first|(obtain⟨t,rfl⟩:=f)|(cases f))
 all_goals unfold cC
 . show⟨⟨RcAt.list_none c b,EqAt.list_none c b⟩,RcAt.none_list c b,EqAt.none_list c b⟩
 . show⟨⟨RcAt.list_bool _ c b,EqAt.list_bool _ c b⟩,RcAt.bool_list _ c b,EqAt.bool_list _ c b⟩
 . show⟨⟨RcAt.list_int _ _ c b,EqAt.list_int _ _ c b⟩,RcAt.int_list _ _ c b,EqAt.int_list _ _ c b⟩
 . show⟨⟨RcAt.list_str _ _ c b,EqAt.list_str _ _ c b⟩,RcAt.str_list _ _ c b,EqAt.str_list _ _ c b⟩
def AF(I:Inv X pins σ H s){A:Around}{e:D}(j:Be e=true)(i:Rep α H (.tup d) x)(g:Rep α H e y)(h:RelV x u)(f:RelV y v)(b:A.units<cLine):
 (RcAt A s u v (cC (.tup d) e)/\EqAt A s u v (cC (.tup d) e))/\RcAt A s v u (cC e (.tup d))/\EqAt A s v u (cC e (.tup d)):=by
 obtain⟨a,k,l,rfl,_,_,c⟩:=tup_is I i h;cases e<;>try(cases j;done)
 all_goals(unfold Rep at g;subst g)
 all_goals(first|(obtain⟨t,rfl⟩:=f)|(cases f))
 all_goals unfold cC
 . show⟨⟨RcAt.tuple_none c b,EqAt.tuple_none c b⟩,RcAt.none_tuple c b,EqAt.none_tuple c b⟩
 . show⟨⟨RcAt.tuple_bool _ c b,EqAt.tuple_bool _ c b⟩,RcAt.bool_tuple _ c b,EqAt.bool_tuple _ c b⟩
 . show⟨⟨RcAt.tuple_int _ _ c b,EqAt.tuple_int _ _ c b⟩,RcAt.int_tuple _ _ c b,EqAt.int_tuple _ _ c b⟩
 . show⟨⟨RcAt.tuple_str _ _ c b,EqAt.tuple_str _ _ c b⟩,RcAt.str_tuple _ _ c b,EqAt.str_tuple _ _ c b⟩
def Gb{d e:D}(f:pl n d=true)(m:pl n e=true)(k:Rep α H d x)(j:Rep α H e y)(i:RelV x (.ref a))(g:RelV y (.ref b))(h:RcAt A s (.ref a) (.ref b) (cC d e)):
 RcAt A s (.ref a) (.ref b) (cC d e)/\EqAt A s (.ref a) (.ref b) (cC d e):=by
 show⟨h,?_⟩;by_cases c:a=b
 . subst c;let l:x=y:=RelV.inj i g;subst l;let:=Rep.inj n f m k j;subst this;rw[xS n d f];show EqAt.same _
 . show EqAt.of_refs c h
def Cr(I:Inv X pins σ H s):∀(n:Nat) (A:Around) (d e:D) (x y:V) (u v:Value),pl n d=true->pl n e=true->Rep α H d x->Rep α H e y->RelV x u->RelV y v->A.units+n<cLine->
 RcAt A s u v (cC d e)/\EqAt A s u v (cC d e):=by
 intro n;induction n with
 |zero=>
  intro A d e x y u v w m l k i h hu;show Fx ?_ ?_ l k i h
  . cases d<;>first|rfl|(cases w)
  . cases e<;>first|rfl|(cases m)
 |succ n ih=>
  intro A d e x y u v w m l k i h hu;let c:A.units<cLine:=by lia
  let P:A.in1.units+n<cLine:=by rw[abu];lia
  cases d<;>try(cases w;done)
  case lst xs=>
   cases e<;>try(cases m;done)
   case lst ys=>
    have G:=l;let F:=k;let E:=i;let C:=h;obtain⟨a,R,r,rfl,K,B,q⟩:=lst_is I l i;obtain⟨b,Q,f,rfl,J,z,o⟩:=lst_is I k h;let e1:=K.length;let e2:=B.length;let e3:=J.length;let e4:=z.length;show Gb w m G F E C ?_;unfold cC;by_cases g:xs.length=ys.length
    . rw[pQ g];let t:r.toArray.size=f.toArray.size:=by simp![Xy];lia
      let W:xs.length=r.toArray.size:=by simp![Xy];lia
      rw[W];show RcAt.lists q o t c λj h1 Z=>?_;let O:j<r.length:=by simpa using h1
      let N:j<f.length:=by simpa using Z
      obtain⟨p,_,T,S⟩:=jM K B j O;obtain⟨U,_,M,L⟩:=jM J z j N;show(ih A.in1 _ _ p U _ _ (kr (by unfold pl at w;show w) j) (kr (by unfold pl at m;show m) j) T M (by simpa using S) (by simpa using L) P).2
    . rw[pR g];show RcAt.lists_lengths q o (by simp![Xy,aaR,ne_eq];lia) c
   case tup ys=>
    obtain⟨a,R,r,rfl,K,B,q⟩:=lst_is I l i;obtain⟨b,Q,f,rfl,J,z,o⟩:=tup_is I k h;unfold cC;show⟨RcAt.list_tuple q o c,EqAt.list_tuple q o c⟩
   all_goals show(Bq I rfl l k i h c).1
  case tup xs=>
   cases e<;>try(cases m;done)
   case tup ys=>
    have G:=l;let F:=k;let E:=i;let C:=h;obtain⟨a,R,r,rfl,K,B,q⟩:=tup_is I l i;obtain⟨b,Q,f,rfl,J,z,o⟩:=tup_is I k h;let e1:=K.length;let e2:=B.length;let e3:=J.length;let e4:=z.length;show Gb w m G F E C ?_;unfold cC
    let key:=RcAt.tuples (e:=λj=>cC (xs.getD j .au) (ys.getD j .au)) q o c λj h1 Z=>by
     let O:j<r.length:=by simpa using h1
     let N:j<f.length:=by simpa using Z
     obtain⟨p,_,T,S⟩:=jM K B j O;obtain⟨U,_,M,L⟩:=jM J z j N;show(ih A.in1 _ _ p U _ _ (kr (by unfold pl at w;show w) j) (kr (by unfold pl at m;show m) j) T M (by simpa using S) (by simpa using L) P).2
    by_cases g:xs.length=ys.length
    . rw[pQ g];let t:r.toArray.size=f.toArray.size:=by simp![Xy];lia
      let W:xs.length=r.toArray.size:=by simp![Xy];lia
      rw[t,ab1,aaE,abX,<-t,<-W]at key;show key
    . rw[pR g];let Y:(r.toArray.size==f.toArray.size)=false:=by simp![Xy,Zc,ne_eq];lia
      rw[Y,abM]at key;show key
   case lst ys=>
    obtain⟨a,R,r,rfl,K,B,q⟩:=tup_is I l i;obtain⟨b,Q,f,rfl,J,z,o⟩:=lst_is I k h;unfold cC;show⟨RcAt.tuple_list q o c,EqAt.tuple_list q o c⟩
   all_goals show(AF I rfl l k i h c).1
  all_goals
   cases e<;>try(cases m;done)
   case lst ys=>show(Bq I rfl k l h i c).2
   case tup ys=>show(AF I rfl k l h i c).2
   all_goals show Fx rfl rfl l k i h
def Ro:dg:=λx y a K=>pl 40 x=true/\pl 40 y=true/\K (.bl (cC x y)) a
def V7{k:Nat}(g:cU k X.A):cm X (compareOp .Eq) (LR Ro):=λpins s σ H x y v u Q I b a ⟨α,d,e,h,K,G,j,P,f,c,S,q,k⟩=>by
 let i:=g.units;show(Cr I 40 X.A d e x y v u q.1 q.2.1 (f.mono P.same) (c.mono P.same) b a (by lia)).1 _ _ _ _ ⟨.bl (cC d e),H,I,rfl,k.here P q.2.2 S (by unfold Rep;rfl)⟩
def QL:dg:=λx y a K=>match x,y with
 | .int i,.int j=>K (.bl (!decide (i=j))) a
 | .bl i,.bl j=>K (.bl (!decide (i=j))) a
 | .str i,.str j=>K (.bl (!decide (i=j))) a
 |_,_=>False
def VY:cm X (compareOp .NotEq) (LR QL):=cm.imp Vh λx y H Q ⟨α,d,e,c,K,G,f,P,b,a,S,q,k⟩=>by
 cases d<;>cases e<;>try show q.elim
 all_goals(unfold Rep at b a;subst b a)
 . show⟨rfl,k.here P q S (by unfold Rep;congr 2;show aaa.mpr ⟨λh=>by cases h;rfl,λh=>by rw[h]⟩)⟩
 . show⟨rfl,k.here P q S (by unfold Rep;congr 2;show aaa.mpr ⟨λh=>by cases h;rfl,λh=>by rw[h]⟩)⟩
 . show⟨rfl,k.here P q S (by unfold Rep;congr 2;show aaa.mpr ⟨λh=>by cases h;rfl,λh=>by rw[h]⟩)⟩
end
end L3
namespace L3
open PySem PySem.Spec L2
open PyProof.Rows hiding St
def LC(α:List (Option Addr))(G F:Hp)(K:cz->ag->Prop)(Q:L2.St->Hp->Prop):Prop:=∀a b,K a b->∀d c f e,Step α G d c->cG c F f->fv d c a e->aY d b c->Q e f
structure Cd(α:List (Option Addr))(G F:Hp)(DD:m7)(D:Ends):Prop where
 nx:LC α G F DD.nx D.nx
 rt:LK α G F DD.rt D.rt
 bk:LC α G F DD.bk D.bk
 ct:LC α G F DD.ct D.ct
inductive Vw(t:DS)(D:Ends)(σ:L2.St)(H:Hp):Prop
 |mk (α:List (Option Addr)) (σd:cz) (st:ag) (DD:m7) (G F:Hp) (P:cG G F H) (R:fv α G σd σ) (S:aY α st G) (h:t DD σd st) (k:Cd α G F DD D):Vw t D σ H
def LS(t:DS):TS:=Vw t
def LC.at{α b:List (Option Addr)}{G F c:Hp}{K:cz->ag->Prop}{Q:L2.St->Hp->Prop}(h:LC α G F K Q)(s:Step α G b c):LC b c F K Q:=λd a k e i g v f P R S=>h d a k e i g v (s.trans f) P R S
def LC.here{α:List (Option Addr)}{G F H:Hp}{K:cz->ag->Prop}{Q:L2.St->Hp->Prop}(h:LC α G F K Q)(P:cG G F H){a:cz}{st:ag}{σ:L2.St}(k:K a st)(R:fv α G a σ)(S:aY α st G):Q σ H:=h a st k α G H σ Step.refl P R S
def Cd.at{D:Ends}(h:Cd α G F c D)(s:Step α G a b):Cd a b F c D:=⟨h.nx.at s,h.rt.at s,h.bk.at s,h.ct.at s⟩
section
variable {X:Cx}{a b c e o i:Expr}{es:List Expr}{ta tb tc te:DE}{pos:Pos}{st:Stmt}{sts:List Stmt}{t u:DS}
def PS.imp{t t':TS}(h:PS X st t)(f:∀D σ H,t' D σ H->t D σ H):PS X st t':=λd s σ H D I q=>h d s σ H D I (f D σ H q)
def ja.imp{t t':TS}(h:ja X sts t)(f:∀D σ H,t' D σ H->t D σ H):ja X sts t':=λd s σ H D I q=>h d s σ H D I (f D σ H q)
def cJ:DS:=λD σ st=>D.nx σ st
def ay(t u:DS):DS:=λD σ st=>t {D with nx:=u D} σ st
def OQ:ja X [] (LS cJ):=ja.imp OK λD σ H ⟨α,d,st,f,G,F,P,R,S,t,k⟩=>k.nx.here P t R S
def Pa(h:PS X st (LS t)):ja X [st] (LS t):=OJ h
def M0(h:PS X st (LS t))(m:ja X sts (LS u)):ja X (st::sts) (LS (ay t u)):=ja.imp (LF h m) λD σ H ⟨α,g,st,v,G,F,P,R,S,t,k⟩=>
 ⟨α,g,st,_,G,F,P,R,S,t,λd f q j s x w l r p n=>⟨j,d,f,v,s,F,r,p,n,q,k.at l⟩,k.rt,k.bk,k.ct⟩
def aU(te:DE):DS:=λD σ st=>te σ st D.rt
def Sw(h:PE X e (LE te)):PS X (.Return (some e) pos) (LS (aU te)):=PS.imp (Q3 h) λD σ H ⟨α,d,st,f,G,F,P,R,S,t,k⟩=>⟨α,d,st,_,G,F,P,R,S,t,k.rt⟩
def gf(te:DE):DS:=λD σ st=>te σ st λ_ d=>D.nx σ d
def OC(h:PE X e (LE te))(l:swapsWith e none pos.line X.env=pure false:=by rfl):PS X (.Expr e pos) (LS (gf te)):=PS.imp (PB h l) λD σ H ⟨α,g,st,w,G,F,P,R,S,t,k⟩=>
 ⟨α,g,st,_,G,F,P,R,S,t,λd j q p s H1 v f n m r=>(k.nx.at f).here n q (R.step f) m⟩
def di(c:DT)(t u:DS):DS:=λD σ st=>c σ st λb d=>if b=true then t D σ d else u D σ d
def UE{tc:DT}(p:PT X c (LT tc))(s:ja X x (LS t))(r:ja X y (LS u)):PS X (.If c x y pos) (LS (di tc t u)):=PS.imp (Vg p s r) λD σ H ⟨α,g,st,n,G,F,P,R,S,t,k⟩=>by
 show⟨α,g,st,_,G,F,P,R,S,t,λb d q h m H1 f l j=>?_⟩;cases b with
 |true=>show⟨h,g,d,n,m,F,l,R.step f,j,q,k.at f⟩
 |false=>show⟨h,g,d,n,m,F,l,R.step f,j,q,k.at f⟩
abbrev fK:=D->cz->Option cz
def cB(i:Nat):fK:=λd σ=>some (σ.set i (some d))
def gT(i j:Nat):fK:=λd σ=>match d with| .tup [x,y]=>some ((σ.set i (some x)).set j (some y))|_=>none
inductive VM(t:fK)(v:V)(σ:L2.St)(H:Hp)(Q:L2.St->Hp->Prop):Prop
 |mk (α:List (Option Addr)) (σd:cz) (st:ag) (d:D) (K:cz->ag->Prop) (G F:Hp) (P:cG G F H) (R:fv α G σd σ) (S:aY α st G) (r:Rep α G d v) (h:∃σ',t d σd=some σ'/\K σ' st) (k:LC α G F K Q):VM t v σ H Q
def LG(t:fK):TG:=VM t
def PG.imp{g:Expr}{t t':TG}(h:PG X g t)(f:∀v σ H Q,t' v σ H Q->t v σ H Q):PG X g t':=λd s σ H v u Q I r q=>h d s σ H v u Q I r (f v σ H Q q)
def PJ{i:Nat}(h:PG X f (gR i)):PG X f (LG (cB i)):=PG.imp h λv σ H Q ⟨α,g,st,d,K,G,F,P,R,S,r,⟨j,e,q⟩,k⟩=>by
 cases e;show k.here P q (R.set i r) S
def SF{i j:Nat}(h:PG X f (HX X.K 2 (nh (gR i) (nh (gR j) Hf)))):PG X f (LG (gT i j)):=PG.imp h λv σ H Q ⟨α,w,st,d,K,G,F,P,R,S,r,⟨z,e,q⟩,k⟩=>by
 unfold gT at e;split at e
 . rename_i x y;cases e;unfold Rep at r;obtain⟨a,A,rfl,na,s,p⟩:=r;obtain⟨l,g,rfl,n,m⟩:=qE p rfl;show⟨a,_,rfl,.of (P.get s),rfl,l,_,rfl,g,_,rfl,rfl,k.here P q ((R.set i n).set j m) S⟩
 . cases e
def aL(i:Nat)(te:DE):DS:=λD σ st=>te σ st λd f=>D.nx (σ.set i (some d)) f
def QX{i:Nat}(h:PS X st (p8 (LE te) (gR i))):PS X st (LS (aL i te)):=PS.imp h λD σ H ⟨α,g,st,s,G,F,P,R,S,t,k⟩=>
 ⟨α,g,st,_,G,F,P,R,S,t,λd j q p r H1 v f n m l=>(k.nx.at f).here n q ((R.step f).set i l) m⟩
def GO(h:fK)(te:DE):DS:=λD σ st=>te σ st λd f=>∃g,h d σ=some g/\D.nx g f
def Rf(h:PS X st (p8 (LE te) (LG j))):PS X st (LS (GO j te)):=PS.imp h λD σ H ⟨α,g,st,w,G,F,P,R,S,t,k⟩=>
 ⟨α,g,st,_,G,F,P,R,S,t,λd f q m s H1 v l r p n=>⟨m,g,f,d,w.nx,s,F,r,R.step l,p,n,q,k.nx.at l⟩⟩
def GV(i:Nat)(r:dg)(te:DE):DS:=λD σ st=>match σ[i]? with|some (some x)=>te σ st λy f=>r x y f λz d=>D.nx (σ.set i (some z)) d|_=>False
def DH(f:Int->Int->Int):dg:=λx y st K=>match x,y with| .int i,.int j=>K (.int (f i j)) st|_,_=>False
def Ss{i:Nat}{f:Int->Int->Int}(h:PS X st (Tt i (LE te) (IW f))):PS X st (LS (GV i (DH f) te)):=PS.imp h λD σ H ⟨α,l,st,A,G,F,P,R,S,t,k⟩=>by
 unfold GV at t;split at t
 . rename_i x e;obtain⟨v,ev,d⟩:=R.at' i x e;show⟨v,ev,α,l,st,_,G,F,P,R,S,t,λy m q s z H1 w g r p j=>?_⟩;cases x<;>cases y<;>try show q.elim
   let n:=d;unfold Rep at d j;show⟨_,_,d,j,(k.nx.at g).here r q ((R.step g).set i (by unfold Rep;rfl)) p⟩
 . show t.elim
def xR(x y d:D)(st:ag)(K:ag->Prop):Prop:=match x,y with
 | .ref n,.int k=>(match st[n]? with
   |some (.lst f)=>(match ke f.length k with|some j=>K (st.set n (.lst (f.set j d)))|none=>False)
   |_=>False)
 |_,_=>False
def Tg(to k te:DE):DS:=λD σ st=>te σ st λd j=>to σ j λx h=>k σ h λy g=>xR x y d g λf=>D.nx σ f
def MW(h:PS X st (p8 (LE te) (Il (LE to) (LE I) BS))):PS X st (LS (Tg to I te)):=PS.imp h λD σ H ⟨α,g,st,DD,G,F,P,R,S,t,k⟩=>by
 show⟨α,g,st,_,G,F,P,R,S,t,λd z q O G1 H1 v r P1 S1 V=>?_⟩;show⟨O,g,z,_,G1,F,P1,R.step r,S1,q,λx w W N G2 H2 v2 m P2 S2 U=>?_⟩;show⟨N,g,w,_,G2,F,P2,(R.step r).step m,S2,W,λy Q f E G3 H3 v3 l P3 M K=>?_⟩;cases x<;>cases y<;>try show f.elim
 rename_i n Y;unfold xR at f;simp only at f;split at f
 . rename_i xs e;split at f
   . rename_i j Z;obtain⟨p,C,s,L,J⟩:=M.ik e;let A:=d7 C (U.step l);subst A;unfold Rep at K;let B:some p∈E:=XO C;let T:=(V.step m).step l;show⟨p,s,Y,j,rfl,K,P3.get L,by rw[<-J.length];show Z,?_⟩;show(((k.nx.at r).at m).at l) g _ f E (upd G3 p (.lst (s.set j v))) _ σ (Step.write B) (P3.write L) ((((R.step r).step m).step l).step (Step.write B)) ?_;show M.write C ⟨s.set j v,a_,(bL.mpr (tL T j (bL.mp J))).step (Step.write B)⟩
   . show f.elim
 . show f.elim
def m6(c:DT)(tb:DS):DS:=λD σ st=>∃W:Nat->cz->ag->Prop,(∃m,W m σ st)/\∀m σ st,W m σ st->
 c σ st λb f=>if b=true then tb {D with nx:=λh d=>∃g,g<m/\W g h d,ct:=λh d=>∃g,g<m/\W g h d,bk:=D.nx} σ f else D.nx σ f
def Mp{tc:DT}(h:PS X st (Jt (LT tc) (LS t))):PS X st (LS (m6 tc t)):=PS.imp h λD σ H ⟨α,T,st,DD,G,F,P,R,S,⟨W,⟨m0,w0⟩,v⟩,k⟩=>by
 show⟨λm y A=>∃n d f g,Step α G n g/\cG g F A/\fv n g d y/\aY n f g/\W m d f,⟨m0,α,T,st,G,Step.refl,P,R,S,w0⟩,?_⟩;rintro m σ1 H1 ⟨Y,l,w,G1,x,P1,M,S1,Z⟩;show⟨Y,l,w,_,G1,F,P1,M,S1,v m l w Z,λb E q V G2 H2 r Q O=>?_⟩;cases b with
 |false=>show((k.nx.at x).at r).here Q q (M.step r) O
 |true=>
  show⟨λy A=>∃s,s<m/\∃n d f g,Step α G n g/\cG g F A/\fv n g d y/\aY n f g/\W s d f,λy A z=>z,?_⟩;show⟨V,l,E,_,G2,F,Q,M.step r,O,q,?_⟩;show⟨?_,(k.rt.at x).at r,(k.nx.at x).at r,?_⟩
  . rintro j p ⟨s,J,C⟩ B N H3 U I P3 L K;show⟨s,J,B,j,p,N,(x.trans r).trans I,P3,L,K,C⟩
  . rintro j p ⟨s,J,C⟩ B N H3 U I P3 L K;show⟨s,J,B,j,p,N,(x.trans r).trans I,P3,L,K,C⟩
abbrev DI:=cz->ag->(List D->(ag->Prop)->ag->Prop)->Prop
structure vc(J:It)(α:List (Option Addr))(G:Hp)(ok:ag->Prop)(xs:List D):Prop where
 stop:∀(n:Nat) α' G' F' H' st',Step α G α' G'->cG G' F' H'->aY α' st' G'->ok st'->xs.length<=n->J.stop n H'
 go:∀(n:Nat) d α' G' F' H' st',Step α G α' G'->cG G' F' H'->aY α' st' G'->ok st'->xs[n]?=some d->J.go n H'
 qh:∀(n:Nat) d α' G' F' H' st' x H'',Step α G α' G'->cG G' F' H'->aY α' st' G'->ok st'->xs[n]?=some d->J.qh n H' x H''->∃G'',Step α' G' α' G''/\cG G'' F' H''/\aY α' st' G''/\Rep α' G'' d x
def LI(t:DI):TI:=λσ H R=>∃α h st K G F,cG G F H/\fv α G h σ/\aY α st G/\t h st K/\∀j ok d,K j ok d->∀J g f H1,Step α G g f->cG f F H1->aY g d f->vc J g f ok j->R J H1
def D2(d:D)(f:ag)(K:List D->(ag->Prop)->ag->Prop):Prop:=match d with
 | .lst g=>K g (λ_=>True) f
 | .tup g=>K g (λ_=>True) f
 | .ref n=>(match f[n]? with|some (.lst g)=>K g (λh=>h[n]?=some (.lst g)) f|_=>False)
 |_=>False
def Us(t:DE):DI:=λσ st K=>t σ st λd f=>D2 d f K
def FZ{K:PySem.W.Frag}{a:Addr}{α:List (Option Addr)}{G:Hp}{ok:ag->Prop}{p:List D}
 (h:∀j g f,Step α G j g->aY j f g->ok f->∃vs,Rd g a (.lst vs)/\aG j g p vs):vc (QU K a) α G ok p where
 stop:=λn j g w q f s P S o k=>by
  obtain⟨vs,m,l⟩:=h j g f s S o;show⟨vs,.inl (iJ P m),by rw[<-l.length];show k⟩
 go:=λn d j g w q f s P S o k=>by
  obtain⟨vs,m,l⟩:=h j g f s S o;obtain⟨v,e,_⟩:=l.get k;show⟨vs,v,.inl (iJ P m),e⟩
 qh:=λn d j g w q f x z s P S o k y=>by
  obtain⟨vs,m,l⟩:=h j g f s S o;obtain⟨v,e,r⟩:=l.get k;obtain⟨rfl,y⟩:=y;let:=y vs (.inl (iJ P m));rw[e]at this;cases this;show⟨g,Step.refl,P,S,r⟩
def S8{K:PySem.W.Frag}{a:Addr}{α:List (Option Addr)}{G:Hp}{ok:ag->Prop}{p:List D}
 (h:∀j g f,Step α G j g->aY j f g->ok f->∃vs,g a=some (.tup vs)/\aG j g p vs):vc (Sd K a) α G ok p where
 stop:=λn j g w q f s P S o k=>by
  obtain⟨vs,m,l⟩:=h j g f s S o;show⟨vs,.of (P.get m),by rw[<-l.length];show k⟩
 go:=λn d j g w q f s P S o k=>by
  obtain⟨vs,m,l⟩:=h j g f s S o;obtain⟨v,e,_⟩:=l.get k;show⟨vs,v,.of (P.get m),e⟩
 qh:=λn d j g w q f x z s P S o k y=>by
  obtain⟨vs,m,l⟩:=h j g f s S o;obtain⟨v,e,r⟩:=l.get k;obtain⟨rfl,y⟩:=y;let:=y vs (.of (P.get m));rw[e]at this;cases this;show⟨g,Step.refl,P,S,r⟩
def Ng{a:Addr}{g:List D}(s:Step α G f d)(na:some a∉α)(k:Rd G a (.lst vs))(j:aG α G g vs):Rd d a (.lst vs)/\aG f d g vs:=by
 show⟨?_,j.step s⟩;rcases k with h|⟨o,h⟩
 . show .inl (s.ext _ _ na h)
 . show .inr ⟨o,s.ext _ _ na h⟩
def Ti(hl:PE X l (LE tl)):PI X O l (LI (Us tl)):=by
 intro j s σ H R I h;obtain⟨α,σd,st,K,G,F,P,RS,S,t,k⟩:=h;show cj (hl j s σ H (λx H1=>∃d w r f,Step α G w r/\cG r F H1/\aY w f r/\Rep w r d x/\D2 d f K) I ⟨α,σd,st,_,G,F,P,RS,S,t,λd f q w r H1 v g A E D=>⟨d,w,r,f,g,A,E,D,q⟩⟩) λv g ⟨x,H1,B,Z,d,w,r,f,C,A,E,D,q⟩=>?_;unfold D2 at q
 let y:∀ {a:Addr} {m:List V},x= .ref a->Rd H1 a (.lst m)->R (QU X.K a) H1->wpAny (model X.prog X.w) X.A (pyIter v) (Nx X j σ O R) X.xe g:=by
  intro a m ex U W;subst ex;cases Z;obtain⟨aq,rv,p,hz⟩:=B.list (.inl U);show aay p.isList ?_;show⟨g.heap.objs.size,[g.heap.objs.size],_,_,H1,rfl,B.kept (t':=g.toks) λb o e=>Xj _ e,Km a _,⟨_,XE _ rfl,rfl,rfl⟩,λb M=>?_,W⟩;let e:b=g.heap.objs.size:=by simpa using M
  subst e;show B.uR (Xl _) (B.aK.fresh (Xl _))
 let J:∀ {a:Addr} {m:List V},x= .ref a->H1 a=some (.tup m)->R (Sd X.K a) H1->wpAny (model X.prog X.w) X.A (pyIter v) (Nx X j σ O R) X.xe g:=by
  intro a m ex U W;subst ex;cases Z;obtain⟨aq,rv,p,hz⟩:=B.tuple (kF.of U);show ZM (show g.heap.IsTuple a aq.toArray from p) ?_;show⟨g.heap.objs.size,[g.heap.objs.size],_,_,H1,rfl,B.kept (t':=g.toks) λb o e=>Xj _ e,Ii a _,⟨_,XE _ rfl,rfl,rfl⟩,λb M=>?_,W⟩;let e:b=g.heap.objs.size:=by simpa using M
  subst e;show B.uR (Xl _) (B.aK.fresh (Xl _))
 cases d<;>try show q.elim
 . rename_i n;simp only at q;split at q
   . rename_i xs e;obtain⟨a,ea,m,h1,h2⟩:=E.ik e;let T:=d7 ea D;subst T;show y rfl (iJ A (.of h1)) (k _ _ f q _ w r H1 C A E (FZ λY G' L s S o=>?_));obtain⟨b,eb,ws,g1,g2⟩:=S.ik o
     let M:b=a:=by
      rcases s.pre _ _ ea with z|z<;>(rw[z]at eb;cases eb)
      rfl
     subst M;show⟨ws,.of g1,g2⟩
   . show q.elim
 . unfold Rep at D;obtain⟨a,m,rfl,na,N,Q⟩:=D;show y rfl (iJ A N) (k _ _ f q _ w r H1 C A E (FZ λY G' L s S o=>⟨m,Ng s na N Q⟩))
 . unfold Rep at D;obtain⟨a,m,rfl,na,N,Q⟩:=D;show J rfl (A.get N) (k _ _ f q _ w r H1 C A E (S8 λY G' L s S o=>⟨m,s.ext _ _ na N,Q.step s⟩))
def dS(d:Int)(n:Nat):List D:=(List.range n).map λ(k:Nat)=>D.int (d+(k:Int))
def yi{n k:Nat}:(dS d n)[k]?=if k<n then some (.int (d+(k:Int)))else none:=by
 unfold dS;rw[XB];by_cases h:k<n
 . rw[aah h,Xr h];rfl
 . rw[ZU (by simpa using h),Xn h];rfl
def iq:(dS d n).length=n:=by unfold dS;simp
def Dm{k:Int}:vc (AY k n) α G (λ_=>True) (dS k n) where
 stop:=λm j h p l g s P S o f=>by rw[iq]at f;show f
 go:=λm d j h p l g s P S o f=>by
  rw[yi]at f;split at f
  . assumption
  . cases f
 qh:=λm d j h p l g x q s P S o f y=>by
  obtain⟨rfl,rfl⟩:=y;rw[yi]at f;split at f
  . cases f;show⟨h,Step.refl,P,S,by unfold Rep;rfl⟩
  . cases f
def PI.imp{t t':TI}(h:PI X j d t)(f:∀σ H R,t' σ H R->t σ H R):PI X j d t':=λg s σ H R I q=>h g s σ H R I (f σ H R q)
def NH(f:List D)(d:ag)(K:List D->(ag->Prop)->ag->Prop):Prop:=match f with
 | [.int j]=>(-(2^62)<=j/\j<2^62)/\K (dS 0 j.toNat) (λ_=>True) d
 |_=>False
def Nr(f:List D)(d:ag)(K:List D->(ag->Prop)->ag->Prop):Prop:=match f with
 | [.int i,.int j]=>(-(2^62)<=i/\i<2^62/\ -(2^62)<=j/\j<2^62)/\K (dS i (j-i).toNat) (λ_=>True) d
 |_=>False
def Qc(t:DA):DI:=λσ st K=>t σ st λf d=>NH f d K
def Qu(t:DA):DI:=λσ st K=>t σ st λf d=>Nr f d K
def Jh{t:DA}(h:PI X l d (GG (LA t))):PI X l d (LI (Qc t)):=PI.imp h λσ H R ⟨α,n,st,K,G,F,P,x,S,t,k⟩=>by
 show⟨α,n,st,_,G,F,P,x,S,t,λs f q p z H1 A r y w g=>?_⟩;match s,q,g with
 | [.int j],q,g=>
   obtain⟨v,rfl,m⟩:=jY g rfl;unfold Rep at m;subst m;show⟨j,rfl,q.1.1,q.1.2,k _ _ f q.2 _ p z H1 r y w Dm⟩
def Kd{t:DA}(h:PI X l d (Hu (LA t))):PI X l d (LI (Qu t)):=PI.imp h λσ H R ⟨α,p,st,K,G,F,P,y,S,t,k⟩=>by
 show⟨α,p,st,_,G,F,P,y,S,t,λw f q r A H1 B s z x g=>?_⟩;match w,q,g with
 | [.int i,.int j],q,g=>
   obtain⟨v,u,rfl,n,m⟩:=qE g rfl;unfold Rep at n m;subst n m;show⟨i,j,rfl,q.1,k _ _ f q.2 _ r A H1 s z x Dm⟩
def jR(f:fK)(d:DS)(ok:ag->Prop)(E:m7):List D->cz->ag->Prop
 | [],σ,st=>ok st/\E.nx σ st
 |x::xs,σ,st=>ok st/\∃g,f x σ=some g/\d {E with nx:=jR f d ok E xs,ct:=jR f d ok E xs,bk:=E.nx} g st
def iy(g:DI)(j:fK)(d:DS):DS:=λD σ st=>g σ st λh ok f=>jR j d ok D h σ f
def Rr{B:DI}{K:fK}(h:PS X st (SA (LI B) (LG K) (LS t))):PS X st (LS (iy B K t)):=PS.imp h λD σ H ⟨α,σd,st,DD,G,F,P,R,S,tt,k⟩=>by
 show⟨α,σd,st,_,G,F,P,R,S,tt,λn ok U q J T G1 H1 L P1 S1 it=>?_⟩;show⟨λi m s A=>∃p g f l,Step T G1 p l/\cG l F A/\fv p l g s/\aY p f l/\jR K t ok DD (n.drop i) g f/\m=n.length-i,⟨n.length,T,σd,U,G1,Step.refl,P1,R.step L,S1,q,rfl⟩,?_⟩;rintro i m σ2 H2 ⟨I,O,j,G2,C,N,R2,M,z,rfl⟩;cases e:n[i]? with
 |none=>
  have E:n.length<=i:=abl.mp e;rw[Zj E]at z;unfold jR at z;show .inl ⟨it.stop i I G2 F H2 j C N M z.1 E,((k.nx.at L).at C).here N z.2 R2 M⟩
 |some d=>
  have E:i<n.length:=(Xm.mp e).1
  let ed:n.drop i=d::n.drop (i+1):=by
   rw[XN E];congr 1;rw[Xv E]at e;show Yq e
  rw[ed]at z;unfold jR at z;obtain⟨aK,σ3,e3,q3⟩:=z;show .inr ⟨it.go i d I G2 F H2 j C N M aK e,λs A=>∃p g f l,Step T G1 p l/\cG l F A/\fv p l g s/\aY p f l/\jR K t ok DD (n.drop (i+1)) g f,?_,?_⟩
  . rintro s A ⟨p,g,f,l,z1,z2,z3,z4,z5⟩;show⟨n.length-(i+1),by lia,p,g,f,l,z1,z2,z3,z4,z5,rfl⟩
  . intro x A y;obtain⟨G3,s3,P3,S3,r3⟩:=it.qh i d I G2 F H2 j x A C N M aK e y;show⟨I,O,j,d,λs f=>s=σ3/\f=j,G3,F,P3,R2.step s3,S3,r3,⟨σ3,e3,rfl,rfl⟩,?_⟩;rintro s f ⟨rfl,rfl⟩ α4 G4 H4 σ4 s4 P4 R4 S4;let r:=(C.trans s3).trans s4;show⟨α4,s,f,_,G4,F,P4,R4,S4,q3,?_,((k.rt.at L).at r),(k.nx.at L).at r,?_⟩
    . intro v w W Q G5 H5 σ5 V P5 Z Y;show⟨Q,v,w,G5,r.trans V,P5,Z,Y,W⟩
    . intro v w W Q G5 H5 σ5 V P5 Z Y;show⟨Q,v,w,G5,r.trans V,P5,Z,Y,W⟩
end
def iR(fr:List (Option Nat))(σ:cz):cz:=fr.map λo=>o.bind λj=>(σ[j]?).join
def fv.comp(h:fv α G a σ):fv α G (iR fr a) (σC fr σ):=by
 show⟨by unfold iR σC;simp,λi d e=>?_⟩;unfold iR at e;rw[XB]at e;cases q:fr[i]? with
 |none=>rw[q]at e;cases e
 |some o=>
  rw[q]at e;cases o with
  |none=>simp at e
  |some j=>
   simp![ZL,Option.some.injEq,Option.bind_some]at e
   let c:a[j]?=some (some d):=by
    cases r:a[j]? with
    |none=>rw[r]at e;cases e
    |some u=>rw[r]at e;simp at e;rw[e]
   obtain⟨v,ev,b⟩:=h.at' j d c;show⟨v,?_,b⟩;unfold σC;rw[XB,q];simp[ev]
def eQ(h:fK)(c:DT)(i:DE)(ok:ag->Prop)(f:cz):List D->List D->ag->(List D->ag->Prop)->Prop
 | [],a,e,K=>ok e/\K a e
 |x::xs,a,e,K=>ok e/\∃g,h x f=some g/\c g e λb d=>if b=true then i g d λy j=>eQ h c i ok f xs (a++[y]) j K else eQ h c i ok f xs a d K
def dX(d:DI)(fr:List (Option Nat))(g:fK)(c:DT)(h:DE):DE:=λσ i K=>d σ i λe ok b=>e.length<=sizeLine/\eQ g c h ok (iR fr σ) e [] b λf a=>K (.lst f) a
def oK(d:DI)(fr:List (Option Nat))(g:fK)(c:DT)(h:DE):DE:=λσ i K=>d σ i λe ok b=>e.length<=sizeLine/\eQ g c h ok (iR fr σ) e [] b λf a=>K (.ref a.length) (a++[.lst f])
def cT:DT:=λ_ a K=>K true a
def qM(fr:List (Option Nat))(a:fK):Prop:=∀(σ:cz) (d:D) (σ2:cz),a d (iR fr σ)=some σ2->σ2.length=(iR fr σ).length/\∀(i:Nat) (e:D),(iR fr σ)[i]?=some (some e)->σ2[i]?=some (some e)
def mS{k:Nat}(h:fr[k]?=some none){e:D}(q:(iR fr σ)[k]?=some (some e)):False:=by
 unfold iR at q;rw[XB,h]at q;simp at q
def ji{k:Nat}(h:fr[k]?=some none:=by rfl):qM fr (cB k):=λσ d b e=>by
 cases e;show⟨XA,λi x q=>?_⟩;by_cases a:i=k
 . subst a;show(mS h q).elim
 . rw[Xq (Xp a)];show q
def Am{k j:Nat}(h:fr[k]?=some none:=by rfl)(h':fr[j]?=some none:=by rfl):qM fr (gT k j):=λσ d c e=>by
 unfold gT at e;split at e
 . cases e;show⟨by rw[XA,XA],λi x q=>?_⟩;by_cases b:i=k
   . subst b;show(mS h q).elim
   . by_cases a:i=j
     . subst a;show(mS h' q).elim
     . rw[Xq (Xp a),Xq (Xp b)];show q
 . cases e
section
variable {X:Cx}
def RZ(h:PT X c (LT t)):vj X [c] (LT t):=Ow h
def Mn:vj X [] (LT cT):=λa s σ H Q I ⟨α,c,b,K,G,F,P,R,S,t,k⟩=>O8 a s σ H Q I (k true b t α G H Step.refl P S)
def LE.comp{L:DI}{fr:List (Option Nat)}{I:fK}{c:DT}{U:DE}(O:qM fr I){σ:L2.St}{H:Hp}{Q:VK}{α:List (Option Addr)}{o:cz}{st:ag}{KE:List D->ag->Prop}{G F:Hp}(P:cG G F H)(R:fv α G o σ)(S:aY α st G)
 (t:L o st λh ok w=>h.length<=sizeLine/\eQ I c U ok (iR fr o) h [] w KE)
 (aq:∀ys g u v C l vs,KE ys g->Step α G u v->cG v (upd F l (.lst vs)) C->F l=none->aY u g v->aG u v ys vs->Q (.ref l) C):
 v9 (LI L) fr (LG I) (LT c) (LE U) σ H Q:=by
 show⟨α,o,st,_,G,F,P,R,S,t,λh ok w q J α1 G1 H1 s1 P1 S1 it l hl=>?_⟩;obtain⟨au,q⟩:=q;obtain⟨hG,hF⟩:=P1.none hl
 show⟨λi m r E=>∃s a n f vs,Step α1 G1 s n/\cG n (upd F l (.lst vs)) E/\fv s n (iR fr o) r/\aY s a n/\aG s n f vs/\f.length<=i/\i<=h.length/\eQ I c U ok (iR fr o) (h.drop i) f a KE/\m=h.length-i,
  ⟨h.length,α1,w,G1,[],[],Step.refl,P1.hide hl,(R.step s1).comp,S1,by unfold aG;rfl,Xl _,XY _,q,rfl⟩,?_⟩
 rintro i m σ2 C ⟨u,g,v,f,vs,N,Z,R2,W,ra,ar,hi,B,rfl⟩;cases e:h[i]? with
 |none=>
  have k:h.length<=i:=abl.mp e;rw[Zj k]at B;unfold eQ at B;show .inl ⟨it.stop i u v _ C g N Z W B.1 k,aq f g u v C l vs B.2 (s1.trans N) Z hF W ra⟩
 |some d=>
  have k:i<h.length:=(Xm.mp e).1
  let ed:h.drop i=d::h.drop (i+1):=by
   rw[XN k];congr 1;rw[Xv k]at e;show Yq e
  rw[ed]at B;unfold eQ at B;obtain⟨aK,σ3,e3,q3⟩:=B;show .inr ⟨it.go i d u v _ C g N Z W aK e,λr E=>∃s a n f vs,Step α1 G1 s n/\cG n (upd F l (.lst vs)) E/\fv s n (iR fr o) r/\aY s a n/\aG s n f vs/\f.length<=i+1/\eQ I c U ok (iR fr o) (h.drop (i+1)) f a KE,?_,?_⟩
  . rintro r E ⟨s,a,n,T,ab,z1,z2,z3,z4,z5,z6,z7⟩;show⟨h.length-(i+1),by lia,s,a,n,T,ab,z1,z2,z3,z4,z5,z6,k,z7,rfl⟩
  . intro x E y;obtain⟨G3,V,P3,S3,r3⟩:=it.qh i d u v _ C g x E N Z W aK e y;show⟨u,iR fr o,g,d,λr a=>r=σ3/\a=g,G3,_,P3,R2.step V,S3,r3,⟨σ3,e3,rfl,rfl⟩,?_⟩;rintro r a ⟨rfl,rfl⟩ α4 G4 H4 σ4 s4 P4 Y S4;let M:=(N.trans V).trans s4;let Rc:fv α4 G4 (iR fr o) σ4:=⟨by rw[<-(O o d r e3).1];show Y.len,λj z hz=>Y.at' j z ((O o d r e3).2 j z hz)⟩
    show⟨α4,r,a,_,G4,_,P4,Y,S4,q3,λb K q5 α5 G5 H5 A P5 S5=>?_⟩;cases b with
    |false=>show⟨α5,K,G5,f,vs,M.trans A,P5,Rc.step A,S5,((ra.step V).step s4).step A,by lia,q5⟩
    |true=>
     show⟨α5,r,K,_,G5,_,P5,Y.step A,S5,q5,λz ah q6 α6 G6 H6 v6 s6 P6 S6 r6=>?_⟩;let hr:=(((ra.step V).step s4).step A).step s6;show⟨vs,(P6.frame a_).1,by rw[<-hr.length];lia,α6,ah,G6,f++[z],vs++[v6],(M.trans A).trans s6,?_,(Rc.step A).step s6,S6,bL.mpr (g0 (bL.mp hr) (.cons r6 .nil)),by rw[Yn,aaK];lia,q6⟩;let:=P6.WX (p:=l) (o':= .lst (vs++[v6])) a_;rw[OR]at this;show this
def QV{scope:Scope}{Nc:List Str}{g h a:Expr}{f:List Expr}{pos:Pos}{e:DI}{fr:List (Option Nat)}{b:fK}{c:DT}{n:DE}(S:c_ X scope Nc fr)(D:PI X h a (LI e))
 (d:∀C s H ex,PG (dO X scope Nc C s H ex) h (LG b)) (z:∀C s H ex,vj (dO X scope Nc C s H ex) f (LT c)) (E:∀C s H ex,PE (dO X scope Nc C s H ex) g (LE n)) (j:qM fr b)
 (y:X.xe=λ_ _=>False:=by rfl) (I:X.calm=true:=by rfl) (A:∀x,foldedSetIterable a X.env x=pure x:=by intro _;rfl):PE X (.ListComp g [⟨h,a,f,0⟩] scope pos) (LE (dX e fr b c n)):=
 PE.imp (F2 y I S D d z E A) λσ H Q ⟨α,L,N,K,G,F,P,R,S,t,k⟩=>LE.comp j P R S t λM i v u J l m q w p B o r=>by
  let d:u l=none:=(p.frame a_).2;show k _ i q v (upd u l (.lst m)) J (.ref l) (w.trans (Step.laid d)) (p.show B) (o.laid d) ?_;unfold Rep;show⟨l,m,rfl,o.mh d,.of a_,r.step (Step.laid d)⟩
def Qj{scope:Scope}{Nc:List Str}{g h a:Expr}{e:List Expr}{pos:Pos}{d:DI}{fr:List (Option Nat)}{b:fK}{c:DT}{n:DE}(S:c_ X scope Nc fr)(D:PI X h a (LI d))
 (f:∀C s H ex,PG (dO X scope Nc C s H ex) h (LG b)) (z:∀C s H ex,vj (dO X scope Nc C s H ex) e (LT c)) (E:∀C s H ex,PE (dO X scope Nc C s H ex) g (LE n)) (i:qM fr b)
 (y:X.xe=λ_ _=>False:=by rfl) (I:X.calm=true:=by rfl) (A:∀x,foldedSetIterable a X.env x=pure x:=by intro _;rfl):PE X (.ListComp g [⟨h,a,e,0⟩] scope pos) (LE (oK d fr b c n)):=
 PE.imp (F2 y I S D f z E A) λσ H Q ⟨α,L,N,K,G,F,P,R,S,t,k⟩=>LE.comp i P R S t λM v u p J l m q w o B j r=>by
  let f:p l=none:=(o.frame a_).2;show k _ _ q (u++[some l]) (upd p l (.lst m)) J (.ref l) (w.trans (Step.cell f)) (o.show B) (j.cell f ⟨m,a_,r.step (Step.cell f)⟩) ?_;unfold Rep;show .inr ⟨l,?_,rfl⟩;rw[Yg (by rw[j.len];show Xl _),j.len,ZT];rfl
def Ov{st:Stmt}{k:Nat}{b:DI}{fr:List (Option Nat)}{a:fK}{c:DT}{i:DE}(g:qM fr a)(h:PS X st (p8 (v9 (LI b) fr (LG a) (LT c) (LE i)) (gR k))):PS X st (LS (aL k (dX b fr a c i))):=
 PS.imp h λD σ H ⟨α,y,st,A,G,F,P,R,S,t,q⟩=>LE.comp g P R S t λz f s p x l e v u n w m r=>by
  let d:p l=none:=(n.frame a_).2;let j:=u.trans (Step.laid (o:= .lst e) d);show q.nx _ f v s (upd p l (.lst e)) x _ j (n.show w) ((R.step j).set k ?_) (m.laid d);unfold Rep;show⟨l,e,rfl,m.mh d,.of a_,r.step (Step.laid d)⟩
def Nd{st:Stmt}{k:Nat}{b:DI}{fr:List (Option Nat)}{a:fK}{c:DT}{i:DE}(f:qM fr a)(h:PS X st (p8 (v9 (LI b) fr (LG a) (LT c) (LE i)) (gR k))):PS X st (LS (aL k (oK b fr a c i))):=
 PS.imp h λD σ H ⟨α,y,st,A,G,F,P,R,S,t,q⟩=>LE.comp f P R S t λz s p n x l d v u m w g r=>by
  let e:n l=none:=(m.frame a_).2;let j:=u.trans (Step.cell (o:= .lst d) e);show q.nx _ _ v (p++[some l]) (upd n l (.lst d)) x _ j (m.show w) ((R.step j).set k ?_) (g.cell e ⟨d,a_,r.step (Step.cell e)⟩);unfold Rep;show .inr ⟨l,?_,rfl⟩;rw[Yg (by rw[g.len];show Xl _),g.len,ZT];rfl
def aI(N:List Str)(a:List D):cz:=a.map some++List.replicate (N.length-a.length) none
def fv.start(r:aG α G a vs):fv α G (aI N a) (L2.start N vs):=by
 let f:=r.length;show⟨by unfold aI L2.start;simp[f],λi d e=>?_⟩;unfold aI at e;by_cases b:i<a.length
 . rw[Xs (by simpa using b),XB]at e;cases q:a[i]? with
   |none=>rw[q]at e;cases e
   |some x=>
    rw[q]at e;cases e;obtain⟨v,ev,c⟩:=r.get q;show⟨v,?_,c⟩;unfold L2.start;rw[Xs (by rw[Xk];lia),XB,ev];rfl
 . rw[Yg (by simpa using b),aat]at e;split at e<;>cases e
def UU{P:Program}{w:World}{K:PySem.W.Frag}{n:Str->Option Value}{e:Heap}{x b:Str}{st:Stmt}{f:Addr}{fd:FuncData}{N m:List Str}{k:Nat}{sp:bV}{t:DS}(F:oG K x b st f fd)(S:nW N m (bH st))
 (g:∀(c:Value) (A:Around) (outer:List Env) (s:Shared) (H:Hp) (E:XK),cU k (A.deeper (envOfC b (bH st) s.heap.objs.size f c))->ja (rE eC P w K n e N b (bH st) f c A outer s H E).wA (hJ st) (LS t))
 (l:∀d st K,sp d st K->d.length=m.length/\t {nx:=λ_ a=>K .au a,rt:=K} (aI N d) st):cH P w K n e eC (k+1) f fd m (fe sp):=by
 show F.ok S (λp H Q E h=>?_) λc A outer s H p Q E v h=>⟨_,g c A outer s H E v,?_⟩
 . obtain⟨α,d,st,K,G,F,P,r,S,q,k⟩:=h;rw[<-r.length];show(l d st K q).1
 . obtain⟨α,d,st,K,G,F,P,r,S,q,k⟩:=h;show⟨α,aI N d,st,_,G,F,P,fv.start r,S,(l d st K q).2,?_,k,?_,?_⟩
   . intro i a j o C B D u z I y;show k .au a j o C B .au u z y (by unfold Rep;rfl)
   . intro i a j;show j.elim
   . intro i a j;show j.elim
def sH(to e:DE):DE:=λσ f K=>to σ f λx b=>match x with
 | .ref n=>(match b[n]? with
   |some (.lst _)=>e σ b λy a=>∃c,[y]=[c]/\(match a[n]? with|some (.lst d)=>d.length<sizeLine/\K .au (a.set n (.lst (d++[c])))|_=>False)
   |_=>False)
 |_=>False
end
structure oh(K:PySem.W.Frag)(mg:Str->Option Value)(x qual:Str)(st:Stmt)(ps:List Str)(f:Addr)(fd:FuncData):Prop where
 fn:oG K x qual st f fd
 mg:mg x=some (.ref f)
 bd:Binds K fd ps []
def Ee(a:Scope)(N:List Str)(scope:Scope)(Nc:List Str)(fr:List (Option Nat)):Bool:=
 (scope.kind== .function)&&scope.names.all (λx=>x.2 != .cell||scope.names.lookup x.1==some .cell)&&scope.names.all (λx=>x.2 != .local||scope.names.lookup x.1==some .local)&&
 scope.names.all (λx=>x.2 != .free||a.names.lookup x.1==some .cell||a.names.lookup x.1==some .free)&&(fr.length==Nc.length)&&
 (List.range fr.length).all λi=>match fr[i]?,Nc[i]? with
   |some (some j),some x=>(N[j]?==some x)&&(scope.names.lookup x==some .free)&&(a.names.lookup x==some .cell||a.names.lookup x==some .free)
   |_,_=>true
def c_.look{X:Cx}(d:Scope)(N:List Str)(h:Ee d N scope Nc fr=true)(c:X.env.scope=d:=by rfl)(g:X.N=N:=by rfl):c_ X scope Nc fr:=by
 unfold Ee at h;simp![X9]at h;obtain⟨⟨⟨⟨⟨p,o⟩,n⟩,m⟩,l⟩,k⟩:=h;subst c g;show⟨by simpa using p,λx a b=>?_,λx a b=>?_,λx a b=>?_,by simpa using l,λi j x q e=>?_⟩
 . have:=Yi.mp o x a;rw[b]at this;simpa using this
 . have:=Yi.mp n x a;rw[b]at this;simpa using this
 . have:=Yi.mp m x a;rw[b]at this;let z:X.env.scope.names.lookup x.1=some .cell\/X.env.scope.names.lookup x.1=some .free:=by simpa using this
   show z
 . have f:i<fr.length:=(Xm.mp e).1;let:=Yi.mp k i (YM.mpr f);rw[q,e]at this;simp![X9,aaS,Zh]at this;show⟨this.1.1,this.1.2,this.2⟩
section
variable {X:Cx}
def WC{e:Expr}{a:List Expr}{pos p:Pos}{x:Str}{id:String}{r:f7}{t:DA}(k:cw X (.builtin id) (ip r))(l:PA X (e::a) (LA t))(g:X.mg x=none)(d:bootBuiltins x=some (.builtin id))(i:Gl X x:=by rfl)(f:x≠"__name__":=by decide)(c:(x==("__debug__":Str))=false:=by decide)
 (j:starEach (e::a) X.env=(false,eval e X.env)::starEach a X.env:=by rfl) (b:(backTo pos (starEach a X.env)).any (·.1)=false:=by rfl):PE X (.Call (.Name x p) (e::a) [] pos) (LE (ck r t)):=PE.imp (Nb k i g d l f c j b) λ_ _ _ h=>LE.cb h
def Wa{e:Expr}{a:List Expr}{pos p:Pos}{x:Str}{T:String}{r:f7}{t:DA}(k:cw X (.type T) (ip r))(l:PA X (e::a) (LA t))(g:X.mg x=none)(d:bootBuiltins x=some (.type T))(i:Gl X x:=by rfl)(f:x≠"__name__":=by decide)(c:(x==("__debug__":Str))=false:=by decide)
 (j:starEach (e::a) X.env=(false,eval e X.env)::starEach a X.env:=by rfl) (b:(backTo pos (starEach a X.env)).any (·.1)=false:=by rfl):PE X (.Call (.Name x p) (e::a) [] pos) (LE (ck r t)):=PE.imp (K8 k i g d l f c j b) λ_ _ _ h=>LE.cb h
def WA{pos:Pos}{x:Str}{T:String}(d:X.mg x=none)(b:bootBuiltins x=some (.type T))(e:Gl X x:=by rfl)(c:x≠"__name__":=by decide)(a:(x==("__debug__":Str))=false:=by decide):PE X (.Name x pos) (LE (dC (.ty T))):=
 sF (v:= .ty T) (Pf e d b rfl c a) λ_ _=>by unfold Rep;rfl
def Wn{e:Expr}{b:List Expr}{pos p:Pos}{x a:Str}{st:Stmt}{g:List Str}{f:Addr}{fd:FuncData}{k:Nat}{S:bV}{t:DA}(A:oh X.K X.mg x a st g f fd)(F:cH X.prog X.w X.K X.mg X.base eC k f fd g (fe S))(h:cU k X.A)
 (l:PA X (e::b) (LA t)) (i:Gl X x:=by rfl) (d:(x==("__debug__":Str))=false:=by decide) (j:starEach (e::b) X.env=(false,eval e X.env)::starEach b X.env:=by rfl) (c:(backTo pos (starEach b X.env)).any (·.1)=false:=by rfl):
 PE X (.Call (.Name x p) (e::b) [] pos) (LE (aB S t)):=RK F h i A.mg A.fn.kp A.bd l d j c
def EZ(r:RelV x v)(h:Q (.bool (v== .bool b)) s):wpAny M A (compareOp .Is v (.bool b)) Q E s:=by
 cases x
 case bl c=>
  cases r;let e:(Value.bool c==Value.bool b)=(c==b):=by cases c<;>cases b<;>rfl
  rw[e]at h;show is_bool h
 all_goals first
  |(cases r;show Xz h)
  |(obtain⟨t,rfl⟩:=r;show Xz h)
def IL(d:D)(b:Bool):Bool:=match d with| .bl c=>c==b|_=>false
def Oe(d:D):Bool:=match d with| .au=>true|_=>false
def N6:dg:=λx y a K=>match y with| .au=>live a x=true/\K (.bl (Oe x)) a| .bl b=>live a x=true/\K (.bl (IL x b)) a|_=>False
def FR{α:List (Option Addr)}{H:Hp}{st:ag}{d:D}{v:V}{u:Value}{b:Bool}(S:aY α st H)(f:live st d=true)(r:Rep α H d v)(e:RelV v u):(u==Value.bool b)=IL d b:=by
 cases d
 case ref n=>
  obtain⟨a,rfl⟩:=x9 S f r;cases e;rfl
 all_goals unfold Rep at r
 case bl c=>
  subst r;cases e;cases c<;>cases b<;>rfl
 all_goals first
  |(subst r;first|(cases e;rfl)|(obtain⟨t,rfl⟩:=e;rfl))
  |(obtain⟨a,g,rfl,_⟩:=r;cases e;rfl)
def UA:cm X (compareOp .Is) (LR N6):=λf s σ H x y v u Q I h i ⟨α,d,e,l,K,G,m,P,c,g,S,q,k⟩=>by
 cases e<;>try show q.elim
 . unfold Rep at g;show Qx f s σ H x y v u Q I h i ⟨g,k.here P q.2 S ?_⟩;unfold Rep;cases d
   case ref n=>
    obtain⟨a,rfl⟩:=x9 S q.1 c;rfl
   all_goals(unfold Rep at c;first|(rw[c];rfl)|(obtain⟨a,j,rfl,_⟩:=c;rfl))
 . rename_i b;unfold Rep at g;subst g;cases i;show EZ h ?_;rw[FR S q.1 c h];show⟨.bl (IL d b),H,I,rfl,k.here P q.2 S (by unfold Rep;rfl)⟩
def oH(r j:dg)(h g f:DE):DE:=λσ i K=>h σ i λx e=>g σ e λy d=>r x y d λz a=>match z with
 | .bl b=>if b=true then f σ a λw c=>j y w c K else K (.bl false) a
 |_=>False
def LE.chain(h:LE (oH r y s p o) σ H Q):C7 (LR r) (LR y) (LE s) (LE p) (LE o) σ H Q:=by
 obtain⟨α,g,J,K,G,F,P,R,S,t,k⟩:=h;show⟨α,g,J,_,G,F,P,R,S,t,λd l q I G1 H1 v f P1 W M=>?_⟩;show⟨I,g,l,_,G1,F,P1,R.step f,W,q,λA j O E G2 H2 v2 e Z V x=>?_⟩;show⟨E,d,A,j,_,G2,F,Z,M.step e,x,V,O,λz a m n C H3 v3 c P3 B w=>?_⟩;cases z<;>try show m.elim
 rename_i b;unfold Rep at w;show⟨b,w,?_⟩;cases b with
 |false=>show((k.at f).at e).at c _ a m n C H3 _ Step.refl P3 B (by unfold Rep;rfl)
 |true=>show⟨n,g,a,_,C,F,P3,((R.step f).step e).step c,B,m,λT i N D G4 H4 v4 u Y U L=>⟨D,A,T,i,K,G4,F,Y,(x.step c).step u,L,U,N,(((k.at f).at e).at c).at u⟩⟩
def Py{i g f:DE}(k:cm X (compareOp op) (LR r))(e:cm X (compareOp d) (LR j))(o:PE X a (LE i))(n:PE X b (LE g))(m:PE X c (LE f))
 (l:lastMarks [op,d] [b,c]=false:=by with_unfolding_all rfl):PE X (.Compare a [op,d] [b,c] pos) (LE (oH r j i g f)):=PE.imp (MI k e o n m l) λ_ _ _ h=>LE.chain h
def MP{i g f:DE}(l:cm X (compareOp op) (LR r))(e:cm X (compareOp d) (LR j))(p:PE X a (LE i))(o:PE X b (LE g))(n:PE X c (LE f))
 (m:lastMarks [op,d] [b,c]=false:=by with_unfolding_all rfl):PT X (.Compare a [op,d] [b,c] pos) (LT (aV (oH r j i g f))):=PT.imp (MO l e p o n m) λσ H Q h=>LE.chain (Q:=λx q=>∃k,x= .bl k/\Q k q) (LT.test h)
def LE.append(h:LE (sH to r) σ H Q):Vr X.K "list" F_ (LE to) (LA (ae r ai)) σ H Q:=by
 obtain⟨α,m,T,K,G,F,P,R,S,t,k⟩:=h;show⟨α,m,T,_,G,F,P,R,S,t,λx i q N G1 H1 v u M J V=>?_⟩;cases x<;>try show q.elim
 rename_i n;simp only at q;split at q
 . rename_i ys e;obtain⟨p,D,O,W,h2⟩:=J.ik e;let l:=d7 D V;subst l;show⟨.inl ⟨rfl,O,.inl (.of (M.get W))⟩,N,m,i,λE b=>∃y,E=[y]/\(match b[n]? with|some (.lst f)=>f.length<sizeLine/\K .au (b.set n (.lst (f++[y])))|_=>False),G1,F,M,R.step u,J,?_,?_⟩
   . show Eq.mp ?_ q;rfl
   . rintro E b ⟨y,rfl,c⟩ o Z H2 ws s L I U;obtain⟨w,rfl,j⟩:=jY U rfl;split at c
     . rename_i f Y;obtain⟨d,a,g,C,B⟩:=I.ik Y
       let:d=p:=by
        rcases s.pre _ _ D with z|z<;>(rw[z]at a;cases a)
        rfl
       subst this;let A:some d∈o:=XO a;show⟨d,g,w,rfl,rfl,L.get C,by rw[<-B.length];show c.1,?_⟩;show((k.at u).at s) _ _ c.2 o (upd Z d (.lst (g++[w]))) _ .au (Step.write A) (L.write C) ?_ (by unfold Rep;rfl);show I.write a ⟨g++[w],a_,(bL.mpr (g0 (bL.mp B) (.cons j .nil))).step (Step.write A)⟩
     . show c.elim
 . show q.elim
def MB{o e:Expr}{c a:Pos}(k:PE X o (LE to))(l:PE X e (LE i))(f:attributeBase o "append" X.env (eval o X.env)=eval o X.env:=by rfl)
 (g:((backTo a (starEach [e] X.env)).all (λx=> !x.1)&&(backToKw a (keywordEach [] X.env)).all (λx=>x.1.isSome)
   &&decide (([e]:List Expr).length+([]:List Keyword).length+(if([]:List Keyword).isEmpty then 0 else 1)<30))=true:=by rfl)
 (d:(c.endLine==a.line)=true:=by rfl) (j:starEach [e] X.env=(false,eval e X.env)::starEach [] X.env:=by rfl) (b:(backTo a (starEach [] X.env)).any (·.1)=false:=by rfl):PE X (.Call (.Attribute o "append" c) [e] [] a) (LE (sH to i)):=
 PE.imp (UY abA PySem.F.slot_list_append PySem.F.type_list_append A3 k (zU l DN j) f g d j b) λ_ _ _ h=>LE.append h
end
end L3
namespace L3
open PySem L2
open PySem.Spec hiding items?
open PyProof.Rows hiding St
section
variable {X:Cx}
@[irreducible] def cQ:dg:=NA
def mf:cm X (binaryOp .Add) (LR cQ):=by unfold cQ;show UO
@[irreducible] def jP:dg:=NI
def nr:cm X (binaryOp .Sub) (LR jP):=by unfold jP;show UC
@[irreducible] def cR:dg:=NW
def pD:cm X (binaryOp .Mult) (LR cR):=by unfold cR;show Uh
@[irreducible] def mi:dg:=IH
def ux:cm X (binaryOp .FloorDiv) (LR mi):=by unfold mi;show Sb
@[irreducible] def mF:dg:=N1
def NF:cm X (binaryOp .Mod) (LR mF):=by unfold mF;show Uk
@[irreducible] def CI:dg:=NB
def Ol:cm X (binaryOp .Pow) (LR CI):=by unfold CI;show UB
@[irreducible] def qQ:dg:=QC
def tJ:cm X (compareOp .Lt) (LR qQ):=by unfold qQ;show Wz
@[irreducible] def yQ:dg:=QA
def tI:cm X (compareOp .LtE) (LR yQ):=by unfold yQ;show VT
@[irreducible] def tZ:dg:=Q5
def tm:cm X (compareOp .Gt) (LR tZ):=by unfold tZ;show WE
@[irreducible] def FX:dg:=R9
def zu:cm X (compareOp .GtE) (LR FX):=by unfold FX;show Ww
@[irreducible] def nB:dg:=QL
def HJ:cm X (compareOp .NotEq) (LR nB):=by unfold nB;show VY
@[irreducible] def w6:dg:=N6
def zQ:cm X (compareOp .Is) (LR w6):=by unfold w6;show UA
@[irreducible] def jx:dg:=Ro
def tF{k:Nat}(a:cU k X.A):cm X (compareOp .Eq) (LR jx):=by unfold jx;show V7 a
@[irreducible] def lD:Ds:=NN
def Ud:Gw X (unaryOp .USub) (Oa lD):=by unfold lD;show Va
@[irreducible] def aJ:dg:=sL
def WH(g:PE X a (LE d))(f:PE X b (LE c))(e:vU b:=by intro _ _;rfl):PE X (.Subscript a b pos) (LE (aj aJ d c)):=by unfold aJ;show Wb g f e
@[irreducible] def dY:f7:=BU
def fM:cw X (.builtin "len") (ip dY):=by unfold dY;show TN
@[irreducible] def uF:f7:=GF
def Hm:cw X (.builtin "abs") (ip uF):=by unfold uF;show Vj
@[irreducible] def zV:f7:=IG
def Hj(a:X.calm=true):cw X (.builtin "max") (ip zV):=by unfold zV;show UL a
@[irreducible] def Aw:f7:=H0
def Iy(a:X.calm=true):cw X (.builtin "min") (ip Aw):=by unfold Aw;show UD a
@[irreducible] def Dp:f7:=HS
def Nu:cw X (.type "int") (ip Dp):=by unfold Dp;show Uj
@[irreducible] def dN:f7:=vR
def jI:cw X (.type "tuple") (ip dN):=by unfold dN;show Qn
@[irreducible] def kH:f7:=yq
def su:cw X (.type "list") (ip kH):=by unfold kH;show Q2
@[irreducible] def uN:f7:=vW
def Gk:cw X (.type "list") (ip uN):=by unfold uN;show Qe
@[irreducible] def El:f7:=Ci
def NJ(a:X.calm=true):cw X (.builtin "all") (ip El):=by unfold El;show Ur a
@[irreducible] def rm:f7:=Co
def Nz:cw X (.builtin "isinstance") (ip rm):=by unfold rm;show T9
@[irreducible] def uU:D->ag->(List D->(ag->Prop)->ag->Prop)->Prop:=D2
def fC(t:DE):DI:=λσ b K=>t σ b λd a=>uU d a K
def QW(b:PE X l (LE tl)):PI X a l (LI (fC tl)):=by unfold fC uU;show Ti b
@[irreducible] def B9:List D->ag->(List D->(ag->Prop)->ag->Prop)->Prop:=NH
@[irreducible] def Ce:List D->ag->(List D->(ag->Prop)->ag->Prop)->Prop:=Nr
def gE(t:DA):DI:=λσ b K=>t σ b λc a=>B9 c a K
def pH(t:DA):DI:=λσ b K=>t σ b λc a=>Ce c a K
def KG(h:PI X b a (GG (LA t))):PI X b a (LI (gE t)):=by unfold gE B9;show Jh h
def Jm(h:PI X b a (Hu (LA t))):PI X b a (LI (pH t)):=by unfold pH Ce;show Kd h
@[irreducible] def CF:D->D->D->ag->(ag->Prop)->Prop:=xR
def d9(to f g:DE):DS:=λD σ h=>g σ h λd e=>to σ e λx c=>f σ c λy b=>CF x y d b λa=>D.nx σ a
def MG{st:Stmt}{to a b:DE}(h:PS X st (p8 (LE b) (Il (LE to) (LE a) BS))):PS X st (LS (d9 to a b)):=by unfold d9 CF;show MW h
end
section
variable {st:ag}{K:DK}{i j:Int}{b c:Bool}{xs ys:List D}{d e:D}{n:Nat}
def dm(k:K (.int (i+j)) st):cQ (.int i) (.int j) st K:=by unfold cQ;show k
def vH(h:xs.length+ys.length<=sizeLine)(k:K (.tup (xs++ys)) st):cQ (.tup xs) (.tup ys) st K:=by unfold cQ;show⟨h,k⟩
def Fs(h:xs.length+ys.length<=sizeLine)(k:K (.lst (xs++ys)) st):cQ (.lst xs) (.lst ys) st K:=by unfold cQ;show⟨h,k⟩
def ib(k:K (.int (i-j)) st):jP (.int i) (.int j) st K:=by unfold jP;show⟨trivial,k⟩
def cY(h:IntMulOk i j)(k:K (.int (i*j)) st):cR (.int i) (.int j) st K:=by unfold cR;show⟨h,k⟩
def P8(h: -(2^63)<=i/\i<2^63/\xs.length*i.toNat<=sizeLine)(k:K (.lst (List.replicate i.toNat xs).flatten) st):cR (.lst xs) (.int i) st K:=by unfold cR;show⟨h,k⟩
def PK(h: -(2^63)<=i/\i<2^63/\xs.length*i.toNat<=sizeLine)(k:K (.tup (List.replicate i.toNat xs).flatten) st):cR (.tup xs) (.int i) st K:=by unfold cR;show⟨h,k⟩
def pM(a:j≠0)(h:j.natAbs.log2<9000)(k:K (.int (i.fdiv j)) st):mi (.int i) (.int j) st K:=by unfold mi;show⟨⟨a,h⟩,k⟩
def qt(a:j≠0)(k:K (.int (i.fmod j)) st):mF (.int i) (.int j) st K:=by unfold mF;show⟨a,k⟩
def Rl(h:Me i j)(k:K (.int (i^j.toNat)) st):CI (.int i) (.int j) st K:=by unfold CI;show⟨h,k⟩
def Ct(k:K (.bl (decide (i<j))) st):qQ (.int i) (.int j) st K:=by unfold qQ;show⟨trivial,k⟩
def yh(k:K (.bl (decide (i<=j))) st):yQ (.int i) (.int j) st K:=by unfold yQ;show⟨trivial,k⟩
def BY(k:K (.bl (decide (j<i))) st):tZ (.int i) (.int j) st K:=by unfold tZ;show⟨trivial,k⟩
def N8(k:K (.bl (decide (j<=i))) st):FX (.int i) (.int j) st K:=by unfold FX;show⟨trivial,k⟩
def Oi(k:K (.bl (!decide (i=j))) st):nB (.int i) (.int j) st K:=by unfold nB;show k
def lS(h:live st d=true)(k:K (.bl (Oe d)) st):w6 d .au st K:=by unfold w6;show⟨h,k⟩
def B_(f:pl 40 d=true)(a:pl 40 e=true)(k:K (.bl (cC d e)) st):jx d e st K:=by unfold jx;show⟨f,a,k⟩
def FP(a b:Int):(a==b)=decide (a=b):=by
 by_cases h:a=b
 . subst h;simp
 . simp[h]
def yc(k:K (.bl (decide (i=j))) st):jx (.int i) (.int j) st K:=by
 show B_ rfl rfl ?_;let:cC (.int i) (.int j)=decide (i=j):=by unfold cC;show FP i j
 rw[this];show k
def ko(k:K (.int (-i)) st):lD (.int i) st K:=by unfold lD;show k
def Mi(h:items? st d=some xs)(a:eP xs i=some e)(k:K e st):sL d (.int i) st K:=by
 cases d<;>unfold items? at h<;>first
  |(cases h;done)
  |(cases h;simp![sL,a];show k)
  |(simp only at h
    split at h
    . rename_i q;cases h;simp![sL,q,a];show k
    . cases h)
def az(h:items? st d=some xs)(a:eP xs i=some e)(k:K e st):aJ d (.int i) st K:=by unfold aJ;show Mi h a k
def cK(h:items? st d=some xs)(k:K (.int xs.length) st):dY [d] st K:=by
 unfold dY BU;split
 . rename_i z;cases z;cases h
 . rename_i z;cases z;rw[h];show k
 . rename_i f a;show absurd rfl (a d)
def OD(i:Int):(if i<0 then-i else i)=((i.natAbs:Nat):Int):=by split<;>lia
def yA(k:K (.int ((i.natAbs:Nat):Int)) st):uF [.int i] st K:=by unfold uF;change K (.int (if i<0 then-i else i)) st;rw[OD];show k
def JV(k:K (.int (if j>i then j else i)) st):zV [.int i,.int j] st K:=by unfold zV;show k
def Li(k:K (.int (if j<i then j else i)) st):Aw [.int i,.int j] st K:=by unfold Aw;show k
def OA(k:K (.int (if b then 1 else 0)) st):Dp [.bl b] st K:=by unfold Dp;show k
def dz(h:items? st d=some xs)(k:K (.tup xs) st):dN [d] st K:=by unfold dN vR;simp![h];show k
def kK(h:items? st d=some xs)(k:K (.lst xs) st):kH [d] st K:=by unfold kH yq;simp![h];show k
def MD(h:items? st d=some xs)(k:K (.ref st.length) (st++[.lst xs])):uN [d] st K:=by unfold uN vW;simp![h];show k
def Te{bs:List Bool}(h:oE xs=some bs)(k:K (.bl (bs.all id)) st):El [.lst xs] st K:=by unfold El Ci;simp![h];show k
def qv{t c:String}(h:kL st d=some t)(a:c∈pL)(k:K (.bl (xC t c)) st):rm [d,.ty c] st K:=by unfold rm Co;simp![h];show⟨a,k⟩
def ze{K:List D->(ag->Prop)->ag->Prop}(h:items? st d=some xs)(k:∀ok:ag->Prop,ok st->K xs ok st):uU d st K:=by
 unfold uU D2
 cases d<;>unfold items? at h<;>first
  |(cases h;done)
  |(cases h;show k _ trivial)
  |(simp only at h
    split at h
    . rename_i q;cases h;simp![q];show k _ q
    . cases h)
def vX{K:List D->(ag->Prop)->ag->Prop}(k:K xs (λ_=>True) st):uU (.lst xs) st K:=by unfold uU;show k
def jJ{K:List D->(ag->Prop)->ag->Prop}(k:K xs (λ_=>True) st):uU (.tup xs) st K:=by unfold uU;show k
def jH{K:List D->(ag->Prop)->ag->Prop}(h: -(2^62)<=j/\j<2^62)(k:K (dS 0 j.toNat) (λ_=>True) st):B9 [.int j] st K:=by unfold B9;show⟨h,k⟩
def zN{K:List D->(ag->Prop)->ag->Prop}(h: -(2^62)<=i/\i<2^62/\ -(2^62)<=j/\j<2^62)(k:K (dS i (j-i).toNat) (λ_=>True) st):Ce [.int i,.int j] st K:=by unfold Ce;show⟨h,k⟩
def gK{K:ag->Prop}(h:st[n]?=some (.lst xs))(e:ke xs.length i=some m)(k:K (st.set n (.lst (xs.set m d)))):CF (.ref n) (.int i) d st K:=by unfold CF xR;simp![h,e];show k
end
def IK(K:PySem.W.Frag):Bool:=K.all λp=>p.2.cls != .type "list"
def w9:∀ {l:List (Addr×Obj)},l.lookup a=some o->(a,o)∈l
 | [],h=>by cases h
 |(b,u)::r,h=>by
  rw[Yr]at h;split at h
  . rename_i z;cases h;let:a=b:=by simpa using z
    subst this;show XT
  . show XM _ (w9 h)
def BH{K:PySem.W.Frag}(h:IK K=true){o:Obj}(e:K.lookup a=some o):o.cls≠ .type "list":=by
 let:=Yi.mp h (a,o) (w9 e);simpa using this
def Bh:∀ns:List Int,aG α G (ns.map D.int) (ns.map V.int)
 | []=>by unfold aG;rfl
 |n::ns=>by
  rw[Ye,Ye];unfold aG;show⟨_,_,rfl,by unfold Rep;rfl,Bh ns⟩
def notStar:Expr->Bool
 | .Starred .. =>false
 |_=>true
def cP{e:Expr}(h:notStar e=true):starEach (e::a) env=(false,eval e env)::starEach a env:=by
 cases e<;>first|rfl|cases h
def g6:List Expr->Bool
 | []=>true
 |e::es=>notStar e&&g6 es
def mm:∀ {a:List Expr},g6 a=true->(backTo pos (starEach a env)).any (·.1)=false
 | [],_=>rfl
 |e::a,h=>by
  unfold g6 at h;rw[X9]at h;rw[cP h.1];let b:=mm (pos:=pos) (env:=env) h.2;unfold backTo at b⊢;rw[Ye,List.any_cons,b];rfl
def qg:Expr->Bool
 | .Slice .. =>false
 |_=>true
def uL:Expr->Bool
 | .Name .. =>true
 | .Call .. =>true
 | .Subscript .. =>true
 | .Attribute .. =>true
 |_=>false
def nL:Expr->Bool
 | .ListComp .. =>false
 | .SetComp .. =>false
 | .DictComp .. =>false
 |_=>true
section
variable {X:Cx}
def Mv(h:qg b=true):vU b:=by
 intro o i;cases b<;>first|rfl|cases h
def GI{e:Expr}(h:uL e=true):∀whole,isTrue e X.env whole=(do let v <-whole;standAt e.pos;holding [v] (truthy v)):=by
 intro whole;cases e<;>first|(cases h;done)|rfl
def Ap{e:Expr}(h:nL e=true):swapsWith e a n env=pure false:=by
 cases e<;>first|(cases h;done)|rfl
def MY{e:Expr}{tr:DA}(f:PE X e (LE a))(d:PA X b (LA tr))(c:notStar e=true:=by rfl):PA X (e::b) (LA (ae a tr)):=zU f d (cP c)
def Tz{e:Expr}{c:List Expr}{pos p:Pos}{x:Str}{id:String}{r:f7}{t:DA}(j:cw X (.builtin id) (ip r))(k:PA X (e::c) (LA t))(h:X.mg x=none)(d:bootBuiltins x=some (.builtin id))(g:x≠"__name__")(b:(x==("__debug__":Str))=false)(i:Gl X x:=by rfl)(f:notStar e=true:=by rfl)(a:g6 c=true:=by rfl):
 PE X (.Call (.Name x p) (e::c) [] pos) (LE (ck r t)):=WC j k h d i g b (cP f) (mm a)
def U8{e:Expr}{c:List Expr}{pos p:Pos}{x:Str}{T:String}{r:f7}{t:DA}(j:cw X (.type T) (ip r))(k:PA X (e::c) (LA t))(h:X.mg x=none)(d:bootBuiltins x=some (.type T))(g:x≠"__name__")(b:(x==("__debug__":Str))=false)(i:Gl X x:=by rfl)(f:notStar e=true:=by rfl)(a:g6 c=true:=by rfl):
 PE X (.Call (.Name x p) (e::c) [] pos) (LE (ck r t)):=Wa j k h d i g b (cP f) (mm a)
def Uq{e:Expr}{d:List Expr}{pos p:Pos}{x a:Str}{st:Stmt}{g:List Str}{f:Addr}{fd:FuncData}{k:Nat}{S:bV}{t:DA}(A:oh X.K X.mg x a st g f fd)(F:cH X.prog X.w X.K X.mg X.base eC k f fd g (fe S))(i:cU k X.A)
 (l:PA X (e::d) (LA t)) (c:(x==("__debug__":Str))=false) (j:Gl X x:=by rfl) (h:notStar e=true:=by rfl) (b:g6 d=true:=by rfl):
 PE X (.Call (.Name x p) (e::d) [] pos) (LE (aB S t)):=Wn A F i l j c (cP h) (mm b)
def UM(g:PE X a (LE d))(f:PE X b (LE c))(e:qg b=true:=by rfl):PE X (.Subscript a b pos) (LE (aj aJ d c)):=WH g f (Mv e)
def PN{e:Expr}(b:PE X e (LE a))(h:uL e=true:=by rfl):PT X e (LT (aV a)):=RV b (GI h)
def MV{e:Expr}(b:PE X e (LE a))(h:nL e=true:=by rfl):PS X (.Expr e pos) (LS (gf a)):=OC b (Ap h)
def OL{i:Nat}{x:Str}{e:Expr}{b:TE}{pos a:Pos}(j:X.N.Nodup)(d:X.N[i]?=some x)(c:Loc X.env.scope x)(g:PE X e b)(f:X.fn x=true\/X.env.scope.names.lookup x=some .local:=by first|show .inl rfl|show .inr rfl)(h:nL e=true:=by rfl):
 PS X (.Assign [.Name x a] e pos) (p8 b (gR i)):=Ta j d c g (Ap h) f
def PF(c:(x==("__debug__":Str))=false)(a:(x==("__classdict__":Str))=false)(b:CT X.env.scope x)(d:X.N[i]?=some x:=by rfl):PE X (.Name x pos) (LE (aa i)):=TF (Rq d b c a)
def Q_{o i e:Expr}{to b c:TE}{pos a:Pos}(g:PE X e c)(d:PE X o to)(f:PE X i b)(j:nL e=true:=by rfl)(h:qg i=true:=by rfl):PS X (.Assign [.Subscript o i a] e pos) (p8 c (Il to b BS)):=
 J5 g (Qw d f set_list (by intro v;cases i<;>first|rfl|cases h)) (by unfold swapsWithSole;show Ap j) (by cases e<;>rfl) rfl
end
@[irreducible] def JE(X:Cx)(e:Expr)(t:DE):Prop:=PE X e (LE t)
@[irreducible] def JT(X:Cx)(e:Expr)(t:DT):Prop:=PT X e (LT t)
@[irreducible] def JW(X:Cx)(e:Expr)(t:DT):Prop:=PW X e (LT t)
@[irreducible] def JA(X:Cx)(a:List Expr)(t:DA):Prop:=PA X a (LA t)
@[irreducible] def JS(X:Cx)(s:Stmt)(t:DS):Prop:=PS X s (LS t)
@[irreducible] def JB(X:Cx)(s:List Stmt)(t:DS):Prop:=ja X s (LS t)
@[irreducible] def JG(X:Cx)(e:Expr)(t:fK):Prop:=PG X e (LG t)
@[irreducible] def JI(X:Cx)(a e:Expr)(t:DI):Prop:=PI X a e (LI t)
@[irreducible] def JC(X:Cx)(a:List Expr)(t:DT):Prop:=vj X a (LT t)
section
variable {X:Cx}{a b c e o i:Expr}{es:List Expr}{ta tb tc te to ti:DE}{t u:DT}{ar:DA}{pos p pos':Pos}{s:Stmt}{ss:List Stmt}{T U:DS}
def KY(g:(x==("__debug__":Str))=false)(d:(x==("__classdict__":Str))=false)(f:CT X.env.scope x)(h:X.N[n]?=some x:=by rfl):JE X (.Name x pos) (aa n):=by unfold JE;show PF g d f h
def uy{T:String}(h:X.mg x=none)(f:bootBuiltins x=some (.type T))(g:x≠"__name__")(d:(x==("__debug__":Str))=false)(j:Gl X x):JE X (.Name x pos) (dC (.ty T)):=by unfold JE;show WA h f j g d
def bQ{k:Int}:JE X (.Constant (.int k) j pos) (dC (.int k)):=by unfold JE;show UR
def Ep{k:Bool}:JE X (.Constant (.bool k) j pos) (dC (.bl k)):=by unfold JE;show Wl
def m5{k:Str}:JE X (.Constant (.str k) j pos) (dC (.str k)):=by unfold JE;show TU
def ma:JE X (.Constant .none j pos) (dC .au):=by unfold JE;show Um
def dF(d:cm X (binaryOp op) (LR r))(g:JE X a ta)(f:JE X b tb):JE X (.BinOp a op b pos) (aj r ta tb):=by unfold JE at*;show We d g f
def ny(d:JE X a ta):JE X (.UnaryOp .USub a pos) (qV lD ta):=by unfold JE at*;show Wy Ud d
def Cq(d:JE X a ta):JE X (.UnaryOp .Not a pos) (yZ (aV ta)):=by unfold JE at*;show Vb d
def BP(d:JE X a ta):JE X (.BoolOp op [a] pos) ta:=by unfold JE at*;show Ua d
def G8(f:JE X a ta)(d:JE X (.BoolOp .And (b::es) pos) tb):JE X (.BoolOp .And (a::b::es) pos) (qG ta tb):=by unfold JE at*;show TJ f d
def WD(f:JE X a ta)(d:JE X (.BoolOp .Or (b::es) pos) tb):JE X (.BoolOp .Or (a::b::es) pos) (MF ta tb):=by unfold JE at*;show V9 f d
def sP(d:cm X (compareOp op) (LR r))(f:behindInMarks op b=false)(h:JE X a ta)(g:JE X b tb):JE X (.Compare a [op] [b] pos) (aj r ta tb):=by unfold JE at*;show TZ d h g f
def Gs{r g:dg}(h:cm X (compareOp op) (LR r))(f:cm X (compareOp d) (LR g))(m:JE X a ta)(l:JE X b tb)(k:JE X c tc)(j:lastMarks [op,d] [b,c]=false:=by with_unfolding_all rfl):JE X (.Compare a [op,d] [b,c] pos) (oH r g ta tb tc):=by unfold JE at*;show Py h f m l k j
def IB(d:JT X c t)(g:JE X a ta)(f:JE X b tb):JE X (.IfExp c a b pos) (JN t ta tb):=by unfold JE at*;unfold JT at d;show UT d g f
def fX(h:JA X es ar):JE X (.Tuple es n pos) (dA ar):=by unfold JE;unfold JA at h;show Tw h
def BX(h:JA X es ar):JE X (.List es pos) (tN ar):=by unfold JE;unfold JA at h;show UJ h
def Cs(h:JA X es ar):JE X (.List es pos) (Ac ar):=by unfold JE;unfold JA at h;show U_ h
def av:JA X [] ai:=by unfold JA;show DN
def af(d:JE X e te)(g:JA X es ar)(f:notStar e=true:=by rfl):JA X (e::es) (ae te ar):=by unfold JA at*;unfold JE at d;show MY d g f
def cf(g:JE X a ta)(f:JE X b tb)(d:qg b=true:=by rfl):JE X (.Subscript a b pos) (aj aJ ta tb):=by unfold JE at*;show UM g f d
def dJ{x:Str}{id:String}{r:f7}(n:cw X (.builtin id) (ip r))(g:JA X (e::es) ar)(l:X.mg x=none)(h:bootBuiltins x=some (.builtin id))(k:x≠"__name__")(f:(x==("__debug__":Str))=false)(m:Gl X x)(j:notStar e=true:=by rfl)(d:g6 es=true:=by rfl):JE X (.Call (.Name x p) (e::es) [] pos) (ck r ar):=by
 unfold JE;unfold JA at g;show Tz n g l h k f m j d
def iW{T:String}(n:cw X (.type T) (ip r))(g:JA X (e::es) ar)(l:X.mg x=none)(h:bootBuiltins x=some (.type T))(k:x≠"__name__")(f:(x==("__debug__":Str))=false)(m:Gl X x)(j:notStar e=true:=by rfl)(d:g6 es=true:=by rfl):JE X (.Call (.Name x p) (e::es) [] pos) (ck r ar):=by
 unfold JE;unfold JA at g;show U8 n g l h k f m j d
def b_{x d:Str}{st:Stmt}{j:List Str}{f:Addr}{fd:FuncData}{k:Nat}{S:bV}(A:oh X.K X.mg x d st j f fd)(F:cH X.prog X.w X.K X.mg X.base eC k f fd j (fe S))(n:cU k X.A)(l:JA X (e::es) ar)(h:(x==("__debug__":Str))=false)(q:Gl X x)(m:notStar e=true:=by rfl)(g:g6 es=true:=by rfl):
 JE X (.Call (.Name x p) (e::es) [] pos) (aB S ar):=by unfold JE;unfold JA at l;show Uq A F n l h q m g
def M4{f d:Pos}(k:JE X o to)(l:JE X e te)(h:attributeBase o "append" X.env (eval o X.env)=eval o X.env:=by rfl)(g:(f.endLine==d.line)=true:=by rfl)(j:notStar e=true:=by rfl):JE X (.Call (.Attribute o "append" f) [e] [] d) (sH to te):=by
 unfold JE at*;show MB k l h ?_ g (cP j) rfl;rw[cP j];rfl
def eH(d:cm X (compareOp op) (LR r))(f:behindInMarks op b=false)(h:JE X a ta)(g:JE X b tb):JT X (.Compare a [op] [b] pos) (aV (aj r ta tb)):=by unfold JE at*;unfold JT;show Sy d h g f
def M3{r g:dg}(h:cm X (compareOp op) (LR r))(f:cm X (compareOp d) (LR g))(m:JE X a ta)(l:JE X b tb)(k:JE X c tc)(j:lastMarks [op,d] [b,c]=false:=by with_unfolding_all rfl):JT X (.Compare a [op,d] [b,c] pos) (aV (oH r g ta tb tc)):=by unfold JE at*;unfold JT;show MP h f m l k j
def KR(d:JT X a t):JT X (.UnaryOp .Not a pos) (pF t):=by unfold JT at*;show QT d
def ot(d:JE X e te)(h:uL e=true:=by rfl):JT X e (aV te):=by unfold JT;unfold JE at d;show PN d h
def vV(d:JT X a t):JW X (.BoolOp .And [a] pos) t:=by unfold JW;unfold JT at d;show Px d
def QP(d:JT X a t):JW X (.BoolOp .Or [a] pos) t:=by unfold JW;unfold JT at d;show Sh d
def za(d:JT X a t)(f:JW X (.BoolOp .And (b::es) pos) u):JW X (.BoolOp .And (a::b::es) pos) (qU t u):=by unfold JW at*;unfold JT at d;show Tq d f
def UP(d:JT X a t)(f:JW X (.BoolOp .Or (b::es) pos) u):JW X (.BoolOp .Or (a::b::es) pos) (tG t u):=by unfold JW at*;unfold JT at d;show UX d f
def Ca(h:JW X e t):JT X e t:=by unfold JT;unfold JW at h;show PW.pt h
def oj(d:JE X l ta):JI X f l (fC ta):=by unfold JI;unfold JE at d;show QW d
def nX(j:Gl X "range")(h:X.mg "range"=none)(d:JA X [a] ar)(g:notStar a=true:=by rfl):JI X f (.Call (.Name "range" p) [a] [] pos) (gE ar):=by unfold JI;unfold JA at d;show KG (Lr j h d (cP g))
def sO{g:Expr}(k:Gl X "range")(j:X.mg "range"=none)(f:JA X [a,b] ar)(h:notStar a=true:=by rfl)(d:notStar b=true:=by rfl):JI X g (.Call (.Name "range" p) [a,b] [] pos) (pH ar):=by unfold JI;unfold JA at f;show Jm (JL k j f (by rw[cP h,cP d];rfl) (cP d))
def ky{k:Nat}(h:X.N.Nodup)(d:Loc X.env.scope x:=by first|show Or.inl rfl|show Or.inr rfl)(g:X.fn x=true\/X.env.scope.names.lookup x=some .local:=by first|show .inl rfl|show .inr rfl)(f:X.N[k]?=some x:=by rfl):JG X (.Name x pos) (cB k):=by unfold JG;show PJ (i9 h f d g)
def yN{k j n:Nat}{x y:Str}{g f:Pos}(w:X.calm=true)(d:X.N.Nodup)(l:Loc X.env.scope x:=by first|show Or.inl rfl|show Or.inr rfl)(v:X.fn x=true\/X.env.scope.names.lookup x=some .local:=by first|show .inl rfl|show .inr rfl)(h:Loc X.env.scope y:=by first|show Or.inl rfl|show Or.inr rfl)(r:X.fn y=true\/X.env.scope.names.lookup y=some .local:=by first|show .inl rfl|show .inr rfl)(q:X.N[k]?=some x:=by rfl)(m:X.N[j]?=some y:=by rfl):
 JG X (.Tuple [.Name x g,.Name y f] n pos) (gT k j):=by unfold JG;show SF (Eh w (iD (i9 d q l v) (iD (i9 d m h r) Aj)))
def g9:JC X [] cT:=by unfold JC;show Mn
def R7(h:JT X c t):JC X [c] t:=by unfold JC;unfold JT at h;show RZ h
def oF{j k d:Expr}{g:DI}(S:c_ X scope Nc fr)(r:JI X k d g)(v:∀C s H ex,JG (dO X scope Nc C s H ex) k f)(n:∀C s H ex,JC (dO X scope Nc C s H ex) h t)(w:∀C s H ex,JE (dO X scope Nc C s H ex) j te)(l:qM fr f)
 (m:X.xe=λ_ _=>False:=by rfl) (y:X.calm=true:=by rfl) (q:∀x,foldedSetIterable d X.env x=pure x:=by intro _;rfl):JE X (.ListComp j [⟨k,d,h,0⟩] scope pos) (dX g fr f t te):=by
 unfold JE JI JG JC at*;show QV S r v n w l m y q
def z9{j k d:Expr}{g:DI}(S:c_ X scope Nc fr)(r:JI X k d g)(v:∀C s H ex,JG (dO X scope Nc C s H ex) k f)(n:∀C s H ex,JC (dO X scope Nc C s H ex) h t)(w:∀C s H ex,JE (dO X scope Nc C s H ex) j te)(l:qM fr f)
 (m:X.xe=λ_ _=>False:=by rfl) (y:X.calm=true:=by rfl) (q:∀x,foldedSetIterable d X.env x=pure x:=by intro _;rfl):JE X (.ListComp j [⟨k,d,h,0⟩] scope pos) (oK g fr f t te):=by
 unfold JE JI JG JC at*;show Qj S r v n w l m y q
def fm:JB X [] cJ:=by unfold JB;show OQ
def aS(h:JS X s T):JB X [s] T:=by unfold JB;unfold JS at h;show Pa h
def ax(h:JS X s T)(d:JB X ss U):JB X (s::ss) (ay T U):=by unfold JB at*;unfold JS at h;show M0 h d
def cA(h:JE X e te):JS X (.Return (some e) pos) (aU te):=by unfold JS;unfold JE at h;show Sw h
def g7(h:JE X e te)(d:nL e=true:=by rfl):JS X (.Expr e pos) (gf te):=by unfold JS;unfold JE at h;show MV h d
def fY(d:JT X c t)(g:JB X x T)(f:JB X y U):JS X (.If c x y pos) (di t T U):=by unfold JS;unfold JB at*;unfold JT at d;show UE d g f
def qu(d:JT X c t)(f:JB X x T)(g:X.xe=λ_ _=>False:=by rfl):JS X (.While c x [] pos) (m6 t T):=by unfold JS;unfold JB at f;unfold JT at d;show Mp (M6 (by rw[g];show PassesOwn.never) d f)
def oN{g:fK}(j:JI X h d f)(k:JG X h g)(l:JB X x T)(m:X.xe=λ_ _=>False:=by rfl)(q:X.calm=true:=by rfl)(n:∀x,foldedSetIterable d X.env x=pure x:=by intro _;rfl):JS X (.For h d x [] pos) (iy f g T):=by
 unfold JS;unfold JI at j;unfold JG at k;unfold JB at l;show Rr (RI (by rw[m];show PassesOwn.never) q j k l n)
def bI{k:Nat}(l:X.N.Nodup)(f:Loc X.env.scope x)(d:JE X e te)(j:X.fn x=true\/X.env.scope.names.lookup x=some .local:=by first|show .inl rfl|show .inr rfl)(h:nL e=true:=by rfl)(g:X.N[k]?=some x:=by rfl):JS X (.Assign [.Name x pos'] e pos) (aL k te):=by
 unfold JS;unfold JE at d;show QX (OL l g f d j h)
def Qr{g l d:Expr}{k:Nat}(F:X.N.Nodup)(y:Loc X.env.scope x)(S:c_ X scope Nc fr)(z:JI X l d j)(A:∀C s H ex,JG (dO X scope Nc C s H ex) l h)(v:∀C s H ex,JC (dO X scope Nc C s H ex) f t)(D:∀C s H ex,JE (dO X scope Nc C s H ex) g te)(q:qM fr h)
 (B:X.fn x=true\/X.env.scope.names.lookup x=some .local:=by first|show .inl rfl|show .inr rfl) (m:swapsWith (.ListComp g [⟨l,d,f,0⟩] scope p) (some (.Name x pos')) pos.line X.env=pure true:=by rfl) (n:X.N[k]?=some x:=by rfl) (r:X.xe=λ_ _=>False:=by rfl) (E:X.calm=true:=by rfl) (w:∀x,foldedSetIterable d X.env x=pure x:=by intro _;rfl):
 JS X (.Assign [.Name x pos'] (.ListComp g [⟨l,d,f,0⟩] scope p) pos) (aL k (dX j fr h t te)):=by
 unfold JS;unfold JE JI JG JC at*;show Ov q (F1 r E S z A v D F n y B m w)
def M9{g l d:Expr}{k:Nat}(F:X.N.Nodup)(y:Loc X.env.scope x)(S:c_ X scope Nc fr)(z:JI X l d j)(A:∀C s H ex,JG (dO X scope Nc C s H ex) l h)(v:∀C s H ex,JC (dO X scope Nc C s H ex) f t)(D:∀C s H ex,JE (dO X scope Nc C s H ex) g te)(q:qM fr h)
 (B:X.fn x=true\/X.env.scope.names.lookup x=some .local:=by first|show .inl rfl|show .inr rfl) (m:swapsWith (.ListComp g [⟨l,d,f,0⟩] scope p) (some (.Name x pos')) pos.line X.env=pure true:=by rfl) (n:X.N[k]?=some x:=by rfl) (r:X.xe=λ_ _=>False:=by rfl) (E:X.calm=true:=by rfl) (w:∀x,foldedSetIterable d X.env x=pure x:=by intro _;rfl):
 JS X (.Assign [.Name x pos'] (.ListComp g [⟨l,d,f,0⟩] scope p) pos) (aL k (oK j fr h t te)):=by
 unfold JS;unfold JE JI JG JC at*;show Nd q (F1 r E S z A v D F n y B m w)
def fI(g:JE X e te)(d:JE X o to)(f:JE X i ti)(j:nL e=true:=by rfl)(h:qg i=true:=by rfl):JS X (.Assign [.Subscript o i pos'] e pos) (d9 to ti te):=by unfold JS;unfold JE at*;show MG (Q_ g d f j h)
def Ru{k:Nat}{f:Int->Int->Int}(m:X.N.Nodup)(g:Loc X.env.scope x)(d:JE X e te)(h:Gd X op (IW f))(l:X.fn x=true\/X.env.scope.names.lookup x=some .local:=by first|show .inl rfl|show .inr rfl)(j:X.N[k]?=some x:=by rfl):JS X (.AugAssign (.Name x pos') op e pos) (GV k (DH f) te):=by
 unfold JS;unfold JE at d;show Ss (Tu m j g d h l)
def Kr(h:JE X e te)(g:JG X d f)(k:swapsWithSole [d] e pos.line X.env=pure false:=by rfl)(j:swappedStores [d] e X.env=pure none:=by rfl)(l:(assignEach [d] X.env).map (·.2)=[assign d X.env]:=by rfl):JS X (.Assign [d] e pos) (GO f te):=by
 unfold JS;unfold JE at h;unfold JG at g;show Rf (J5 h g k j l)
end
def fu{P:Program}{w:World}{K:PySem.W.Frag}{j:Str->Option Value}{c:Heap}{x a:Str}{st:Stmt}{f:Addr}{fd:FuncData}{N g:List Str}{k:Nat}{sp:bV}{t:DS}(F:oG K x a st f fd)(S:nW N g (bH st))
 (b:∀(d:Value) (A:Around) (outer:List Env) (s:Shared) (H:Hp) (E:XK),cU k (A.deeper (envOfC a (bH st) s.heap.objs.size f d))->JB (rE eC P w K j c N a (bH st) f d A outer s H E).wA (hJ st) t)
 (h:∀i st K,sp i st K->i.length=g.length/\t {nx:=λ_ e=>K .au e,rt:=K} (aI N i) st):cH P w K j c eC (k+1) f fd g (fe sp):=by
 unfold JB at b;show UU F S b h
end L3
namespace HT
open PySem PyProof.Rows
section
variable {prog:Program}{w:World}{A:Around}{E:Value->Shared->Prop}{s:Shared}
def uj{t e:Addr}{items:Array Value}{k j:Value}(c:IsTup s.heap t items)(m:s.heap.IsSliceOf e k j .none)(pl:IsPart k a)(n:IsPart j d)
 (l:cD items.size 0 a=0/\cD items.size items.size d=items.size) (h:Q (.ref t) s):wpAny (model prog w) A (getItem (.ref t) (.ref e)) Q E s:=by
 obtain⟨o,f,g,p⟩:=id m;let i:s.TypeIs (.ref e) "slice":=⟨o,f,g⟩
 unfold getItem;try with_reducible show ZG ?_
 first|show Xi (Xz ?_)|skip
 show Xi (wpAny_sequenceKey c.typeIs (by decide) ?_)
 show Xi (Yz (name:=Str.ofString "__getitem__") c.typeIs YF
  (YT YF c.typeIs entry_tuple_getitem ?_ (args_tuple_getitem _ _)))
 change wpAny _ _ (Builtin.Tuple.tupleItemsOf (.ref t) >>= _) _ _ s;show Xi (tupleItemsOf_ c ?_);show Xi (wpAny_typeOf i ?_);rw[Xr (by decide)];show Xi (qp m pl n ?_)
 let b:(((cD items.size 0 a:Nat):Int)==0&&(1:Int)==1&&(cD items.size items.size d-cD items.size 0 a)==items.size)=true:=by
  rw[l.1,l.2];simp
 change wpAny _ _ (if(((cD items.size 0 a:Nat):Int)==0&&(1:Int)==1&&(cD items.size items.size d-cD items.size 0 a)==items.size)=true then _ else _) _ _ s;rw[Xr b];show Xi ?_;unfold Builtin.Tuple.tupleIsExact;show Xi (wpAny_typeOf c.typeIs (Xz (Xi (ZN (Xz ⟨_,rfl,Xz h⟩)))))
end
end HT
namespace L3
open PySem L2
open PySem.Spec hiding items?
open PyProof.Rows hiding St
abbrev DO:=cz->ag->(Option Int->ag->Prop)->Prop
def fW:DO:=λ_ a K=>K none a
def jZ(t:DE):DO:=λσ b K=>t σ b λd a=>match d with| .int i=>K (some i) a|_=>False
def cutD(a:List D)(b c:Option Int):List D:=(a.drop (HT.cD a.length 0 b)).take (HT.cD a.length a.length c-HT.cD a.length 0 b)
def En(d:D)(b c:Option Int)(st:ag)(K:DK):Prop:=match d with
 | .lst a=>K (.lst (cutD a b c)) st
 | .tup a=>K (.tup (cutD a b c)) st
 | .ref n=>(match st[n]? with|some (.lst a)=>K (.lst (cutD a b c)) st|_=>False)
 |_=>False
@[irreducible] def ka:D->Option Int->Option Int->ag->DK->Prop:=En
def iu(t:DE)(f g:DO):DE:=λσ e K=>t σ e λd c=>f σ c λl b=>g σ b λu a=>ka d l u a K
def xi(r:aG α G a vs):aG α G (cutD a b c) (sS vs b c):=by
 unfold cutD sS;rw[<-r.length];show bL.mpr (wD _ (wM _ (bL.mp r)))
def Xe(α:List (Option Addr))(G F:Hp)(K:Option Int->ag->Prop)(Q:Option Int->Hp->Prop):Prop:=∀o a,K o a->∀c b d,Step α G c b->cG b F d->aY c a b->Q o d
inductive VJ(t:DO)(σ:L2.St)(H:Hp)(Q:Option Int->Hp->Prop):Prop
 |mk (α:List (Option Addr)) (σd:cz) (st:ag) (K:Option Int->ag->Prop) (G F:Hp) (P:cG G F H) (R:fv α G σd σ) (S:aY α st G) (h:t σd st K) (k:Xe α G F K Q):VJ t σ H Q
def LO(t:DO):TO:=VJ t
section
variable {X:Cx}
def PO.imp{e:Option Expr}(h:PO X e t)(f:∀σ H Q,t' σ H Q->t σ H Q):PO X e t':=λa s σ H Q I q=>h a s σ H Q I (f σ H Q q)
def Po:PO X none (LO fW):=PO.imp Pd λσ H Q ⟨α,b,a,K,G,F,P,R,S,t,k⟩=>k none a t α G H Step.refl P S
def Oz{e:Expr}(h:PE X e (LE b)):PO X (some e) (LO (jZ b)):=PO.imp (PC h) λσ H Q ⟨α,f,i,K,G,F,P,R,S,t,k⟩=>by
 show⟨α,f,i,_,G,F,P,R,S,t,λd a q g n H1 v j m l c=>?_⟩;cases d<;>try show q.elim
 unfold Rep at c;show⟨_,c,k _ a q g n H1 j m l⟩
def W8(x:V)(b c:Option Int)(H:Hp)(Q:VK):Prop:=∃α d a K G F,cG G F H/\Rep α G d x/\aY α a G/\ka d b c a K/\LK α G F K Q
def Pp:J4 X (λx c d H Q=>∃a b,x= .ref a/\H a=some (.tup b)/\((HT.cD b.length 0 c=0/\HT.cD b.length b.length d=b.length)->Q (.ref a) H)/\(¬(HT.cD b.length 0 c=0/\HT.cD b.length b.length d=b.length)->∀p,H p=none->Q (.ref p) (upd H p (.tup (sS b c d))))):=by
 intro e s σ H x v o n c d q Q I i m pl j h;obtain⟨a,b,rfl,k,u,t⟩:=h;by_cases g:HT.cD b.length 0 c=0/\HT.cD b.length b.length d=b.length
 . cases i;obtain⟨w,r,l,y⟩:=I.tuple (kF.of k);let f:w.toArray.size=b.length:=by rw[Xy];show r.length.symm
   show⟨"tuple",_,YF.lookup,l.typeIs,HT.uj l m pl j (by rw[f];show g) ⟨.ref a,H,I,rfl,u g⟩⟩
 . show Rm e s σ H _ v o n c d q Q I i m pl j ⟨a,b,rfl,.of k,g,t g⟩
def Lu{a:List D}(c:HT.cD a.length 0 b=0/\HT.cD a.length a.length d=a.length):cutD a b d=a:=by
 unfold cutD;rw[c.1,c.2];simp
def Rn:J4 X W8:=by
 intro b s σ H x v j i t w l Q I m u pl r ⟨α,d,F,K,G,J,P,c,S,q,k⟩;unfold ka En at q;cases d<;>try show q.elim
 . rename_i n;simp only at q;split at q
   . rename_i A e;obtain⟨a,E,f,D,C⟩:=S.ik e;let o:=d7 E c;subst o;show Fz b s σ H _ v j i t w l Q I m u pl r ⟨a,f,rfl,.inl (.of (P.get D)),λp g=>k.lst P q S (xi C) g⟩
   . show q.elim
 . unfold Rep at c;obtain⟨a,f,rfl,na,y,h⟩:=c;show Fz b s σ H _ v j i t w l Q I m u pl r ⟨a,f,rfl,.inl (iJ P y),λp g=>k.lst P q S (xi h) g⟩
 . rename_i A;let B:=c;unfold Rep at c;obtain⟨a,f,rfl,na,y,h⟩:=c;show Pp b s σ H _ v j i t w l Q I m u pl r ⟨a,f,rfl,P.get y,λz=>?_,λ_ p g=>k.tup P q S (xi h) g⟩;rw[<-h.length]at z;simp only at q;rw[Lu z]at q;show k.here P q S B
def ON{e:Expr}(D:PE X e (LE j))(B:PO X n (LO tl))(C:PO X o (LO i)):PE X (.Subscript e (.Slice n o none A) pos) (LE (iu j tl i)):=PE.imp (Mt Rn D B C) λσ H Q ⟨α,a,w,K,G,F,P,R,S,t,k⟩=>by
 show⟨α,a,w,_,G,F,P,R,S,t,λd f q s T H1 v h M J x=>?_⟩;show⟨s,a,f,_,T,F,M,R.step h,J,q,λl c z r O V g L I=>?_⟩;show⟨r,a,c,_,O,F,L,(R.step h).step g,I,z,λu b y p N U m P3 E=>?_⟩;show⟨p,d,b,K,N,F,P3,(x.step g).step m,E,y,((k.at h).at g).at m⟩
@[irreducible] def JO(X:Cx)(e:Option Expr)(t:DO):Prop:=PO X e (LO t)
def kP:JO X none fW:=by unfold JO;show Po
def kM{e:Expr}(h:JE X e a):JO X (some e) (jZ a):=by unfold JO;unfold JE at h;show Oz h
def jK{e:Expr}(i:JE X e b)(g:JO X c tl)(h:JO X d a):JE X (.Subscript e (.Slice c d none f) pos) (iu b tl a):=by unfold JE at*;unfold JO at*;show ON i g h
end
def AU{st:ag}{K:DK}{a:List D}{b c:Option Int}(k:K (.lst (cutD a b c)) st):ka (.lst a) b c st K:=by unfold ka;show k
def mO{st:ag}{K:DK}{a:List D}{b c:Option Int}(k:K (.tup (cutD a b c)) st):ka (.tup a) b c st K:=by unfold ka;show k
def KW{st:ag}{K:DK}{a:List D}{b c:Option Int}{n:Nat}(h:st[n]?=some (.lst a))(k:K (.lst (cutD a b c)) st):ka (.ref n) b c st K:=by unfold ka En;simp![h];show k
section
variable {prog:Program}{w:World}{A:Around}{E:Value->Shared->Prop}{s:Shared}
def Ic(e:s.heap.IsTupleIter b a n)(h:s.heap.IsTuple a aq)(f:aq[n]?=some v)
 (q:∀g,g.IsTupleIter b a (n+1)->Heap.SameBut b s.heap g->Q v {s with heap:=g}):wpAny (model prog w) A (Builtin.SmallTypes.nextOf (.ref b)) Q E s:=by
 obtain⟨m,d,k,c⟩:=id e;obtain⟨l,i,_,o,j⟩:=h;unfold Builtin.SmallTypes.nextOf;show Xi (Yz (name:=Str.ofString "__next__") e.typeIs Zp (YT Zp e.typeIs aa5 ?_ (aa1 _)));change wpAny _ _ (field (.ref b) 0 >>= _) _ _ s;show Xi (Yd d c (x:= .ref a) rfl ?_);change wpAny _ _ (if(Value.ref a==Value.none)=true then _ else _) _ _ s;rw[Xn (show¬((Value.ref a==Value.none)=true)from Yw)];change wpAny _ _ (field (.ref b) 1 >>= _) _ _ s;show Xi (Yd d c (x:= .int n 0) rfl ?_);change wpAny _ _ (seqItems? (.ref a) >>= _) _ _ s;show Xi (Ys i j ?_);simp![XX,f];show Xi (wpAny_setField d c (by simp) (Xz ⟨v,rfl,Xz (q _ ?_ (YR ..))⟩));show⟨_,aaJ _ d (Obj.isFreed_of_fields (Obj.data_mapFields c _)),(Obj.cls_mapFields ..).trans k,?_⟩;rw[Obj.data_mapFields c];simp[rawInt]
def KH(i:A.handled=none)(d:s.heap.IsTupleIter c b n)(k:s.heap.IsTuple b aq)(j:aq[n]?=none)
 (q:∀g e,Heap.ExtBut c s.heap g->(∃o,g.get? e=some o/\o.cls= .type "StopIteration")->E (.ref e) {s with heap:=g}):wpAny (model prog w) A (Builtin.SmallTypes.nextOf (.ref c)) Q E s:=by
 obtain⟨t,f,v,h⟩:=id d;obtain⟨r,l,_,u,p⟩:=k;unfold Builtin.SmallTypes.nextOf;show Xi (Yz (name:=Str.ofString "__next__") d.typeIs Zp (YT Zp d.typeIs aa5 ?_ (aa1 _)));change wpAny _ _ (field (.ref c) 0 >>= _) _ _ s;show Xi (Yd f h (x:= .ref b) rfl ?_);change wpAny _ _ (if(Value.ref b==Value.none)=true then _ else _) _ _ s;rw[Xn (show¬((Value.ref b==Value.none)=true)from Yw)];change wpAny _ _ (field (.ref c) 1 >>= _) _ _ s;show Xi (Yd f h (x:= .int n 0) rfl ?_);change wpAny _ _ (seqItems? (.ref b) >>= _) _ _ s;show Xi (Ys l p ?_);simp![XX,j];show Xi (ZN (Xi (wpAny_setField f h (by simp) ?_)));change wpAny _ _ (newExc (.type "StopIteration") [] >>= _) _ _ _;show Xi ?_;simp![newExc,newTuple];show Xi (Zr ?_ (by size_fits));show Xi (m:=firstArgMember _ _) (wpAny_of_eq (a:=Value.none) (by first|rfl|(simp![firstArgMember];rfl)) ?_);show Zr ?_ (by size_fits);simp![raiseNew];show Xi (wpAny_handled ?_);first|rw[show A.in1.handled=none from i]|rw[i]
 show Xi (Xz (wpAny_throw ?_));show q _ _ (((YR ..).extBut.push _).push _) ⟨_,XE _ rfl,rfl⟩
end
section
variable {st:ag}{K:DK}{i j:Int}{b c:Bool}{xs ys:List D}{d e:D}{n:Nat}
def eqT(h:i=j)(k:K (.bl true) st):jx (.int i) (.int j) st K:=yc (by rw[XQ h];show k)
def To(h:i≠j)(k:K (.bl false) st):jx (.int i) (.int j) st K:=yc (by rw[XG h];show k)
def eq2(f:i=j->K (.bl true) st)(a:i≠j->K (.bl false) st):jx (.int i) (.int j) st K:=by
 by_cases h:i=j
 . show eqT h (f h)
 . show To h (a h)
def neT(h:i≠j)(k:K (.bl true) st):nB (.int i) (.int j) st K:=Oi (by rw[XG h];show k)
def Jv(h:i=j)(k:K (.bl false) st):nB (.int i) (.int j) st K:=Oi (by rw[XQ h];show k)
def ne2(f:i≠j->K (.bl true) st)(a:i=j->K (.bl false) st):nB (.int i) (.int j) st K:=by
 by_cases h:i=j
 . show Jv h (a h)
 . show neT h (f h)
def WR(h:i<j)(k:K (.bl true) st):qQ (.int i) (.int j) st K:=Ct (by rw[XQ h];show k)
def W3(h:j<=i)(k:K (.bl false) st):qQ (.int i) (.int j) st K:=Ct (by rw[XG (by lia)];show k)
def KO(f:i<j->K (.bl true) st)(a:j<=i->K (.bl false) st):qQ (.int i) (.int j) st K:=by
 by_cases h:i<j
 . show WR h (f h)
 . show W3 (by lia) (a (by lia))
def WT(h:j<i)(k:K (.bl true) st):tZ (.int i) (.int j) st K:=BY (by rw[XQ h];show k)
def WW(h:i<=j)(k:K (.bl false) st):tZ (.int i) (.int j) st K:=BY (by rw[XG (by lia)];show k)
def Q8(f:j<i->K (.bl true) st)(a:i<=j->K (.bl false) st):tZ (.int i) (.int j) st K:=by
 by_cases h:j<i
 . show WT h (f h)
 . show WW (by lia) (a (by lia))
def WK(h:xs.length<=1000)(k:P):xs.length<=sizeLine/\P:=⟨by rw[Zg];lia,k⟩
def cL(h:m<=1000):m<=sizeLine:=by rw[Zg];lia
def zC(a:0<=i)(e:xs[i.toNat]?=some d):eP xs i=some d:=by
 let:=gc e;rw[Int.toNat_of_nonneg a]at this;show this
def RP(a:0<=i)(h:i.toNat<m):ke m i=some i.toNat:=by
 unfold ke;let:i<(m:Int):=by lia
 simp[a,this]
end
def gD{E:m7}(I:List D->cz->ag->Prop)(e:∀σ st,I [] σ st->ok st/\E.nx σ st)
 (c:∀x b σ st,I (x::b) σ st->(∀g d,I b g d->jR f a ok E b g d)->ok st/\∃i,f x σ=some i/\a {E with nx:=jR f a ok E b,ct:=jR f a ok E b,bk:=E.nx} i st):
 ∀b σ st,I b σ st->jR f a ok E b σ st
 | [],σ,st,h=>by unfold jR;show e σ st h
 |x::b,σ,st,h=>by unfold jR;show c x b σ st h λg d j=>gD I e c b g d j
def iz{k:fK}{c:DT}{l:DE}{ok:ag->Prop}{j:cz}{K:List D->ag->Prop}(I:List D->List D->ag->Prop)(i:∀a st,I [] a st->ok st/\K a st)
 (f:∀x e a st,I (x::e) a st->(∀d g,I e d g->eQ k c l ok j e d g K)->ok st/\∃n,k x j=some n/\c n st λb m=>if b=true then l n m λy o=>eQ k c l ok j e (a++[y]) o K else eQ k c l ok j e a m K):
 ∀e a st,I e a st->eQ k c l ok j e a st K
 | [],a,st,h=>by unfold eQ;show i a st h
 |x::e,a,st,h=>by unfold eQ;show f x e a st h λd g p=>iz I i f e d g p
def comp_map{i:fK}{j:DE}{ok:ag->Prop}{f:cz}{st:ag}{K:List D->ag->Prop}{g:D->D}(n:ok st)(c:List D)(s:∀x∈c,∀o,o (g x) st->∃d,i x f=some d/\j d st o)(k:K (c.map g) st):eQ i cT j ok f c [] st K:=by
 show iz (λr a b=>b=st/\(∀x∈r,x∈c)/\a++r.map g=c.map g) (λa b h=>?_) (λx r a b h next=>?_) c [] st ⟨rfl,λ_ h=>h,rfl⟩
 . obtain⟨rfl,_,e⟩:=h;rw[List.map_nil,YZ]at e;rw[e];show⟨n,k⟩
 . obtain⟨rfl,m,e⟩:=h;obtain⟨d,t,q⟩:=s x (m x XT) (λy l=>eQ i cT j ok f r (a++[y]) l K) (next _ _ ⟨rfl,λz p=>m z (XM _ p),by rw[<-e];simp⟩);show⟨n,d,t,q⟩
def zS{A B:DS}{E:m7}{σ:cz}{st:ag}(J:cz->ag->Prop)(h:∀nx,(∀b a,J b a->nx b a)->A {E with nx:=nx} σ st)(k:∀b a,J b a->B E b a):ay A B E σ st:=h (B E) k
def Rx(n:Nat)(K:DK)(y:D)(a:ag):Prop:=∃b,[y]=[b]/\(match a[n]? with|some (.lst c)=>c.length<sizeLine/\K .au (a.set n (.lst (c++[b])))|_=>False)
def rZ{n:Nat}{K:DK}{y:D}{st:ag}{a:List D}(e:st[n]?=some (.lst a))(h:a.length<sizeLine)(k:K .au (st.set n (.lst (a++[y])))):Rx n K y st:=by
 show⟨y,rfl,?_⟩;simp![e];show⟨h,k⟩
@[irreducible] def i5(to a:DE):DE:=sH to a
def vi{σ:cz}{st:ag}{K:DK}{i n:Nat}{b:List D}{a:DE}(c:σ[i]?=some (some (.ref n)))(e:st[n]?=some (.lst b))(h:a σ st (Rx n K)):i5 (aa i) a σ st K:=by
 unfold i5 sH aa;simp![c,e];show h
def qI{X:Cx}{o e:Expr}{b a:Pos}(h:JE X o to)(i:JE X e f)(d:attributeBase o "append" X.env (eval o X.env)=eval o X.env:=by rfl)(c:(b.endLine==a.line)=true:=by rfl)(g:notStar e=true:=by rfl):JE X (.Call (.Attribute o "append" b) [e] [] a) (i5 to f):=by
 unfold i5;show M4 h i d c g
structure Src(P:Program)(w:World)(t a:Addr)(J:Nat->Heap->Prop)(us:Array Value):Prop where
 fr:∀n g k,J n g->(∀b,b=t\/b=a->∀o,g.get? b=some o->k.get? b=some o)->J n k
 lv:∀n g,J n g->(∃o,g.get? t=some o)/\∃o,g.get? a=some o
 nx:∀n (A:Around) (s:Shared) (Q:Value->Shared->Prop) (E:Value->Shared->Prop) v,J n s.heap->us[n]?=some v->(∀k,J (n+1) k->Heap.SameBut t s.heap k->Q v {s with heap:=k})->wpAny (model P w) A (Builtin.SmallTypes.nextOf (.ref t)) Q E s
 en:∀n (A:Around) (s:Shared) (Q:Value->Shared->Prop) (E:Value->Shared->Prop),A.handled=none->J n s.heap->us[n]?=none->(∀k e,Heap.ExtBut t s.heap k->(∃o,k.get? e=some o/\o.cls= .type "StopIteration")->E (.ref e) {s with heap:=k})->wpAny (model P w) A (Builtin.SmallTypes.nextOf (.ref t)) Q E s
section
variable {P:Program}{w:World}
def src_list(t a:Addr)(c:a≠t)(us:Array Value):Src P w t a (λn g=>g.IsListIter t a n/\g.IsList a us) us where
 fr:=λn g k j f=>⟨j.1.at λo e=>f t (.inl rfl) o e,j.2.at λo e=>f a (.inr rfl) o e⟩
 lv:=λn g j=>⟨let⟨o,e,_⟩:=j.1;⟨o,e⟩,let⟨o,e,_⟩:=j.2;⟨o,e⟩⟩
 nx:=λn A s Q E v j b q=>wpAny_nextOf_list_item j.1 j.2 b λk h d=>q k ⟨h,j.2.extBut d.extBut c⟩ d
 en:=λn A s Q E i j b q=>wpAny_nextOf_list_end i j.1 j.2 b q
def OF(t a:Addr)(c:a≠t)(us:Array Value):Src P w t a (λn g=>g.IsTupleIter t a n/\g.IsTuple a us) us where
 fr:=λn g k j h=>by
  obtain⟨⟨o,e,r⟩,⟨f,p,i⟩⟩:=j;show⟨⟨o,h t (.inl rfl) o e,r⟩,⟨f,h a (.inr rfl) f p,i⟩⟩
 lv:=λn g j=>⟨let⟨o,e,_⟩:=j.1;⟨o,e⟩,let⟨o,e,_⟩:=j.2;⟨o,e⟩⟩
 nx:=λn A s Q E v j b q=>Ic j.1 j.2 b λk l d=>q k ⟨l,j.2.extBut d.extBut c⟩ d
 en:=λn A s Q E m j b q=>KH m j.1 j.2 b q
def Src.ext(S:Src P w t a J us){g k:Heap}(j:J n g)(x:Heap.ExtBut c g k)(h:c≠t)(f:c≠a):J n k:=
 S.fr n g k j λb d o e=>x b o (by rcases d with rfl|rfl;show Xp h;show Xp f) e
structure Gi(z ti to t1 t2 a1 a2:Addr):Prop where
 nd: [z,ti,to,t1,t2].Nodup
 a1:a1∉[z,ti,to,t1,t2]
 a2:a2∉[z,ti,to,t1,t2]
section
variable {z ti to t1 t2 a1 a2:Addr}
def Gi.n(D:Gi z ti to t1 t2 a1 a2):(ti≠z/\to≠z/\t1≠z/\t2≠z)/\(ti≠to/\ti≠t1/\ti≠t2)/\(to≠t1/\to≠t2)/\t1≠t2:=by
 let:=D.nd;simp![Zn,XJ,ZV,XR,Yt,Zq,List.nodup_nil]at this;obtain⟨⟨j,i,h,g⟩,⟨f,e,d⟩,⟨c,b⟩,a⟩:=this;show⟨⟨Xp j,Xp i,Xp h,Xp g⟩,⟨f,e,d⟩,⟨c,b⟩,a⟩
def Jf{A:Around}{s:Shared}{E:Value->Shared->Prop}{R K:Nat->Heap->Prop}{us vs:Array Value}{n:Nat}{x y a b:Value}{Q:Value->Shared->Prop}(D:Gi z ti to t1 t2 a1 a2)(m:Src P w t1 a1 R us)(l:Src P w t2 a2 K vs)
 (Z:IsZip s.heap z ti to .none) (pI:IsPair s.heap ti (.ref t1) (.ref t2)) (pO:IsPair s.heap to a b) (j1:R n s.heap) (j2:K n s.heap) (ex:us[n]?=some x) (ey:vs[n]?=some y)
 (q:∀k,IsZip k z ti to (rawInt s.heap.objs.size)->IsPair k to x y->R (n+1) k->K (n+1) k->IsPair k s.heap.objs.size x y->k.objs.size=s.heap.objs.size+1->
   (∀c o,c≠z->c≠to->c≠t1->c≠t2->s.heap.get? c=some o->k.get? c=some o)->Q (.ref s.heap.objs.size) {s with heap:=k}):
 wpAny (model P w) A (Builtin.«zip.__next__» ⟨[.ref z],[]⟩) (λar s'=>∃v,ar= .done (.ret v)/\Q v s') E s:=by
 obtain⟨⟨n1,M,V,U⟩,⟨n5,n6,n7⟩,⟨T,S⟩,u⟩:=D.n;let j:=D.a1;let i:=D.a2;simp![XJ,ZV,XR,Yt,Zq]at j i;change wpAny _ _ (field (.ref z) 2 >>= _) _ _ _;show Xi (Yd Z rfl (x:= .bool false) rfl ?_);change wpAny _ _ (field (.ref z) 3 >>= _) _ _ _;show Xi (Yd Z rfl (x:= .ref ti) rfl ?_);show Xi (Ys pI rfl ?_);change wpAny _ _ (Builtin.SmallTypes.ownedTupleIsFree (.ref z) >>= _) _ _ _;show Xi ?_;unfold Builtin.SmallTypes.ownedTupleIsFree;show Xi (Yd Z rfl (x:= .none) rfl (Xz ?_));simp![ZH];show Xi (ZN ?_);show Xi (Yd Z rfl (x:= .ref to) rfl ?_);show Xi (Yo Z (by simp) λk1 Z1 J=>?_);replace Z1:IsZip k1 z ti to .ellipsis:=Z1;show Xi ?_;simp![aaF,aaT,aai,aas];show Xi (Xi (Y4 ?_));change wpAny _ _ (Builtin.SmallTypes.nextOf (.ref t1) >>= _) _ _ _;show Xi (m.nx n _ _ _ _ x (m.ext j1 J.extBut (Xp V) (Xp j.1)) ex λk2 aq I=>Xz ?_);let t:IsPair k2 to a b:=I.extBut _ _ T (J.extBut _ _ M pO);show Xi (Ys t rfl ?_);show Xi (aaU t λk3 g H=>?_);replace g:IsPair k3 to x b:=g;show Xi (Zt (Xz ?_));show Xi (Xi (Y4 ?_));change wpAny _ _ (Builtin.SmallTypes.nextOf (.ref t2) >>= _) _ _ _;let ab:K n k3:=l.ext (l.ext (l.ext j2 J.extBut (Xp U) (Xp i.1)) I.extBut u (Xp i.2.2.2.1)) H.extBut S (Xp i.2.2.1);show Xi (l.nx n _ _ _ _ y ab ey λk4 Y G=>Xz ?_);let r:IsPair k4 to x b:=G.extBut _ _ S g;show Xi (Ys r rfl ?_);show Xi (aaU r λd f F=>?_);replace f:IsPair d to x y:=f;show Xi (Zt (Xz (Xz ?_)));show Xi (Ys f rfl ?_);show Xi (abN ?_);let sz:d.objs.size=s.heap.objs.size:=by rw[F.1,G.1,H.1,I.1,J.1]
 let Z5:IsZip d z ti to .ellipsis:=F.extBut _ _ (Xp M) (G.extBut _ _ (Xp U) (H.extBut _ _ (Xp M) (I.extBut _ _ (Xp V) Z1)));let W:∀c o,c≠z->c≠to->c≠t1->c≠t2->s.heap.get? c=some o->d.get? c=some o:=λc o h N c3 c4 e=>F.extBut _ _ N (G.extBut _ _ c4 (H.extBut _ _ N (I.extBut _ _ c3 (J.extBut _ _ h e))));let ah:R (n+1) d:=m.ext (m.ext (m.ext aq H.extBut T (Xp j.2.2.1)) G.extBut (Xp u) (Xp j.2.2.2.2)) F.extBut T (Xp j.2.2.1);let X:K (n+1) d:=l.ext Y F.extBut S (Xp i.2.2.1);let B:z<d.objs.size:=XC Z5;change wpAny _ _ (Builtin.SmallTypes.ownedTupleHandOut (.ref z) (.ref d.objs.size) >>= _) _ _ _;show Xi ?_;unfold Builtin.SmallTypes.ownedTupleHandOut;let Z6:IsZip (d.push {cls:= .type "tuple",data:= .seq #[x,y]}) z ti to .ellipsis:=Xj _ Z5;show Xi (Yo Z6 (by simp) λk7 Z7 b7=>?_);replace Z7:IsZip k7 z ti to (rawInt d.objs.size):=Z7;show Yo Z7 (by simp) λC O b8=>?_;replace O:IsZip C z ti to (rawInt d.objs.size):=O;let L:∀c o,c≠z->d.get? c=some o->C.get? c=some o:=λc o h e=>b8.extBut _ _ h (b7.extBut _ _ h (Xj _ e));let pT:IsPair C d.objs.size x y:=b8.extBut _ _ (Y0 B) (b7.extBut _ _ (Y0 B) (XE _ rfl));let p:C.objs.size=d.objs.size+1:=by rw[b8.1,b7.1,Yj]
 rw[sz]at O pT p;show Xz ⟨_,rfl,?_⟩;change Q (.ref d.objs.size) _;rw[sz];show q C O (L _ _ M f) (m.fr _ _ _ ah λb hb o e=>L b o ?_ e) (l.fr _ _ _ X λb hb o e=>L b o ?_ e) pT p λc o h N c3 c4 e=>L c o h (W c o h N c3 c4 e)
 . rcases hb with rfl|rfl
   . show V
   . show j.1
 . rcases hb with rfl|rfl
   . show U
   . show i.1
def L6{A:Around}{s:Shared}(U:A.handled=none)(D:Gi z ti to t1 t2 a1 a2)(L:Src P w t1 a1 N us)(y:Src P w t2 a2 M vs)
 (Z:IsZip s.heap z ti to .none) (pI:IsPair s.heap ti (.ref t1) (.ref t2)) (pO:IsPair s.heap to a b) (j1:N n s.heap) (j2:M n s.heap) (he:us[n]?=none\/vs[n]?=none)
 (q:∀k e,(∀c o,c≠z->c≠to->c≠t1->c≠t2->s.heap.get? c=some o->k.get? c=some o)->(∃o,k.get? e=some o/\o.cls= .type "StopIteration")->E (.ref e) {s with heap:=k}):
 wpAny (model P w) A (Builtin.«zip.__next__» ⟨[.ref z],[]⟩) Q E s:=by
 obtain⟨⟨n1,R,C,O⟩,⟨n5,n6,n7⟩,⟨n8,n9⟩,F⟩:=D.n;let S:=D.a1;let u:=D.a2;simp![XJ,ZV,XR,Yt,Zq]at S u;change wpAny _ _ (field (.ref z) 2 >>= _) _ _ _;show Xi (Yd Z rfl (x:= .bool false) rfl ?_);change wpAny _ _ (field (.ref z) 3 >>= _) _ _ _;show Xi (Yd Z rfl (x:= .ref ti) rfl ?_);show Xi (Ys pI rfl ?_);change wpAny _ _ (Builtin.SmallTypes.ownedTupleIsFree (.ref z) >>= _) _ _ _;show Xi ?_;unfold Builtin.SmallTypes.ownedTupleIsFree;show Xi (Yd Z rfl (x:= .none) rfl (Xz ?_));simp![ZH];show Xi (ZN ?_);show Xi (Yd Z rfl (x:= .ref to) rfl ?_);show Xi (Yo Z (by simp) λT v t=>?_);replace v:IsZip T z ti to .ellipsis:=v;show Xi ?_;simp![aaF,aaT,aai,aas];show Xi (Xi (Y4 ?_));change wpAny _ _ (Builtin.SmallTypes.nextOf (.ref t1) >>= _) _ _ _;let p:N n T:=L.ext j1 t.extBut (Xp C) (Xp S.1);cases ex:us[n]? with
 |none=>
  show Xi (L.en n _ _ _ _ U p ex λH e j J=>?_);obtain⟨B,d,g⟩:=J;let Y:IsZip H z ti to .ellipsis:=j _ _ (Xp C) v;let i:e≠z:=λc=>by subst c;rw[Y]at d;cases d;simp at g
  show Yo Y (by simp) λG _ l=>q G e (λc o r _ K _ f=>l.extBut _ _ r (j _ _ K (t.extBut _ _ r f))) ⟨B,l.extBut _ _ i d,g⟩
 |some x=>
  have ey:vs[n]?=none:=by
   rcases he with h|h
   . rw[ex]at h;cases h
   . show h
  show Xi (L.nx n _ _ _ _ x p ex λH ah j=>Xz ?_);let m:IsPair H to a b:=j.extBut _ _ n8 (t.extBut _ _ R pO);show Xi (Ys m rfl ?_);show Xi (aaU m λG ab l=>?_);show Xi (Zt (Xz ?_));show Xi (Xi (Y4 ?_));change wpAny _ _ (Builtin.SmallTypes.nextOf (.ref t2) >>= _) _ _ _;let I:M n G:=y.ext (y.ext (y.ext j2 t.extBut (Xp O) (Xp u.1)) j.extBut F (Xp u.2.2.2.1)) l.extBut n9 (Xp u.2.2.1);show Xi (y.en n _ _ _ _ U I ey λk4 e W J=>?_);obtain⟨B,d,g⟩:=J;let X:IsZip k4 z ti to .ellipsis:=W _ _ (Xp O) (l.extBut _ _ (Xp R) (j.extBut _ _ (Xp C) v));let i:e≠z:=λc=>by subst c;rw[X]at d;cases d;simp at g
  show Yo X (by simp) λk5 _ V=>q k5 e (λc o r c2 K c4 f=>V.extBut _ _ r (W _ _ c4 (l.extBut _ _ c2 (j.extBut _ _ K (t.extBut _ _ r f))))) ⟨B,V.extBut _ _ i d,g⟩
end
end
def GQ{X:Cx}{pins:List (Addr×Obj)}{σ:L2.St}{H:Hp}{s:Shared}{g:Heap}{tk:Nat}{fp:List Addr}{T:Addr}{i:List V}(I:Inv X pins σ H s)(j:∀b∈fp,n_ X pins H b)
 (k:∀b o,b∉fp->s.heap.get? b=some o->g.get? b=some o) (l:s.heap.objs.size<=T) (new:d_ X.prog X.w (upd H T (.tup i)) g T (.tup i)):Inv X pins σ (upd H T (.tup i)) {s with heap:=g,toks:=tk}:=by
 let w:H T=none:=I.aK.fresh l;let d:∀b u,H b=some u->b∉fp:=λb u e z=>by rw[(j b z).1]at e;cases e
 let f:∀b u,H b=some u->b≠T:=λb u e=>eA e w
 show I.step (g':=s.gens) (d':=s.drawn) (ch:=fp) (λb h=>?_) (λb o _ _ a e _=>k b o a e) (λb o _ _ a e _=>⟨o.slots,k b o a e⟩) (λb o _ e n=>?_) (λb o a e=>⟨o,k b o a e⟩)
  (λb p e=>by rw[aD (f b _ e)];show e) (λb o u e=>by rw[aD (f b _ e)];show e) (λb F e=>⟨#[],by rw[aD (f b _ e),e];simp⟩) (λm x=>?_) (λb u e=>?_) I.bare
 . obtain⟨J,C,G,B,A,y⟩:=j b h;show⟨B,C,A,y⟩
 . rw[aD (XU (XF (XC e) l))];show n
 . obtain⟨o,D,E,t,r⟩:=x;show⟨o,D,E,k _ o (λz=>(j _ z).2.1 rfl) t,r⟩
 . by_cases h:b=T
   . subst h;rw[a_]at e;cases e;show new
   . rw[aD h]at e;show(I.aK b u e).rT (λc v a q=>k c v ?_ q) (λc q=>by rw[aD (f c _ q)];show q) λc p q=>by rw[aD (f c _ q)];show q
     rcases a with z|z
     . rw[z];show d b u e
     . show d c _ z
def GK{X:Cx}{pins:List (Addr×Obj)}{σ:L2.St}{H:Hp}{s:Shared}{g:Heap}{tk:Nat}{fp:List Addr}(I:Inv X pins σ H s)(f:∀b∈fp,n_ X pins H b)
 (k:∀b o,b∉fp->s.heap.get? b=some o->g.get? b=some o):Inv X pins σ H {s with heap:=g,toks:=tk}:=by
 let d:∀b u,H b=some u->b∉fp:=λb u e z=>by rw[(f b z).1]at e;cases e
 show I.step (g':=s.gens) (d':=s.drawn) (ch:=fp) (λb l=>?_) (λb o _ _ a e _=>k b o a e) (λb o _ _ a e _=>⟨o.slots,k b o a e⟩) (λb o _ e n=>n) (λb o a e=>⟨o,k b o a e⟩)
  (λb h e=>e) (λb o u e=>e) (λb B e=>⟨#[],by rw[e];simp⟩) (λm j=>?_) (λb u e=>?_) I.bare
 . obtain⟨D,x,C,w,t,p⟩:=f b l;show⟨w,x,t,p⟩
 . obtain⟨o,y,A,i,r⟩:=j;show⟨o,y,A,k _ o (λz=>(f _ z).2.1 rfl) i,r⟩
 . show(I.aK b u e).rT (λc v a q=>k c v ?_ q) (λc q=>q) λc h q=>q;rcases a with z|z
   . rw[z];show d b u e
   . show d c _ z
inductive SK where
 |l|t
def kX(k:SK)(K:PySem.W.Frag)(H:Hp)(a:Addr)(b:List V):Prop:=match k with
 | .l=>oC K H a b
 | .t=>kF K H a b
def nD(k:SK)(t a:Addr)(n:Nat)(g:Heap):Prop:=match k with
 | .l=>g.IsListIter t a n
 | .t=>g.IsTupleIter t a n
def iw(k:SK)(g:Heap)(a:Addr)(us:Array Value):Prop:=match k with
 | .l=>g.IsList a us
 | .t=>g.IsTuple a us
def qX(k:SK)(a:Addr):Obj:=match k with
 | .l=>{cls:= .type "list_iterator",data:= .fields #[.ref a,.int 0 0]}
 | .t=>{cls:= .type "tuple_iterator",data:= .fields #[.ref a,.int 0 0]}
def jh(k:SK)(t a:Addr)(b:a≠t)(us:Array Value):Src P w t a (λn g=>nD k t a n g/\iw k g a us) us:=by
 cases k
 . show src_list t a b us
 . show OF t a b us
def fG{X:Cx}{pins:List (Addr×Obj)}{σ:L2.St}{H:Hp}{s:Shared}{k:SK}{a:Addr}{c:List V}(I:Inv X pins σ H s)(h:kX k X.K H a c):∃aq:List Value,Vals c aq/\iw k s.heap a aq.toArray:=by
 cases k
 . obtain⟨aq,b,p,_⟩:=I.list h;show⟨aq,b,p.isList⟩
 . obtain⟨aq,b,p,_⟩:=I.tuple h;show⟨aq,b,p⟩
def pP{X:Cx}{pins:List (Addr×Obj)}{σ:L2.St}{H:Hp}{s:Shared}{k:SK}{a:Addr}{b ys:List V}(I:Inv X pins σ H s)(h:kX k X.K H a b)(h':kX k X.K H a ys):b=ys:=by
 cases k
 . show I.EG h h'
 . show I.AD h h'
def uz{s:Shared}{k:SK}(h:iw k s.heap a us)(q:Q (.ref s.heap.objs.size) {s with heap:=s.heap.push (qX k a)}):wpAny (model P w) A (pyIter (.ref a)) Q E s:=by
 cases k
 . show aay h q
 . show ZM h q
def iw.push{k:SK}{g:Heap}(h:iw k g a us)(o:Obj):iw k (g.push o) a us:=by
 cases k
 . obtain⟨b,e,r⟩:=h;show⟨b,Xj _ e,r⟩
 . obtain⟨b,e,r⟩:=h;show⟨b,Xj _ e,r⟩
def iw.some{k:SK}{g:Heap}(h:iw k g a us):∃o,g.get? a=Option.some o:=by
 cases k
 . obtain⟨b,e,r⟩:=h;show⟨b,e⟩
 . obtain⟨b,e,r⟩:=h;show⟨b,e⟩
def sI{k:SK}{g h:Heap}(e:g.get? t=Option.some (qX k a)):nD k t a 0 g:=by
 cases k
 . show⟨_,e,rfl,rfl⟩
 . show⟨_,e,rfl,rfl⟩
def jv{k:SK}{g g':Heap}(h:nD k t a n g)(b:∀o,g.get? t=Option.some o->g'.get? t=Option.some o):nD k t a n g':=by
 cases k
 . obtain⟨o,e,r⟩:=h;show⟨o,b o e,r⟩
 . obtain⟨o,e,r⟩:=h;show⟨o,b o e,r⟩
def g5{k:SK}{g:Heap}(h:nD k t a n g):∃o,g.get? t=Option.some o/\∀v,o.data≠ .cell v:=by
 cases k
 . obtain⟨o,e,c,d⟩:=h;show⟨o,e,λv z=>by rw[d]at z;cases z⟩
 . obtain⟨o,e,c,d⟩:=h;show⟨o,e,λv z=>by rw[d]at z;cases z⟩
def Vv(K:PySem.W.Frag)(d c:SK)(f e:Addr):It:=
 ⟨λi H=>∃b a x y,kX d K H f b/\kX c K H e a/\b[i]?=some x/\a[i]?=some y,
  λi H v g=>∃T x y,H T=none/\v= .ref T/\g=upd H T (.tup [x,y])/\(∀b,kX d K H f b->b[i]?=some x)/\∀a,kX c K H e a->a[i]?=some y,
  λi H=>∃b a,kX d K H f b/\kX c K H e a/\(b.length<=i\/a.length<=i)⟩
def Ux(z c to e d k j:Addr)(g f:SK)(i:Nat)(h:Heap):Prop:=IsZip h z c to .none/\IsPair h c (.ref e) (.ref d)/\(∃a b,IsPair h to a b)/\nD g e k i h/\nD f d j i h
def MN{P:Program}{w:World}{K:PySem.W.Frag}{C:List Expr}{kx:Nat}{pos:Pos}{z r to n m G F:Addr}(O N:SK)(D:Gi z r to n m G F):
 Turn P w K (.Tuple C kx pos) (Vv K O N G F) [z,r,to,n,m] z (Ux z r to n m G F O N) where
 mem:=by simp
 obj:=λi h d b c=>by
  obtain⟨Z,f,⟨a,R,g⟩,l,j⟩:=d;simp![XJ,XR,ZA]at c;rcases c with rfl|rfl|rfl|rfl|rfl
  . show⟨_,Z,λv e=>by cases e⟩
  . show⟨_,f,λv e=>by cases e⟩
  . show⟨_,g,λv e=>by cases e⟩
  . show g5 l
  . show g5 j
 keep:=λi h h' d k=>by
  obtain⟨Z,f,⟨a,R,g⟩,l,j⟩:=d;show⟨k z (by simp) _ Z,k r (by simp) _ f,⟨a,R,k to (by simp) _ g⟩,jv l (k n (by simp)),jv j (k m (by simp))⟩
 item:=by
  intro X hP hw hK hc i t s σ H E I Q d hg;subst hP hw hK;obtain⟨Z,f,⟨a,R,g⟩,l,j⟩:=d;obtain⟨xs,ys,x,y,L,J,ex,ey⟩:=hg;obtain⟨U,W,l1⟩:=fG I L;obtain⟨S,V,l2⟩:=fG I J;obtain⟨u,eu,ru⟩:=W.get ex;obtain⟨v,ev,rv⟩:=V.get ey;let B:=D.a1;let A:=D.a2;simp![XJ,ZV,XR,Yt,Zq]at B A;obtain⟨⟨n1,n2,n3,n4⟩,⟨n5,n6,n7⟩,⟨n8,n9⟩,a0⟩:=D.n;let q:s.TypeIs (.ref z) "zip":=⟨_,Z,rfl⟩
  unfold pyNext;show Xi (aac (Yz (name:=Str.ofString "__next__") q Y9 (YT Y9 q aaG (Jf D (jh O n G B.2.2.2.1 U.toArray) (jh N m F A.2.2.2.2 S.toArray) Z f g ⟨l,l1⟩ ⟨j,l2⟩ (x:=u) (y:=v) (by simpa using eu) (by simpa using ev) λk Z2 ab j1 j2 pT aK M=>Xz ⟨_,rfl,?_⟩) (aaz _))));show abm (s:={s with heap:=k}) Z2 λk' Z3 p=>?_;let hT:s.heap.objs.size≠z:=Y0 (XC Z)
  let ah:∀b o,b∉[z,r,to,n,m]->s.heap.get? b=some o->k'.get? b=some o:=λb o c e=>by
   simp![XJ,ZV,XR,Yt,Zq]at c;show p.extBut _ _ c.1 (M b o c.1 c.2.2.1 c.2.2.2.1 c.2.2.2.2 e)
  show⟨.ref s.heap.objs.size,upd H s.heap.objs.size (.tup [x,y]),GQ (s:=s) (tk:=s.toks) I Q ah (Xl _) ?_,rfl,⟨s.heap.objs.size,x,y,I.aK.fresh (Xl _),rfl,rfl,?_,?_⟩,?_,?_⟩
  . show⟨Xo rfl,[u,v],.cons ru (.cons rv .nil),?_⟩;show⟨_,p.extBut _ _ hT pT,rfl,_,rfl⟩
  . intro au Y;rw[pP I Y L];show ex
  . intro ar Y;rw[pP I Y J];show ey
  . show⟨Z3,p.extBut _ _ n1 (M _ _ n1 n5 n6 n7 f),⟨_,_,p.extBut _ _ n2 ab⟩,jv j1.1 λo e=>p.extBut _ _ n3 e,jv j2.1 λo e=>p.extBut _ _ n4 e⟩
  . intro b c
    let:b≠s.heap.objs.size:=by
     obtain⟨o,e,_⟩:∃o,s.heap.get? b=some o/\True:=by
      simp![XJ,XR,ZA]at c;rcases c with rfl|rfl|rfl|rfl|rfl
      . show⟨_,Z,trivial⟩
      . show⟨_,f,trivial⟩
      . show⟨_,g,trivial⟩
      . obtain⟨o,e,_⟩:=g5 l;show⟨o,e,trivial⟩
      . obtain⟨o,e,_⟩:=g5 j;show⟨o,e,trivial⟩
     show XU (XC e)
    rw[aD this];show(Q b c).1
 done:=by
  intro X hP hw hK hc i t s σ H E I Q d hg;subst hP hw hK;obtain⟨Z,f,⟨a,R,g⟩,l,j⟩:=d;obtain⟨xs,ys,L,J,he⟩:=hg;obtain⟨U,W,l1⟩:=fG I L;obtain⟨S,V,l2⟩:=fG I J;let e1:=W.length;let e2:=V.length;let B:=D.a1;let A:=D.a2;simp![XJ,ZV,XR,Yt,Zq]at B A;let q:s.TypeIs (.ref z) "zip":=⟨_,Z,rfl⟩
  unfold pyNext;show Xi (aac (Yz (name:=Str.ofString "__next__") q Y9 (YT Y9 q aaG (L6 (I.ok.hd hc) D (jh O n G B.2.2.2.1 U.toArray) (jh N m F A.2.2.2.2 S.toArray) Z f g ⟨l,l1⟩ ⟨j,l2⟩ ?_ λk e M hx=>?_) (aaz _))))
  . rcases he with h|h
    . left;simp;lia
    . right;simp;lia
  . obtain⟨o,ho,aq⟩:=hx;show Xi (abv (T:="StopIteration") (b:=true) ⟨o,ho,aq⟩ abO ?_);show Xz ⟨rfl,GK (s:=s) (tk:=s.toks) I Q λb o c e=>?_⟩;simp![XJ,ZV,XR,Yt,Zq]at c;show M b o c.1 c.2.2.1 c.2.2.2.1 c.2.2.2.2 e
 self:=λ_ _ _ _ _ d h=>aaH d.1 h
abbrev CP(h:Heap)(k1:SK)(a1:Addr):Heap:=h.push (qX k1 a1)
abbrev Bj(h:Heap)(k1 k2:SK)(a1 a2:Addr):Heap:=(CP h k1 a1).push (qX k2 a2)
abbrev NU(h:Heap)(k1 k2:SK)(a1 a2:Addr):Heap:=(Bj h k1 k2 a1 a2).push {cls:= .type "tuple",data:= .seq #[.ref h.objs.size,.ref (CP h k1 a1).objs.size]}
abbrev Of(h:Heap)(k1 k2:SK)(a1 a2:Addr):Heap:=(NU h k1 k2 a1 a2).push {cls:= .type "tuple",data:= .seq #[.none,.none]}
abbrev FG(h:Heap)(k1 k2:SK)(a1 a2:Addr):Heap:=(Of h k1 k2 a1 a2).push {cls:= .type "zip",data:= .fields #[.none,.bool false,.bool false,.ref (Bj h k1 k2 a1 a2).objs.size,.ref (NU h k1 k2 a1 a2).objs.size]}
def Lv(b e:SK)(a c:Addr)(us vs:Array Value):Meets (Builtin.«zip.__new__» ⟨[.type "zip",.ref a,.ref c],[]⟩) (λ_ R s=>iw b s.heap a us/\iw e s.heap c vs/\
 R (.ok (.ret (.ref (Of s.heap b e a c).objs.size))) {s with heap:=FG s.heap b e a c}):=
 .of_wp λP w A R s h=>by
  obtain⟨j,g,d,tk,f⟩:=s;obtain⟨l,k,h⟩:=h;let i:=sub_zip;let m:iw b (Shared.heap ⟨j,g,d,tk,f⟩) a us:=l;let L2:iw e (Shared.heap ⟨j.push (qX b a),g,d,tk,f⟩) c vs:=iw.push k _
  wp_walk using uz m,uz L2
  show⟨_,rfl,h⟩
def MU{s:Shared}{b e:Addr}(y:iw a s.heap b us)(v:iw d s.heap e vs)
 (q:∀g n,n=s.heap.objs.size->IsZip g (n+4) (n+2) (n+3) .none->IsPair g (n+2) (.ref n) (.ref (n+1))->IsPair g (n+3) .none .none->nD a n b 0 g->nD d (n+1) e 0 g->(∀c o,s.heap.get? c=some o->g.get? c=some o)->Q (.ref (n+4)) {s with heap:=g}):
 wpAny (model P w) A (call (.type "zip") [.ref b,.ref e]) Q E s:=by
 show callType_new F.called_zip (by decide) (F.typeCall_zip_2 _ _) (F.newCall_zip_2 _ _) (λt=>F.args_object_init_3 t _ _) F.entry_zip_new (Lv a d b e us vs) ⟨y,v,?_⟩;let j:(CP s.heap a b).objs.size=s.heap.objs.size+1:=Yj ..;let i:(Bj s.heap a d b e).objs.size=s.heap.objs.size+2:=by rw[Yj,j]
 let f:(NU s.heap a d b e).objs.size=s.heap.objs.size+3:=by rw[Yj,i]
 let l:(Of s.heap a d b e).objs.size=s.heap.objs.size+4:=by rw[Yj,f]
 let k:(FG s.heap a d b e).get? (Of s.heap a d b e).objs.size=some _:=XE _ rfl;let m:(FG s.heap a d b e).get? (NU s.heap a d b e).objs.size=some _:=Xj _ (XE _ rfl);let p:(FG s.heap a d b e).get? (Bj s.heap a d b e).objs.size=some _:=Xj _ (Xj _ (XE _ rfl));let r:(FG s.heap a d b e).get? (CP s.heap a b).objs.size=some (qX d e):=Xj _ (Xj _ (Xj _ (XE _ (by cases d<;>rfl))));let u:(FG s.heap a d b e).get? s.heap.objs.size=some (qX a b):=Xj _ (Xj _ (Xj _ (Xj _ (XE _ (by cases a<;>rfl)))));change _/\_;rw[i,f,l]at k;rw[j,i]at p;rw[f]at m;rw[j]at r;rw[l];show⟨⟨_,k,rfl⟩,q _ _ rfl k p m (sI (h:=s.heap) u) (sI (h:=s.heap) r) λc o x=>Xj _ (Xj _ (Xj _ (Xj _ (Xj _ x))))⟩
def Ea:D->SK
 | .tup _=> .t
 |_=> .l
def AG(k:SK)(G:Hp)(a:Addr)(vs:List V):Prop:=match k with
 | .l=>Rd G a (.lst vs)
 | .t=>G a=some (.tup vs)
def ft{K:PySem.W.Frag}{k:SK}{G F H:Hp}(P:cG G F H){a:Addr}{vs:List V}(h:AG k G a vs):kX k K H a vs:=by
 cases k
 . show .inl (iJ P h)
 . show kF.of (P.get h)
def g_{α:List (Option Addr)}{H:Hp}{st:ag}{d:D}{v:V}{f:List D}(S:aY α st H)(r:Rep α H d v)(e:items? st d=some f):∃p vs,v= .ref p/\aG α H f vs/\AG (Ea d) H p vs:=by
 cases d<;>try(cases e;done)
 . unfold items? at e;simp only at e;split at e
   . rename_i h q;cases e;obtain⟨a,g,vs,c,b⟩:=S.ik q;show⟨a,vs,d7 g r,b,Rd.of c⟩
   . cases e
 . cases e;unfold Rep at r;obtain⟨a,vs,rfl,_,c,b⟩:=r;show⟨a,vs,rfl,b,c⟩
 . cases e;unfold Rep at r;obtain⟨a,vs,rfl,_,c,b⟩:=r;show⟨a,vs,rfl,b,c⟩
def fg(a ys:List D):List D:=(a.zip ys).map λp=> .tup [p.1,p.2]
def gn{a ys:List D}:(fg a ys).length=min a.length ys.length:=by unfold fg;simp
def mv{a ys:List D}{n:Nat}{d:D}(e:(fg a ys)[n]?=some d):∃x y,a[n]?=some x/\ys[n]?=some y/\d= .tup [x,y]:=by
 unfold fg at e;rw[XB]at e;cases q:(a.zip ys)[n]? with
 |none=>rw[q]at e;cases e
 |some p=>
  rw[q]at e;cases e;rw[List.getElem?_zip_eq_some]at q;show⟨p.1,p.2,q.1,q.2,rfl⟩
def QM{K:PySem.W.Frag}{w t:SK}{B A:Addr}{α:List (Option Addr)}{G:Hp}{ok:ag->Prop}{r ys:List D}
 (h:∀f b a,Step α G f b->aY f a b->ok a->∃vs g,AG w b B vs/\AG t b A g/\aG f b r vs/\aG f b ys g):vc (Vv K w t B A) α G ok (fg r ys) where
 stop:=λn f b E C a s P S o k=>by
  obtain⟨vs,g,p,m,j,i⟩:=h f b a s S o;rw[gn]at k;show⟨vs,g,ft P p,ft P m,?_⟩;let:=j.length;let:=i.length;lia
 go:=λn d f b E C a s P S o k=>by
  obtain⟨vs,g,p,m,j,i⟩:=h f b a s S o;obtain⟨x,y,ex,L,rfl⟩:=mv k;obtain⟨v,ev,_⟩:=j.get ex;obtain⟨u,q,_⟩:=i.get L;show⟨vs,g,v,u,ft P p,ft P m,ev,q⟩
 qh:=λn d f b E C a x O s P S o k y=>by
  obtain⟨vs,g,p,m,j,i⟩:=h f b a s S o;obtain⟨c,e,N,M,rfl⟩:=mv k;obtain⟨T,v,u,z,rfl,rfl,H,F⟩:=y;obtain⟨Q,ev,I⟩:=j.get N;obtain⟨R,q,J⟩:=i.get M;rw[H vs (ft P p)]at ev;rw[F g (ft P m)]at q;cases ev;cases q;let l:=(P.none z).1;show⟨upd b T (.tup [v,u]),Step.laid l,P.laid z,S.laid l,?_⟩;unfold Rep;show⟨T,[v,u],rfl,S.mh l,a_,?_⟩;unfold aG;show⟨v,[u],rfl,I.step (Step.laid l),?_⟩;unfold aG;show⟨u,[],rfl,J.step (Step.laid l),by unfold aG;rfl⟩
def MJ(e:List D)(a:ag)(K:List D->(ag->Prop)->ag->Prop):Prop:=match e with
 | [x,y]=>(match items? a x,items? a y with
   |some d,some c=>K (fg d c) (λb=>items? b x=some d/\items? b y=some c) a
   |_,_=>False)
 |_=>False
@[irreducible] def yu:List D->ag->(List D->(ag->Prop)->ag->Prop)->Prop:=MJ
def o9(t:DA):DI:=λσ b K=>t σ b λc a=>yu c a K
def Qg{n c b:Nat}(f:c<n)(e:b<n):Gi (n+4) (n+2) (n+3) n (n+1) c b:=by
 let g:([n+4,n+2,n+3,n,n+1]:List Nat).Nodup:=by
  simp![Zn,XJ,ZV,XR,Yt,Zq,List.nodup_nil];lia
 let d:∀a:Nat,a<n->a∉([n+4,n+2,n+3,n,n+1]:List Nat):=λa h=>by
  simp![XJ,ZV,XR,Yt,Zq];lia
 show⟨g,d c f,d b e⟩
def SI{X:Cx}(hg:Gl X "zip")(hm:X.mg "zip"=none)(ha:PA X [a,b] (LA t))(hs:starEach [a,b] X.env=[(false,eval a X.env),(false,eval b X.env)])(l:starEach [b] X.env=[(false,eval b X.env)]):
 PI X (.Tuple r kx f) (.Call (.Name "zip" p) [a,b] [] pos) (LI (o9 t)):=by
 intro j s σ H R I h;obtain⟨α,σd,st,K,G,F,P,RS,S,t,k⟩:=h;show Call_ (lX I hg hm boot_zip (YE (cj (ha pos j s σ H (λC H1=>∃u e d c,Step α G e d/\cG d F H1/\aY e c d/\aG e d u C/\yu u c K) I ⟨α,σd,st,_,G,F,P,RS,S,t,λu c q e d H1 C i w v J=>⟨u,e,d,c,i,w,v,J,q⟩⟩) λus i ⟨C,H1,z,rv,u,e,d,c,w1,w,v,J,q⟩=>?_) (by rw[hs,l]) (by rw[l];rfl)));unfold yu MJ at q;split at q
 . rename_i x y;split at q
   . rename_i xs ys ex ey;obtain⟨v1,v2,rfl,T,Q⟩:=qE J rfl;obtain⟨p1,ah,rfl,g1,c1⟩:=g_ v T ex;obtain⟨p2,ab,rfl,g2,c2⟩:=g_ v Q ey;obtain⟨u1,u2,rfl,E,D⟩:=vals2 rv;cases E;cases D;obtain⟨Y,_,V⟩:=fG z (ft w c1);obtain⟨W,_,U⟩:=fG z (ft w c2);show MU V U λg n L Z pI pO i1 i2 kp=>?_;obtain⟨o1,N⟩:=V.some;obtain⟨o2,M⟩:=U.some;show aaH (s:={i with heap:=g}) Z ?_;show⟨n+4,[n+4,n+2,n+3,n,n+1],_,_,H1,rfl,z.kept (t':=i.toks) kp,MN (Ea x) (Ea y) (Qg (by rw[L];show XC N) (by rw[L];show XC M)),⟨Z,pI,⟨_,_,pO⟩,i1,i2⟩,λb hb=>?_,?_⟩
     . have m:i.heap.objs.size<=b:=by
        simp![XJ,XR,ZA]at hb;rcases hb with rfl|rfl|rfl|rfl|rfl<;>(rw[<-L];first|show Xl _|show Ze _ _)
       show z.uR m (z.aK.fresh m)
     . show k _ _ c q _ e d H1 w1 w v (QM λα' G' aq O S' o=>?_);obtain⟨au,B,e1,f1,d1⟩:=g_ S' (T.step O) o.1;obtain⟨ar,A,e2,f2,d2⟩:=g_ S' (Q.step O) o.2;cases e1;cases e2;show⟨B,A,d1,d2,f1,f2⟩
   . show q.elim
 . show q.elim
def mZ{st:ag}{x y:D}{b ys:List D}{K:List D->(ag->Prop)->ag->Prop}(ex:items? st x=some b)(e:items? st y=some ys)(k:∀ok:ag->Prop,(∀a,items? a x=some b->items? a y=some ys->ok a)->K (fg b ys) ok st):yu [x,y] st K:=by
 unfold yu MJ;simp![ex,e];show k _ λa d c=>⟨d,c⟩
def Cj{X:Cx}{a b:Expr}{e:List Expr}{h:Nat}{c p pos:Pos}{g:DA}(k:Gl X "zip")(j:X.mg "zip"=none)(f:JA X [a,b] g)(i:notStar a=true:=by rfl)(d:notStar b=true:=by rfl):JI X (.Tuple e h c) (.Call (.Name "zip" p) [a,b] [] pos) (o9 g):=by
 unfold JI;unfold JA at f;show SI k j f (by rw[cP i,cP d];rfl) (cP d)
def EH(f:Nat->Int):∀n,preSum f (n+1)=f 0+preSum (λi=>f (i+1)) n
 |0=>by change preSum f 0+f 0=f 0+0;change(0:Int)+f 0=f 0+0;lia
 |n+1=>by
  let h:=EH f n;change preSum f (n+1)+f (n+1)=f 0+(preSum (λi=>f (i+1)) n+f (n+1));rw[h];lia
def FD:∀ns:List Int,preSum (λi=>ns.getD i 0) ns.length=ns.sum
 | []=>rfl
 |n::ns=>by
  rw[XH,EH];let:(λi=>(n::ns).getD (i+1) 0)=λi=>ns.getD i 0:=by funext i;simp
  rw[this,FD ns,ZJ];rfl
section
variable {X:Cx}
def BQ:f7:=λd b K=>match d with| [.lst a]=>(match qT a with|some c=>K (.int c.sum) b|none=>False)|_=>False
def qF:∀ {ns:List Int} {us:List Value},Vals (ns.map V.int) us->∀(i:Nat) (u:Value),us[i]?=some u->∃t,u=Value.int (ns.getD i 0) t
 | [],_,.nil,i,u,e=>by simp at e
 |n::ns,_,.cons h t,0,u,e=>by
  obtain⟨tk,rfl⟩:=h;simp at e;show⟨tk,by rw[<-e];rfl⟩
 |n::ns,_,.cons h t,i+1,u,e=>by
  obtain⟨tk,q⟩:=qF t i u (by simpa using e);show⟨tk,by rw[q];simp⟩
def UN(N:X.calm=true):cw X (.builtin "sum") (ip BQ):=λB s σ H W Z Q I E ⟨α,ds,st,K,G,F',P,r,S,q,k⟩=>by
 unfold BQ at q;split at q
 . rename_i V;split at q
   . rename_i f e;obtain⟨v,rfl,y⟩:=jY r rfl;unfold Rep at y;obtain⟨a,Y,rfl,na,R,O⟩:=y;obtain⟨u,rfl,D⟩:=vals1 E;cases D;let L:=Az O e;subst L;obtain⟨z,m,n,C,M,l⟩:=Inv.zK I (iJ P R);let p:s.heap.IsList a m.toArray:=⟨_,l,rfl,n,rfl⟩
     show call_sum_walkAnyB (aay p ?_);let x:a≠s.heap.objs.size:=XU (XC l);show⟨s.heap.objs.size,_,_,_,_,_,_,λi=>f.getD i 0,rfl,(Walks.list (A:=X.A.in1) (I.ok.hd N) _ a x m.toArray).toS,⟨⟨_,XE _ rfl,rfl,rfl⟩,⟨_,Xj _ l,rfl,n,rfl⟩⟩,?_,?_,?_⟩
     . intro b j;rw[Yj];simp![XJ,XR,ZA]at j;rcases j with rfl|rfl
       . show X_ _
       . show X7 (XC l)
     . intro i w J;obtain⟨t,e⟩:=qF C i w (by simpa using J);show .inl ⟨t,e⟩
     . intro c t' h
       let F:∀b o,s.heap.get? b=some o->c.heap.get? b=some o:=λb o q=>h.heap b o (by
        intro j;let:b=s.heap.objs.size:=by simpa using j
        show absurd (XC q) (by rw[this];show YL _)) (Xj _ q)
       let T:c= {s with heap:=c.heap,toks:=c.toks}:=by
        let g:=h.gens;let d:=h.drawn;let o:=h.os;cases c;cases s
        simp_all
       let U:preSum (λi=>f.getD i 0) m.toArray.size=f.sum:=by
        let:m.toArray.size=f.length:=by rw[Xy,<-M,Xk]
        rw[this];show FD f
       rw[U,T];show⟨.int f.sum,H,I.kept (t':=c.toks) F,⟨t',rfl⟩,k.here P q S (by unfold Rep;rfl)⟩
   . show q.elim
 . show q.elim
@[irreducible] def uJ:f7:=BQ
def B8(a:X.calm=true):cw X (.builtin "sum") (ip uJ):=by unfold uJ;show UN a
end
def MK{P:Program}{w:World}{K:PySem.W.Frag}{g:Str->Option Value}{b:Heap}{k:Nat}{f:Addr}{fd:FuncData}{e:List Str}{S:bV}(h:∀a st K,¬S a st K):cH P w K g b eC k f fd e (fe S):=
 ⟨λd H Q E q=>by obtain⟨α,a,st,K,G,F,_,_,_,q,_⟩:=q;show absurd q (h a st K),λA outer s H c i d Q E _ _ _ _ q=>by obtain⟨α,a,st,K,G,F,_,_,_,q,_⟩:=q;show absurd q (h a st K)⟩
def ints_map:∀ns:List Int,qT (ns.map D.int)=some ns
 | []=>rfl
 |n::ns=>by simp[qT,ints_map ns]
def CO{st:ag}{K:DK}{a:List D}{ns:List Int}(h:qT a=some ns)(k:K (.int ns.sum) st):uJ [.lst a] st K:=by unfold uJ BQ;simp![h];show k
section
variable {X:Cx}{pos:Pos}
def Cp{d e f:D}(r:aG α H b a)(q:b=[d,e,f]):∃v u t,a=[v,u,t]/\Rep α H d v/\Rep α H e u/\Rep α H f t:=by
 subst q;unfold aG at r;obtain⟨v,q,rfl,i,h⟩:=r;obtain⟨u,t,rfl,g,c⟩:=qE h rfl;show⟨v,u,t,rfl,i,g,c⟩
def nI(i j k:Nat):fK:=λd σ=>match d with| .tup [x,y,z]=>some (((σ.set i (some x)).set j (some y)).set k (some z))|_=>none
def MS{i j k:Nat}(h:PG X b (HX X.K 3 (nh (gR i) (nh (gR j) (nh (gR k) Hf))))):PG X b (LG (nI i j k)):=PG.imp h λv σ H Q ⟨α,t,A,d,K,G,F,P,R,S,r,⟨u,e,q⟩,o⟩=>by
 unfold nI at e;split at e
 . rename_i x y z;cases e;unfold Rep at r;obtain⟨a,w,rfl,na,s,p⟩:=r;obtain⟨g,f,c,rfl,n,m,l⟩:=Cp p rfl;show⟨a,_,rfl,.of (P.get s),rfl,g,_,rfl,f,_,rfl,c,_,rfl,rfl,o.here P q (((R.set i n).set j m).set k l) S⟩
 . cases e
def NO{i j k n:Nat}{x y z:Str}{d c b:Pos}(r:X.calm=true)(a:X.N.Nodup)(g:Loc X.env.scope x:=by first|show Or.inl rfl|show Or.inr rfl)(q:X.fn x=true\/X.env.scope.names.lookup x=some .local:=by first|show .inl rfl|show .inr rfl)(f:Loc X.env.scope y:=by first|show Or.inl rfl|show Or.inr rfl)(p:X.fn y=true\/X.env.scope.names.lookup y=some .local:=by first|show .inl rfl|show .inr rfl)(e:Loc X.env.scope z:=by first|show Or.inl rfl|show Or.inr rfl)(o:X.fn z=true\/X.env.scope.names.lookup z=some .local:=by first|show .inl rfl|show .inr rfl)
 (m:X.N[i]?=some x:=by rfl) (l:X.N[j]?=some y:=by rfl) (h:X.N[k]?=some z:=by rfl):JG X (.Tuple [.Name x d,.Name y c,.Name z b] n pos) (nI i j k):=by
 unfold JG;show MS (Eh r (iD (i9 a m g q) (iD (i9 a l f p) (iD (i9 a h e o) Aj))))
def A7{i j k:Nat}(h:fr[i]?=some none:=by rfl)(h':fr[j]?=some none:=by rfl)(a:fr[k]?=some none:=by rfl):qM fr (nI i j k):=λσ d g e=>by
 unfold nI at e;split at e
 . cases e;show⟨by rw[XA,XA,XA],λm x q=>?_⟩;by_cases f:m=i
   . subst f;show(mS h q).elim
   . by_cases c:m=j
     . subst c;show(mS h' q).elim
     . by_cases b:m=k
       . subst b;show(mS a q).elim
       . rw[Xq (Xp b),Xq (Xp c),Xq (Xp f)];show q
 . cases e
end
end L3
namespace L3
open PySem L2 PySem.SeqAt
open PySem.Spec hiding items?
open PyProof.Rows hiding St
section
variable {X:Cx}{pins:List (Addr×Obj)}{σ:L2.St}{H:Hp}{s:Shared}{α:List (Option Addr)}
def F3{d e:D}(h:Be d=true)(g:Be e=true)(f:Rep α H d x)(c:Rep α H e y)(b:RelV x u)(a:RelV y v):RcNeAt A s u v (!cC d e):=by
 cases d<;>cases e<;>try(first|(cases h;done)|(cases g;done))
 all_goals(unfold Rep at f c;subst f c)
 all_goals(first|(obtain⟨t,rfl⟩:=b;obtain⟨i,rfl⟩:=a)|(obtain⟨t,rfl⟩:=b;cases a)|(cases b;obtain⟨t,rfl⟩:=a)|(cases b;cases a))
 all_goals unfold cC
 . show RcNeAt.none_none
 . show RcNeAt.none_bool _
 . show RcNeAt.none_int _ _
 . show RcNeAt.none_str _ _
 . show RcNeAt.bool_none _
 . show RcNeAt.bool_bool _ _
 . show RcNeAt.bool_int _ _ _
 . show RcNeAt.bool_str _ _ _
 . show RcNeAt.int_none _ _
 . show RcNeAt.int_bool _ _ _
 . show RcNeAt.int_int _ _ _ _
 . show RcNeAt.int_str _ _ _ _
 . show RcNeAt.str_none _ _
 . show RcNeAt.str_bool _ _ _
 . show RcNeAt.str_int _ _ _ _
 . show RcNeAt.str_str _ _ _ _
def AQ(I:Inv X pins σ H s){A:Around}{e:D}(j:Be e=true)(i:Rep α H (.lst d) x)(g:Rep α H e y)(h:RelV x u)(f:RelV y v)(b:A.units<cLine):
 RcNeAt A s u v (!cC (.lst d) e)/\RcNeAt A s v u (!cC e (.lst d)):=by
 obtain⟨a,k,l,rfl,_,_,c⟩:=lst_is I i h;cases e<;>try(cases j;done)
 all_goals(unfold Rep at g;subst g)
 all_goals(first|(obtain⟨t,rfl⟩:=f)|(cases f))
 all_goals unfold cC
 . show⟨RcNeAt.list_none c b,RcNeAt.none_list c b⟩
 . show⟨RcNeAt.list_bool _ c b,RcNeAt.bool_list _ c b⟩
 . show⟨RcNeAt.list_int _ _ c b,RcNeAt.int_list _ _ c b⟩
 . show⟨RcNeAt.list_str _ _ c b,RcNeAt.str_list _ _ c b⟩
def AS(I:Inv X pins σ H s){A:Around}{e:D}(j:Be e=true)(i:Rep α H (.tup d) x)(g:Rep α H e y)(h:RelV x u)(f:RelV y v)(b:A.units<cLine):
 RcNeAt A s u v (!cC (.tup d) e)/\RcNeAt A s v u (!cC e (.tup d)):=by
 obtain⟨a,k,l,rfl,_,_,c⟩:=tup_is I i h;cases e<;>try(cases j;done)
 all_goals(unfold Rep at g;subst g)
 all_goals(first|(obtain⟨t,rfl⟩:=f)|(cases f))
 all_goals unfold cC
 . show⟨RcNeAt.tuple_none c b,RcNeAt.none_tuple c b⟩
 . show⟨RcNeAt.tuple_bool _ c b,RcNeAt.bool_tuple _ c b⟩
 . show⟨RcNeAt.tuple_int _ _ c b,RcNeAt.int_tuple _ _ c b⟩
 . show⟨RcNeAt.tuple_str _ _ c b,RcNeAt.str_tuple _ _ c b⟩
def Nv(I:Inv X pins σ H s)(n:Nat)(A:Around)(d e:D)(x y:V)(u v:Value)(G:pl n d=true)(r:pl n e=true)(l:Rep α H d x)(k:Rep α H e y)(i:RelV x u)(h:RelV y v)(Z:A.units+n<cLine):RcNeAt A s u v (!cC d e):=by
 cases n with
 |zero=>
  show F3 ?_ ?_ l k i h
  . cases d<;>first|rfl|(cases G)
  . cases e<;>first|rfl|(cases r)
 |succ n=>
  have c:A.units<cLine:=by lia
  let J:A.in1.units+n<cLine:=by rw[abu];lia
  cases d<;>try(cases G;done)
  case lst xs=>
   cases e<;>try(cases r;done)
   case lst ys=>
    obtain⟨a,L,t,rfl,C,z,q⟩:=lst_is I l i;obtain⟨b,K,g,rfl,B,w,o⟩:=lst_is I k h;let Y:=C.length;let W:=z.length;let U:=B.length;let T:=w.length;unfold cC;by_cases f:xs.length=ys.length
    . rw[pQ f];let m:t.toArray.size=g.toArray.size:=by simp![Xy];lia
      let P:xs.length=t.toArray.size:=by simp![Xy];lia
      rw[P];show RcNeAt.lists q o m c λj S R=>?_;obtain⟨p,_,N,M⟩:=jM C z j (by simpa using S);obtain⟨O,_,F,E⟩:=jM B w j (by simpa using R);show(Cr I n A.in1 _ _ p O _ _ (kr (by unfold pl at G;show G) j) (kr (by unfold pl at r;show r) j) N F (by simpa using M) (by simpa using E) J).2
    . rw[pR f];show RcNeAt.lists_lengths q o (by simp![Xy,aaR,ne_eq];lia) c
   case tup ys=>
    obtain⟨a,L,t,rfl,C,z,q⟩:=lst_is I l i;obtain⟨b,K,g,rfl,B,w,o⟩:=tup_is I k h;unfold cC;show RcNeAt.list_tuple q o c
   all_goals show(AQ I rfl l k i h c).1
  case tup xs=>
   cases e<;>try(cases r;done)
   case tup ys=>
    obtain⟨a,L,t,rfl,C,z,q⟩:=tup_is I l i;obtain⟨b,K,g,rfl,B,w,o⟩:=tup_is I k h;let Y:=C.length;let W:=z.length;let U:=B.length;let T:=w.length;unfold cC
    let key:=RcNeAt.tuples (e:=λj=>cC (xs.getD j .au) (ys.getD j .au)) q o c λj S R=>by
     obtain⟨p,_,N,M⟩:=jM C z j (by simpa using S);obtain⟨O,_,F,E⟩:=jM B w j (by simpa using R);show(Cr I n A.in1 _ _ p O _ _ (kr (by unfold pl at G;show G) j) (kr (by unfold pl at r;show r) j) N F (by simpa using M) (by simpa using E) J).2
    by_cases f:xs.length=ys.length
    . rw[pQ f];let m:t.toArray.size=g.toArray.size:=by simp![Xy];lia
      let P:xs.length=t.toArray.size:=by simp![Xy];lia
      rw[m,ab1,aaE,abX,<-m,<-P]at key;show key
    . rw[pR f];let Q:(t.toArray.size==g.toArray.size)=false:=by simp![Xy,Zc,ne_eq];lia
      rw[Q,abM]at key;show key
   case lst ys=>
    obtain⟨a,L,t,rfl,C,z,q⟩:=tup_is I l i;obtain⟨b,K,g,rfl,B,w,o⟩:=lst_is I k h;unfold cC;show RcNeAt.tuple_list q o c
   all_goals show(AS I rfl l k i h c).1
  all_goals
   cases e<;>try(cases r;done)
   case lst ys=>show(AQ I rfl k l h i c).2
   case tup ys=>show(AS I rfl k l h i c).2
   all_goals show F3 rfl rfl l k i h
def RD:dg:=λx y a K=>pl 40 x=true/\pl 40 y=true/\K (.bl (!cC x y)) a
def Uv{k:Nat}(g:cU k X.A):cm X (compareOp .NotEq) (LR RD):=λpins s σ H x y v u Q I b a ⟨α,d,e,h,K,G,j,P,f,c,S,q,k⟩=>by
 let i:=g.units;show Nv I 40 X.A d e x y v u q.1 q.2.1 (f.mono P.same) (c.mono P.same) b a (by lia) _ _ _ _ ⟨.bl (!cC d e),H,I,rfl,k.here P q.2.2 S (by unfold Rep;rfl)⟩
@[irreducible] def zo:dg:=RD
def HL{k:Nat}(a:cU k X.A):cm X (compareOp .NotEq) (LR zo):=by unfold zo;show Uv a
end
def Sl{st:ag}{K:DK}{d e:D}(b:pl 40 d=true)(a:pl 40 e=true)(k:K (.bl (!cC d e)) st):zo d e st K:=by unfold zo;show⟨b,a,k⟩
def MM{st:ag}{K:DK}{d:D}(h:pl 40 d=true)(k:K (.bl false) st):zo d d st K:=Sl h h (by rw[xS 40 d h];show k)
def J_{st:ag}{n:Nat}{a:List D}(h:items? st (.ref n)=some a):st[n]?=some (.lst a):=by
 unfold items? at h;simp only at h;split at h
 . rename_i q;cases h;show q
 . cases h
end L3
namespace L3
open PySem L2
open PySem.Spec hiding items?
open PyProof.Rows hiding St
section
variable {X:Cx}
def Oc:dg:=λx y b K=>match x,y with
 | .lst a,.int k=>(-(2^63)<=k/\k<2^63/\a.length*k.toNat<=sizeLine)/\K (.ref b.length) (b++[.lst (List.replicate k.toNat a).flatten])
 |_,_=>False
def RY:cm X (binaryOp .Mult) (LR Oc):=λb s σ H x y v u Q I j i ⟨α,d,e,n,K,G,o,P,g,f,S,q,k⟩=>by
 cases d<;>cases e<;>try show q.elim
 unfold Rep at g f;obtain⟨a,h,rfl,na,m,c⟩:=g;show F0 b s σ H _ _ v u Q I j i ⟨a,_,h,rfl,f,iJ P m,q.1.1,q.1.2.1,by rw[<-c.length];show q.1.2.2,λp l=>?_⟩;show k.new P q.2 S (bL.mpr (oq (bL.mp c) _)) l
@[irreducible] def yd:dg:=Oc
def Sg:cm X (binaryOp .Mult) (LR yd):=by unfold yd;show RY
end
def O0{st:ag}{K:DK}{a:List D}{i:Int}(h: -(2^63)<=i/\i<2^63/\a.length*i.toNat<=sizeLine)(k:K (.ref st.length) (st++[.lst (List.replicate i.toNat a).flatten])):yd (.lst a) (.int i) st K:=by unfold yd;show⟨h,k⟩
def Ji(h:d∈dS 0 n):∃i:Nat,i<n/\d= .int (i:Int):=by
 unfold dS at h;obtain⟨i,a,rfl⟩:=X5.mp h;rw[YM]at a;show⟨i,a,by rw[ZW]⟩
def KJ{f:Nat->D}(n:Nat):(dS 0 n).map (λd=>match d with| .int i=>f i.toNat|_=> .au)=(List.range n).map f:=by
 unfold dS;rw[Yk];show Zd λi _=>?_;change f ((0:Int)+(i:Int)).toNat=f i;let:((0:Int)+(i:Int)).toNat=i:=by lia
 rw[this]
def tT{e:fK}{h:DE}{b:cz}{st:ag}{K:List D->ag->Prop}(f:Nat->D)(n:Nat)(j:∀i:Nat,i<n->∀a,a (f i) st->∃c,e (.int (i:Int)) b=some c/\h c st a)(k:K ((List.range n).map f) st):eQ e cT h (λ_=>True) b (dS 0 n) [] st K:=by
 show comp_map (g:=λd=>match d with| .int i=>f i.toNat|_=> .au) trivial _ (λd m a q=>?_) (by rw[KJ];show k);obtain⟨i,l,rfl⟩:=Ji m;show j i l a q
def j8{g:fK}{a:DS}{E:m7}(n:Nat)(I:Nat->cz->ag->Prop)(h:∀σ st,I n σ st->E.nx σ st)
 (e:∀(j:Nat) σ st (rest:List D),j<n->I j σ st->(∀k b,I (j+1) k b->jR g a (λ_=>True) E rest k b)->∃p,g (.int (j:Int)) σ=some p/\a {E with nx:=jR g a (λ_=>True) E rest,ct:=jR g a (λ_=>True) E rest,bk:=E.nx} p st)
 {σ:cz} {st:ag} (s:I 0 σ st):jR g a (λ_=>True) E (dS 0 n) σ st:=by
 show gD (λrest σ st=>∃j:Nat,j<=n/\rest=(List.range (n-j)).map (λi=>D.int (((j+i:Nat):Int)))/\I j σ st) ?_ ?_ _ _ _ ⟨0,XY _,by unfold dS;simp,s⟩
 . rintro σ st ⟨j,r,c,o⟩
   let:n-j=0:=by
    cases q:n-j with
    |zero=>rfl
    |succ m=>rw[q,Y1]at c;cases c
   let l:j=n:=by lia
   subst l;show⟨trivial,h σ st o⟩
 . rintro d rest σ st ⟨j,r,c,o⟩ next
   cases q:n-j with
   |zero=>rw[q]at c;cases c
   |succ m=>
    rw[q,Y1,Ye,Yk]at c;simp![aaV]at c;obtain⟨rfl,f⟩:=c;show⟨trivial,e j σ st rest (by lia) o λk b t=>next k b ⟨j+1,by lia,?_,t⟩⟩;let:n-(j+1)=m:=by lia
    rw[this,f];show Zd λi _=>?_;change D.int (((j+(i+1):Nat):Int))=D.int (((j+1+i:Nat):Int));congr 2;lia
section
variable {X:Cx}
def z8(r:RelV x v)(h:Q (.bool (!(v== .bool b))) s):wpAny M A (compareOp .IsNot v (.bool b)) Q E s:=by
 cases x
 case bl c=>
  cases r;cases c<;>cases b<;>show Xz h
 all_goals first
  |(cases r;show Xz h)
  |(obtain⟨t,rfl⟩:=r;show Xz h)
def De:dg:=λx y a K=>match y with| .au=>live a x=true/\K (.bl (!Oe x)) a| .bl b=>live a x=true/\K (.bl (!IL x b)) a|_=>False
def ME:cm X (compareOp .IsNot) (LR De):=λa s σ H x y v u Q I c g ⟨α,d,e,i,K,G,l,P,h,f,S,q,k⟩=>by
 cases e<;>try show q.elim
 . show Qh a s σ H x y v u Q I c g ⟨α,d,.au,i,K,G,l,P,h,f,S,⟨q.1,?_⟩,k⟩;let j:=q.2;cases d<;>show j
 . rename_i b;unfold Rep at f;subst f;cases g;show z8 c ?_;rw[FR S q.1 h c];show⟨.bl (!IL d b),H,I,rfl,k.here P q.2 S (by unfold Rep;rfl)⟩
@[irreducible] def pG:dg:=De
def sr:cm X (compareOp .IsNot) (LR pG):=by unfold pG;show ME
end
section
variable {st:ag}{K:DK}{d:D}{b:Bool}
def oR(h:live st d=true)(k:K (.bl (!Oe d)) st):pG d .au st K:=by unfold pG;show⟨h,k⟩
end
end L3
namespace L3
open PySem L2
open PySem.Spec hiding items?
open PyProof.Rows hiding St
open AutoSeq1 (wpAny_loadPart')
def OE{A:Around}(m:A.handled=none)(k:SK)(t a:Addr)(c:a≠t)(us:Array Value):Draws P w A t [t,a] us.size (λi v=>us[i]?=some v) (λn g=>nD k t a n g/\iw k g a us) where
 live:=λi h z=>((jh (P:=P) (w:=w) k t a c us).lv i h z).1
 frame:=λi h r z l=>(jh (P:=P) (w:=w) k t a c us).fr i h r z λb p o e=>l b (by rcases p with rfl|rfl<;>simp) o e
 item:=λi s Q E d z q=>(jh (P:=P) (w:=w) k t a c us).nx i A s Q E us[i] z (by simp[d]) λg j f=>q _ g s.toks (by simp[d]) j f
 done:=λs Q E z q=>(jh (P:=P) (w:=w) k t a c us).en us.size A s Q E m z (by simp) q
def sZ(l:Addr)(items:Array Value)(n:Nat)(e:Option Addr)(j:Array (Option Value)):
 Meets (Builtin.«enumerate.__new__» ⟨[.type "enumerate",.ref l],[]⟩) (λ_ R s=>s.heap.get? l=some {cls:= .type "tuple",dict:=e,data:= .seq items n,slots:=j}/\
  R (.ok (.ret (.ref (s.heap.push {cls:= .type "tuple_iterator",data:= .fields #[.ref l,.int 0 0]}).objs.size)))
   {s with heap:=(s.heap.push {cls:= .type "tuple_iterator",data:= .fields #[.ref l,.int 0 0]}).push {cls:= .type "enumerate",data:= .fields #[.none,.bool false,.ref s.heap.objs.size,rawInt 0,.none,.none]}}):=
 .of_wp λf w A R s h=>by
  obtain⟨m,g,d,tk,k⟩:=s;obtain⟨a,h⟩:=h;let i:=sub_enumerate;let b:Heap.IsTuple (Shared.heap ⟨m,g,d,tk,k⟩) l items:=⟨_,a,rfl,n,rfl⟩
  wp_walk using wpAny_loadPart' a
  show wpAny_stack_any λo=>Xz ?_;split
  . rename_i c _ _ _ _ _;cases (c==Value.type "enumerate")
    . wp_walk using wpAny_loadPart' a,ZM b
      show⟨_,rfl,h⟩
    . wp_walk using wpAny_loadPart' a,ZM b
      show⟨_,rfl,h⟩
  . wp_walk using wpAny_loadPart' a,ZM b
    show⟨_,rfl,h⟩
def Lj{s:Shared}{k:SK}(c:iw k s.heap a us)
 (q:∀g,IsEnum g (s.heap.objs.size+1) s.heap.objs.size 0 .none->nD k s.heap.objs.size a 0 g->(∀b o,s.heap.get? b=some o->g.get? b=some o)->Q (.ref (s.heap.objs.size+1)) {s with heap:=g}):
 wpAny (model P w) A (call (.type "enumerate") [.ref a]) Q E s:=by
 cases k
 . show call_enumerate_list c λg t r _ p=>q g t r p
 . obtain⟨⟨c,h,u,l⟩,m,f,n,e⟩:=c;replace f:c= .type "tuple":=f;replace e:u= .seq us n:=e;subst f e
   show callType_new F.called_enumerate (by decide) (F.typeCall_enumerate_1 _) (F.newCall_enumerate_1 _) (λd=>F.args_object_init_2 d _) F.entry_enumerate_new
    (sZ a us n h l) ⟨m,?_⟩
   let i:(s.heap.push {cls:= .type "tuple_iterator",data:= .fields #[.ref a,.int 0 0]}).objs.size=s.heap.objs.size+1:=Yj ..;change _/\_;rw[i]
   let j:IsEnum ((s.heap.push {cls:= .type "tuple_iterator",data:= .fields #[.ref a,.int 0 0]}).push
    {cls:= .type "enumerate",data:= .fields #[.none,.bool false,.ref s.heap.objs.size,rawInt 0,.none,.none]}) (s.heap.objs.size+1) s.heap.objs.size 0 .none:=by
    let:=XE (s.heap.push {cls:= .type "tuple_iterator",data:= .fields #[.ref a,.int 0 0]})
     (o:={cls:= .type "enumerate",data:= .fields #[.none,.bool false,.ref s.heap.objs.size,rawInt 0,.none,.none]}) rfl
    rw[i]at this;show this
   show⟨⟨_,j,rfl⟩,q _ j ⟨_,Xj _ (XE _ rfl),rfl,rfl⟩ λb o x=>Xj _ (Xj _ x)⟩
def VC(K:PySem.W.Frag)(k:SK)(a:Addr):It:=
 ⟨λi H=>∃b x,kX k K H a b/\b[i]?=some x,
  λi H v c=>∃T x,H T=none/\v= .ref T/\c=upd H T (.tup [.int (i:Int),x])/\∀b,kX k K H a b->b[i]?=some x,
  λi H=>∃b,kX k K H a b/\b.length<=i⟩
def VQ(e t a:Addr)(k:SK)(i:Nat)(h:Heap):Prop:=(∃b,IsEnum h e t i b)/\nD k t a i h
def Kx{P:Program}{w:World}{K:PySem.W.Frag}{q:List Expr}{kx:Nat}{pos:Pos}{e t a:Addr}(k:SK)(J:e≠t)(n2:a≠e)(n3:a≠t):
 Turn P w K (.Tuple q kx pos) (VC K k a) [e,t] e (VQ e t a k) where
 mem:=by simp
 obj:=λi h f b c=>by
  obtain⟨⟨j,d⟩,l⟩:=f;simp![XJ,XR,ZA]at c;rcases c with rfl|rfl
  . show⟨_,d,λv z=>by cases z⟩
  . show g5 l
 keep:=λi h h' f C=>by
  obtain⟨⟨j,d⟩,l⟩:=f;show⟨⟨j,C e (by simp) _ d⟩,jv l (C t (by simp))⟩
 item:=by
  intro X Y N Z V i p s σ H E I D f R;subst Y N Z;obtain⟨⟨j,d⟩,l⟩:=f;obtain⟨xs,x,B,ex⟩:=R;obtain⟨m,G,L⟩:=fG I B;obtain⟨u,eu,ru⟩:=G.get ex
  let Q:i<m.toArray.size:=by
   let:=(Xm.mp eu).1;simpa using this
  show wpAny_pyNext_enum_itemD (OE (A:=X.A.in1) (show X.A.in1.handled=none from I.ok.hd V) k t a n3 m.toArray) d ⟨l,L⟩ Q J (by simp![XJ,XR,ZA,ZV];show⟨J,Xp n2⟩) λy h' tk py O hs hT ah C=>⟨_,rfl,?_⟩
  let hy:y=u:=by
   let:m[i]?=some y:=by simpa using py
   rw[eu]at this;cases this;rfl
  subst hy;show wpAny_letOwnedTupleGo_enum (s:={s with heap:=h',toks:=tk+1}) O λk' S n=>?_;let W:s.heap.objs.size≠e:=Y0 (XC d)
  let M:∀b o,b∉[e,t]->s.heap.get? b=some o->k'.get? b=some o:=λb o c r=>by
   simp![XJ,ZV,XR,Yt,Zq]at c;show n.extBut _ _ c.1 (C b o c.1 c.2 r)
  show⟨.ref s.heap.objs.size,upd H s.heap.objs.size (.tup [.int (i:Int),x]),GQ (s:=s) (tk:=tk+1) I D M (Xl _) ?_,rfl,⟨s.heap.objs.size,x,I.aK.fresh (Xl _),rfl,rfl,?_⟩,?_,?_⟩
  . show⟨Xo rfl,[.int (i:Int) tk,y],.cons ⟨tk,rfl⟩ (.cons ru .nil),?_⟩;show⟨_,n.extBut _ _ W hT,rfl,_,rfl⟩
  . intro ab q';rw[pP I q' B];show ex
  . show⟨⟨_,by simpa using S⟩,jv hs.1 λo eo=>n.extBut _ _ (Xp J) eo⟩
  . intro b c
    let:b≠s.heap.objs.size:=by
     obtain⟨o,r⟩:∃o,s.heap.get? b=some o:=by
      simp![XJ,XR,ZA]at c;rcases c with rfl|rfl
      . show⟨_,d⟩
      . obtain⟨o,eo,_⟩:=g5 l;show⟨o,eo⟩
     show XU (XC r)
    rw[aD this];show(D b c).1
 done:=by
  intro X Y N Z V i p s σ H E I D f R;subst Y N Z;obtain⟨⟨j,d⟩,l⟩:=f;obtain⟨xs,B,aq⟩:=R;obtain⟨m,G,L⟩:=fG I B;let e1:=G.length;let tz:s.TypeIs (.ref e) "enumerate":=⟨_,d,rfl⟩
  unfold pyNext;show Xi (aac (Yz (name:=Str.ofString "__next__") tz F.slot_enumerate_next (YT F.slot_enumerate_next tz F.entry_enumerate_next ?_ (F.args_enumerate_next_1 _))));change wpAny _ _ (field (.ref e) 2 >>= _) _ _ _;show Xi (Yd d rfl (x:= .ref t) rfl ?_);show Xi ((jh k t a n3 m.toArray).en i _ s _ _ (I.ok.hd V) ⟨l,L⟩ (by simp;lia) λg x n hx=>?_);obtain⟨o,O,U⟩:=hx;show Xi (abv (T:="StopIteration") (b:=true) ⟨o,O,U⟩ abO ?_);show Xz ⟨rfl,GK (s:=s) (tk:=s.toks) I D λb o c r=>?_⟩;simp![XJ,ZV,XR,Yt,Zq]at c;show n b o c.2 r
 self:=λ_ _ _ _ _ f h=>wpAny_pyIter_enum f.1.choose_spec h
def l7:Nat->List D->List D
 |_,[]=>[]
 |i,x::xs=> .tup [.int (i:Int),x]::l7 (i+1) xs
def AN:∀ {a:List D} {i:Nat},(l7 i a).length=a.length
 | [],_=>rfl
 |_::a,i=>by unfold l7;rw[XH,XH,AN]
def vq:∀ {a:List D} {i n:Nat} {d:D},(l7 i a)[n]?=some d->∃x,a[n]?=some x/\d= .tup [.int ((i+n:Nat):Int),x]
 | [],_,_,_,e=>by unfold l7 at e;cases e
 |x::a,i,0,d,e=>by
  unfold l7 at e;rw[abB]at e;cases e;show⟨x,rfl,rfl⟩
 |x::a,i,n+1,d,e=>by
  unfold l7 at e;rw[YJ]at e;obtain⟨y,c,b⟩:=vq e;show⟨y,by rw[YJ];show c,?_⟩;rw[b,show i+1+n=i+(n+1) by lia]
def OM{K:PySem.W.Frag}{k:SK}{a:Addr}{α:List (Option Addr)}{G:Hp}{ok:ag->Prop}{m:List D}
 (h:∀f e b,Step α G f e->aY f b e->ok b->∃vs,AG k e a vs/\aG f e m vs):vc (VC K k a) α G ok (l7 0 m) where
 stop:=λn f e r q b s P S o i=>by
  obtain⟨vs,j,g⟩:=h f e b s S o;rw[AN]at i;show⟨vs,ft P j,?_⟩;let:=g.length;lia
 go:=λn d f e r q b s P S o i=>by
  obtain⟨vs,j,g⟩:=h f e b s S o;obtain⟨x,ex,rfl⟩:=vq i;obtain⟨v,ev,_⟩:=g.get ex;show⟨vs,v,ft P j,ev⟩
 qh:=λn d f e r q b x z s P S o i y=>by
  obtain⟨vs,j,g⟩:=h f e b s S o;obtain⟨c,w,rfl⟩:=vq i;obtain⟨T,v,p,rfl,rfl,t⟩:=y;obtain⟨A,ev,u⟩:=g.get w;rw[t vs (ft P j)]at ev;cases ev;let l:=(P.none p).1;show⟨upd e T (.tup [.int (n:Int),v]),Step.laid l,P.laid p,S.laid l,?_⟩;unfold Rep;show⟨T,[.int (n:Int),v],rfl,S.mh l,a_,?_⟩;unfold aG;show⟨.int (n:Int),[v],rfl,?_,?_⟩
  . unfold Rep;rw[aao]
  unfold aG;show⟨v,[],rfl,u.step (Step.laid l),by unfold aG;rfl⟩
def HA(d:List D)(a:ag)(K:List D->(ag->Prop)->ag->Prop):Prop:=match d with
 | [x]=>(match items? a x with
   |some c=>K (l7 0 c) (λb=>items? b x=some c) a
   |_=>False)
 |_=>False
@[irreducible] def uC:List D->ag->(List D->(ag->Prop)->ag->Prop)->Prop:=HA
def Hv(t:DA):DI:=λσ b K=>t σ b λc a=>uC c a K
def Jd:bootBuiltins "enumerate"=some (.type "enumerate"):=by decide+kernel
def PQ{X:Cx}(hg:Gl X "enumerate")(hm:X.mg "enumerate"=none)(ha:PA X [a] (LA t))(hs:starEach [a] X.env=[(false,eval a X.env)]):
 PI X (.Tuple n kx i) (.Call (.Name "enumerate" p) [a] [] pos) (LI (Hv t)):=by
 intro j s σ H R I h;obtain⟨α,N,U,K,G,F,P,RS,S,t,k⟩:=h;show Call_ (lX I hg hm Jd (YE (cj (ha pos j s σ H (λz H1=>∃r f e c,Step α G f e/\cG e F H1/\aY f c e/\aG f e r z/\uC r c K) I ⟨α,N,U,_,G,F,P,RS,S,t,λr c q f e H1 z d v u B=>⟨r,f,e,c,d,v,u,B,q⟩⟩) λus d ⟨z,H1,w,W,r,f,e,c,O,v,u,B,q⟩=>?_) (by rw[hs];rfl) (by rfl)));unfold uC HA at q;split at q
 . rename_i x;split at q
   . rename_i xs ex;obtain⟨v1,rfl,D⟩:=jY B rfl;obtain⟨Z,Q,rfl,g1,c1⟩:=g_ u D ex;obtain⟨u1,rfl,A⟩:=vals1 W;cases A;obtain⟨J,_,E⟩:=fG w (ft v c1);show Lj E λg L i1 kp=>?_;obtain⟨o1,C⟩:=E.some;let l:Z<d.heap.objs.size:=XC C;show wpAny_pyIter_enum (s:={d with heap:=g}) L ?_;show⟨d.heap.objs.size+1,[d.heap.objs.size+1,d.heap.objs.size],_,_,H1,rfl,w.kept (t':=d.toks) kp,Kx (Ea x) (Y0 (X_ _)) (XU (X7 l)) (XU l),⟨⟨_,L⟩,i1⟩,λb M=>?_,?_⟩
     . have m:d.heap.objs.size<=b:=by
        simp![XJ,XR,ZA]at M;rcases M with rfl|rfl
        . show Nat.le_succ _
        . show Xl _
       show w.uR m (w.aK.fresh m)
     . show k _ _ c q _ f e H1 O v u (OM λα' G' T V S' o=>?_);obtain⟨Y,y,e1,f1,d1⟩:=g_ S' (D.step V) o;cases e1;show⟨y,d1,f1⟩
   . show q.elim
 . show q.elim
def Pe{st:ag}{x:D}{b:List D}{K:List D->(ag->Prop)->ag->Prop}(ex:items? st x=some b)(k:∀ok:ag->Prop,(∀a,items? a x=some b->ok a)->K (l7 0 b) ok st):uC [x] st K:=by
 unfold uC HA;simp![ex];show k _ λa c=>c
def Ku{X:Cx}{e:DA}(i:Gl X "enumerate")(h:X.mg "enumerate"=none)(d:JA X [a] e)(g:notStar a=true:=by rfl):JI X (.Tuple c f b) (.Call (.Name "enumerate" p) [a] [] pos) (Hv e):=by
 unfold JI;unfold JA at d;show PQ i h d (cP g)
end L3
namespace L3
open PySem L2
open PySem.Spec hiding items?
open PyProof.Rows hiding St
end L3
namespace L3
open PySem L2
open PySem.Spec hiding items?
open PyProof.Rows hiding St
open PySem PySem.Spec L2 PySem.SeqAt
end L3
namespace L3
open PySem L2
open PySem.Spec hiding items?
open PyProof.Rows hiding St
abbrev fP(h:Heap)(T:Addr)(a b c:Value):Prop:=h.get? T=some {cls:= .type "tuple",data:= .seq #[a,b,c]}
section
variable {P:Program}{w:World}
def fE{s:Shared}{k:Nat}(d:fP s.heap T a b c)
 (h:∀h',h'.get? T=some {cls:= .type "tuple",data:= .seq ((#[a,b,c]:Array Value).setIfInBounds k x)}->Heap.SameBut T s.heap h'->Q () {s with heap:=h'}):
 wpAny (model P w) A (updateSeq T (·.setIfInBounds k x)) Q E s:=by
 show wpAny_updateSeq d rfl (h _ ?_ (YR ..));rw[aaJ _ d rfl];simp[Obj.mapSeq]
structure N9(z ti to t1 t2 t3 a1 a2 a3:Nat):Prop where
 f:(ti≠z/\to≠z/\t1≠z/\t2≠z/\t3≠z)/\(ti≠to/\ti≠t1/\ti≠t2/\ti≠t3)/\(to≠t1/\to≠t2/\to≠t3)/\(t1≠t2/\t1≠t3/\t2≠t3)
 a1:a1≠z/\a1≠to/\a1≠t1/\a1≠t2/\a1≠t3
 a2:a2≠z/\a2≠to/\a2≠t1/\a2≠t2/\a2≠t3
 a3:a3≠z/\a3≠to/\a3≠t1/\a3≠t2/\a3≠t3
section
variable {z ti to t1 t2 t3 a1 a2 a3:Addr}
def Jo{A:Around}{s:Shared}{E:Value->Shared->Prop}{J1 J2 J3:Nat->Heap->Prop}{us vs ws:Array Value}{n:Nat}{x y u a b c:Value}{Q:Value->Shared->Prop}(D:N9 z ti to t1 t2 t3 a1 a2 a3)(p:Src P w t1 a1 J1 us)(m:Src P w t2 a2 J2 vs)(l:Src P w t3 a3 J3 ws)
 (Z:IsZip s.heap z ti to .none) (pI:fP s.heap ti (.ref t1) (.ref t2) (.ref t3)) (pO:fP s.heap to a b c) (j1:J1 n s.heap) (j2:J2 n s.heap) (j3:J3 n s.heap) (ex:us[n]?=some x) (ey:vs[n]?=some y) (ez:ws[n]?=some u)
 (q:∀k,IsZip k z ti to (rawInt s.heap.objs.size)->fP k to x y u->J1 (n+1) k->J2 (n+1) k->J3 (n+1) k->fP k s.heap.objs.size x y u->k.objs.size=s.heap.objs.size+1->
   (∀c o,c≠z->c≠to->c≠t1->c≠t2->c≠t3->s.heap.get? c=some o->k.get? c=some o)->Q (.ref s.heap.objs.size) {s with heap:=k}):
 wpAny (model P w) A (Builtin.«zip.__next__» ⟨[.ref z],[]⟩) (λa6 s'=>∃v,a6= .done (.ret v)/\Q v s') E s:=by
 obtain⟨⟨n1,T,n3,n4,B⟩,⟨n5,n6,n7,a7⟩,⟨n8,n9,h⟩,W,V,U⟩:=D.f;obtain⟨p1,p2,p3,p4,p5⟩:=D.a1;obtain⟨q1,q2,q3,q4,q5⟩:=D.a2;obtain⟨r1,r2,r3,r4,r5⟩:=D.a3;change wpAny _ _ (field (.ref z) 2 >>= _) _ _ _;show Xi (Yd Z rfl (x:= .bool false) rfl ?_);change wpAny _ _ (field (.ref z) 3 >>= _) _ _ _;show Xi (Yd Z rfl (x:= .ref ti) rfl ?_);show Xi (Ys pI rfl ?_);change wpAny _ _ (Builtin.SmallTypes.ownedTupleIsFree (.ref z) >>= _) _ _ _;show Xi ?_;unfold Builtin.SmallTypes.ownedTupleIsFree;show Xi (Yd Z rfl (x:= .none) rfl (Xz ?_));simp![ZH];show Xi (ZN ?_);show Xi (Yd Z rfl (x:= .ref to) rfl ?_);show Xi (Yo Z (by simp) λk1 Z1 M=>?_);replace Z1:IsZip k1 z ti to .ellipsis:=Z1;show Xi ?_;simp![aaF,aaT,aai,aas];show Xi (Xi (Y4 ?_));change wpAny _ _ (Builtin.SmallTypes.nextOf (.ref t1) >>= _) _ _ _;show Xi (p.nx n _ _ _ _ x (p.ext j1 M.extBut (Xp n3) (Xp p1)) ex λk2 a5 L=>Xz ?_);let S:fP k2 to a b c:=L.extBut _ _ n8 (M.extBut _ _ T pO);show Xi (Ys S rfl ?_);show Xi (fE S λk3 t K=>?_);replace t:fP k3 to x b c:=t;show Xi (Zt (Xz ?_));show Xi (Xi (Y4 ?_));change wpAny _ _ (Builtin.SmallTypes.nextOf (.ref t2) >>= _) _ _ _;let a0:J2 n k3:=m.ext (m.ext (m.ext j2 M.extBut (Xp n4) (Xp q1)) L.extBut W (Xp q3)) K.extBut n9 (Xp q2);show Xi (m.nx n _ _ _ _ y a0 ey λk4 aK J=>Xz ?_);let R:fP k4 to x b c:=J.extBut _ _ n9 t;show Xi (Ys R rfl ?_);show Xi (fE R λk5 r I=>?_);replace r:fP k5 to x y c:=r;show Xi (Zt (Xz ?_));show Xi (Xi (Y4 ?_));change wpAny _ _ (Builtin.SmallTypes.nextOf (.ref t3) >>= _) _ _ _;let ar:J3 n k5:=l.ext (l.ext (l.ext (l.ext (l.ext j3 M.extBut (Xp B) (Xp r1)) L.extBut V (Xp r3)) K.extBut h (Xp r2)) J.extBut U (Xp r4)) I.extBut h (Xp r2);show Xi (l.nx n _ _ _ _ u ar ez λk6 aq H=>Xz ?_);let O:fP k6 to x y c:=H.extBut _ _ h r;show Xi (Ys O rfl ?_);show Xi (fE O λd g G=>?_);replace g:fP d to x y u:=g;show Xi (Zt (Xz (Xz ?_)));show Xi (Ys g rfl ?_);show Xi (abN ?_);let sz:d.objs.size=s.heap.objs.size:=by rw[G.1,H.1,I.1,J.1,K.1,L.1,M.1]
 let ab:∀c o,c≠z->c≠to->c≠t1->c≠t2->c≠t3->s.heap.get? c=some o->d.get? c=some o:=λc o C c2 c3 c4 c5 e=>G.extBut _ _ c2 (H.extBut _ _ c5 (I.extBut _ _ c2 (J.extBut _ _ c4 (K.extBut _ _ c2 (L.extBut _ _ c3 (M.extBut _ _ C e))))));let Z7:IsZip d z ti to .ellipsis:=G.extBut _ _ (Xp T) (H.extBut _ _ (Xp B) (I.extBut _ _ (Xp T) (J.extBut _ _ (Xp n4) (K.extBut _ _ (Xp T) (L.extBut _ _ (Xp n3) Z1)))));let a4:J1 (n+1) d:=p.ext (p.ext (p.ext (p.ext (p.ext a5 K.extBut n8 (Xp p2)) J.extBut (Xp W) (Xp p4)) I.extBut n8 (Xp p2)) H.extBut (Xp V) (Xp p5)) G.extBut n8 (Xp p2);let au:J2 (n+1) d:=m.ext (m.ext (m.ext aK I.extBut n9 (Xp q2)) H.extBut (Xp U) (Xp q5)) G.extBut n9 (Xp q2);let ah:J3 (n+1) d:=l.ext aq G.extBut h (Xp r2);let X:z<d.objs.size:=XC Z7;change wpAny _ _ (Builtin.SmallTypes.ownedTupleHandOut (.ref z) (.ref d.objs.size) >>= _) _ _ _;show Xi ?_;unfold Builtin.SmallTypes.ownedTupleHandOut;let Z8:IsZip (d.push {cls:= .type "tuple",data:= .seq #[x,y,u]}) z ti to .ellipsis:=Xj _ Z7;show Xi (Yo Z8 (by simp) λk9 Z9 b9=>?_);replace Z9:IsZip k9 z ti to (rawInt d.objs.size):=Z9;show Yo Z9 (by simp) λf i F=>?_;replace i:IsZip f z ti to (rawInt d.objs.size):=i;let N:∀c o,c≠z->d.get? c=some o->f.get? c=some o:=λc o C e=>F.extBut _ _ C (b9.extBut _ _ C (Xj _ e));let pT:fP f d.objs.size x y u:=F.extBut _ _ (Y0 X) (b9.extBut _ _ (Y0 X) (XE _ rfl));let j:f.objs.size=d.objs.size+1:=by rw[F.1,b9.1,Yj]
 rw[sz]at i pT j;show Xz ⟨_,rfl,?_⟩;change Q (.ref d.objs.size) _;rw[sz];show q f i (N _ _ T g) (p.fr _ _ _ a4 λb Y o e=>N b o ?_ e) (m.fr _ _ _ au λb Y o e=>N b o ?_ e) (l.fr _ _ _ ah λb Y o e=>N b o ?_ e) pT j λc o C c2 c3 c4 c5 e=>N c o C (ab c o C c2 c3 c4 c5 e)
 . rcases Y with rfl|rfl
   . show n3
   . show p1
 . rcases Y with rfl|rfl
   . show n4
   . show q1
 . rcases Y with rfl|rfl
   . show B
   . show r1
def ML{A:Around}{s:Shared}(hh:A.handled=none)(D:N9 z ti to t1 t2 t3 a1 a2 a3)(S1:Src P w t1 a1 J1 us)(N:Src P w t2 a2 J2 vs)(v:Src P w t3 a3 J3 U)
 (Z:IsZip s.heap z ti to .none) (pI:fP s.heap ti (.ref t1) (.ref t2) (.ref t3)) (pO:fP s.heap to a b c) (j1:J1 n s.heap) (j2:J2 n s.heap) (j3:J3 n s.heap) (he:us[n]?=none\/vs[n]?=none\/U[n]?=none)
 (q:∀k e,(∀c o,c≠z->c≠to->c≠t1->c≠t2->c≠t3->s.heap.get? c=some o->k.get? c=some o)->(∃o,k.get? e=some o/\o.cls= .type "StopIteration")->E (.ref e) {s with heap:=k}):
 wpAny (model P w) A (Builtin.«zip.__next__» ⟨[.ref z],[]⟩) Q E s:=by
 obtain⟨⟨n1,R,O,V,H⟩,⟨n5,n6,n7,aq⟩,⟨n8,n9,G⟩,Y,X,W⟩:=D.f;obtain⟨p1,p2,p3,p4,p5⟩:=D.a1;obtain⟨q1,q2,q3,q4,q5⟩:=D.a2;obtain⟨r1,r2,r3,r4,r5⟩:=D.a3;change wpAny _ _ (field (.ref z) 2 >>= _) _ _ _;show Xi (Yd Z rfl (x:= .bool false) rfl ?_);change wpAny _ _ (field (.ref z) 3 >>= _) _ _ _;show Xi (Yd Z rfl (x:= .ref ti) rfl ?_);show Xi (Ys pI rfl ?_);change wpAny _ _ (Builtin.SmallTypes.ownedTupleIsFree (.ref z) >>= _) _ _ _;show Xi ?_;unfold Builtin.SmallTypes.ownedTupleIsFree;show Xi (Yd Z rfl (x:= .none) rfl (Xz ?_));simp![ZH];show Xi (ZN ?_);show Xi (Yd Z rfl (x:= .ref to) rfl ?_);show Xi (Yo Z (by simp) λk1 M t=>?_);replace M:IsZip k1 z ti to .ellipsis:=M;show Xi ?_;simp![aaF,aaT,aai,aas];show Xi (Xi (Y4 ?_));change wpAny _ _ (Builtin.SmallTypes.nextOf (.ref t1) >>= _) _ _ _;let J:J1 n k1:=S1.ext j1 t.extBut (Xp O) (Xp p1);cases ex:us[n]? with
 |none=>
  show Xi (S1.en n _ _ _ _ hh J ex λk2 e j K=>?_);obtain⟨F,d,g⟩:=K;let Z2:IsZip k2 z ti to .ellipsis:=j _ _ (Xp O) M;let i:e≠z:=λc=>by subst c;rw[Z2]at d;cases d;simp at g
  show Yo Z2 (by simp) λS _ l=>q S e (λc o m _ L _ _ f=>l.extBut _ _ m (j _ _ L (t.extBut _ _ m f))) ⟨F,l.extBut _ _ i d,g⟩
 |some x=>
  show Xi (S1.nx n _ _ _ _ x J ex λk2 au j=>Xz ?_);let C:fP k2 to a b c:=j.extBut _ _ n8 (t.extBut _ _ R pO);show Xi (Ys C rfl ?_);show Xi (fE C λS p l=>?_);replace p:fP S to x b c:=p;show Xi (Zt (Xz ?_));show Xi (Xi (Y4 ?_));change wpAny _ _ (Builtin.SmallTypes.nextOf (.ref t2) >>= _) _ _ _;let I:J2 n S:=N.ext (N.ext (N.ext j2 t.extBut (Xp V) (Xp q1)) j.extBut Y (Xp q3)) l.extBut n9 (Xp q2);cases ey:vs[n]? with
  |none=>
   show Xi (N.en n _ _ _ _ hh I ey λk4 e r K=>?_);obtain⟨F,d,g⟩:=K;let Z4:IsZip k4 z ti to .ellipsis:=r _ _ (Xp V) (l.extBut _ _ (Xp R) (j.extBut _ _ (Xp O) M));let i:e≠z:=λc=>by subst c;rw[Z4]at d;cases d;simp at g
   show Yo Z4 (by simp) λk5 _ u=>q k5 e (λc o m T L c4 _ f=>u.extBut _ _ m (r _ _ c4 (l.extBut _ _ T (j.extBut _ _ L (t.extBut _ _ m f))))) ⟨F,u.extBut _ _ i d,g⟩
  |some y=>
   have ez:U[n]?=none:=by
    rcases he with h|h|h
    . rw[ex]at h;cases h
    . rw[ey]at h;cases h
    . show h
   show Xi (N.nx n _ _ _ _ y I ey λk4 ar r=>Xz ?_);let B:fP k4 to x b c:=r.extBut _ _ n9 p;show Xi (Ys B rfl ?_);show Xi (fE B λk5 ah u=>?_);show Xi (Zt (Xz ?_));show Xi (Xi (Y4 ?_));change wpAny _ _ (Builtin.SmallTypes.nextOf (.ref t3) >>= _) _ _ _;let ab:J3 n k5:=v.ext (v.ext (v.ext (v.ext (v.ext j3 t.extBut (Xp H) (Xp r1)) j.extBut X (Xp r3)) l.extBut G (Xp r2)) r.extBut W (Xp r4)) u.extBut G (Xp r2);show Xi (v.en n _ _ _ _ hh ab ez λk6 e b6 K=>?_);obtain⟨F,d,g⟩:=K;let Z6:IsZip k6 z ti to .ellipsis:=b6 _ _ (Xp H) (u.extBut _ _ (Xp R) (r.extBut _ _ (Xp V) (l.extBut _ _ (Xp R) (j.extBut _ _ (Xp O) M))));let i:e≠z:=λc=>by subst c;rw[Z6]at d;cases d;simp at g
   show Yo Z6 (by simp) λk7 _ b7=>q k7 e (λc o m T L c4 c5 f=>b7.extBut _ _ m (b6 _ _ c5 (u.extBut _ _ T (r.extBut _ _ c4 (l.extBut _ _ T (j.extBut _ _ L (t.extBut _ _ m f))))))) ⟨F,b7.extBut _ _ i d,g⟩
end
end
def Q0(K:PySem.W.Frag)(f e d:SK)(j h g:Addr):It:=
 ⟨λi H=>∃c b a x y z,kX f K H j c/\kX e K H h b/\kX d K H g a/\c[i]?=some x/\b[i]?=some y/\a[i]?=some z,
  λi H v k=>∃T x y z,H T=none/\v= .ref T/\k=upd H T (.tup [x,y,z])/\(∀c,kX f K H j c->c[i]?=some x)/\(∀b,kX e K H h b->b[i]?=some y)/\∀a,kX d K H g a->a[i]?=some z,
  λi H=>∃c b a,kX f K H j c/\kX e K H h b/\kX d K H g a/\(c.length<=i\/b.length<=i\/a.length<=i)⟩
def Rp(z d to g f e o n m:Addr)(l k j:SK)(i:Nat)(h:Heap):Prop:=IsZip h z d to .none/\fP h d (.ref g) (.ref f) (.ref e)/\(∃a b c,fP h to a b c)/\nD l g o i h/\nD k f n i h/\nD j e m i h
def Jq{P:Program}{w:World}{K:PySem.W.Frag}{F:List Expr}{kx:Nat}{pos:Pos}{z A to q p n L J G:Addr}(U S R:SK)(D:N9 z A to q p n L J G):
 Turn P w K (.Tuple F kx pos) (Q0 K U S R L J G) [z,A,to,q,p,n] z (Rp z A to q p n L J G U S R) where
 mem:=by simp
 obj:=λi h d b c=>by
  obtain⟨Z,f,⟨a,Y,W,g⟩,m,l,j⟩:=d;simp![XJ,XR,ZA]at c;rcases c with rfl|rfl|rfl|rfl|rfl|rfl
  . show⟨_,Z,λv e=>by cases e⟩
  . show⟨_,f,λv e=>by cases e⟩
  . show⟨_,g,λv e=>by cases e⟩
  . show g5 m
  . show g5 l
  . show g5 j
 keep:=λi h h' d k=>by
  obtain⟨Z,f,⟨a,Y,W,g⟩,m,l,j⟩:=d;show⟨k z (by simp) _ Z,k A (by simp) _ f,⟨a,Y,W,k to (by simp) _ g⟩,jv m (k q (by simp)),jv l (k p (by simp)),jv j (k n (by simp))⟩
 item:=by
  intro X hP hw hK hc i C s σ H E I V d hg;subst hP hw hK;obtain⟨Z,f,⟨a,Y,W,g⟩,m,l,j⟩:=d;obtain⟨xs,ys,zs,x,y,zz,O,N,M,ex,ey,ez⟩:=hg;obtain⟨us,r1,l1⟩:=fG I O;obtain⟨vs,r2,l2⟩:=fG I N;obtain⟨ws,r3,l3⟩:=fG I M;obtain⟨u,eu,ru⟩:=r1.get ex;obtain⟨v,ev,rv⟩:=r2.get ey;obtain⟨wv,ew,ab⟩:=r3.get ez;obtain⟨⟨n1,n2,n3,n4,ar⟩,⟨n5,n6,n7,aq⟩,⟨n8,n9,a7⟩,bh,bc,bb⟩:=D.f;let t:s.TypeIs (.ref z) "zip":=⟨_,Z,rfl⟩
  unfold pyNext;show Xi (aac (Yz (name:=Str.ofString "__next__") t Y9 (YT Y9 t aaG (Jo D (jh U q L D.a1.2.2.1 us.toArray) (jh S p J D.a2.2.2.2.1 vs.toArray) (jh R n G D.a3.2.2.2.2 ws.toArray) Z f g ⟨m,l1⟩ ⟨l,l2⟩ ⟨j,l3⟩ (x:=u) (y:=v) (u:=wv) (by simpa using eu) (by simpa using ev) (by simpa using ew) λk Z2 ah j1 j2 j3 pT a6 Q=>Xz ⟨_,rfl,?_⟩) (aaz _))));show abm (s:={s with heap:=k}) Z2 λk' Z3 r=>?_;let hT:s.heap.objs.size≠z:=Y0 (XC Z)
  let au:∀b o,b∉[z,A,to,q,p,n]->s.heap.get? b=some o->k'.get? b=some o:=λb o c e=>by
   simp![XJ,ZV,XR,Yt,Zq]at c;show r.extBut _ _ c.1 (Q b o c.1 c.2.2.1 c.2.2.2.1 c.2.2.2.2.1 c.2.2.2.2.2 e)
  show⟨.ref s.heap.objs.size,upd H s.heap.objs.size (.tup [x,y,zz]),GQ (s:=s) (tk:=s.toks) I V au (Xl _) ?_,rfl,⟨s.heap.objs.size,x,y,zz,I.aK.fresh (Xl _),rfl,rfl,?_,?_,?_⟩,?_,?_⟩
  . show⟨Xo rfl,[u,v,wv],.cons ru (.cons rv (.cons ab .nil)),?_⟩;show⟨_,r.extBut _ _ hT pT,rfl,_,rfl⟩
  . intro a5 B;rw[pP I B O];show ex
  . intro a4 B;rw[pP I B N];show ey
  . intro a0 B;rw[pP I B M];show ez
  . show⟨Z3,r.extBut _ _ n1 (Q _ _ n1 n5 n6 n7 aq f),⟨_,_,_,r.extBut _ _ n2 ah⟩,jv j1.1 λo e=>r.extBut _ _ n3 e,jv j2.1 λo e=>r.extBut _ _ n4 e,jv j3.1 λo e=>r.extBut _ _ ar e⟩
  . intro b c
    let:b≠s.heap.objs.size:=by
     obtain⟨o,e,_⟩:∃o,s.heap.get? b=some o/\True:=by
      simp![XJ,XR,ZA]at c;rcases c with rfl|rfl|rfl|rfl|rfl|rfl
      . show⟨_,Z,trivial⟩
      . show⟨_,f,trivial⟩
      . show⟨_,g,trivial⟩
      . obtain⟨o,e,_⟩:=g5 m;show⟨o,e,trivial⟩
      . obtain⟨o,e,_⟩:=g5 l;show⟨o,e,trivial⟩
      . obtain⟨o,e,_⟩:=g5 j;show⟨o,e,trivial⟩
     show XU (XC e)
    rw[L2.aD this];show(V b c).1
 done:=by
  intro X hP hw hK hc i C s σ H E I V d hg;subst hP hw hK;obtain⟨Z,f,⟨a,Y,W,g⟩,m,l,j⟩:=d;obtain⟨xs,ys,zs,O,N,M,he⟩:=hg;obtain⟨us,r1,l1⟩:=fG I O;obtain⟨vs,r2,l2⟩:=fG I N;obtain⟨ws,r3,l3⟩:=fG I M;let e1:=r1.length;let e2:=r2.length;let e3:=r3.length;let t:s.TypeIs (.ref z) "zip":=⟨_,Z,rfl⟩
  unfold pyNext;show Xi (aac (Yz (name:=Str.ofString "__next__") t Y9 (YT Y9 t aaG (ML (I.ok.hd hc) D (jh U q L D.a1.2.2.1 us.toArray) (jh S p J D.a2.2.2.2.1 vs.toArray) (jh R n G D.a3.2.2.2.2 ws.toArray) Z f g ⟨m,l1⟩ ⟨l,l2⟩ ⟨j,l3⟩ ?_ λk e Q hx=>?_) (aaz _))))
  . rcases he with h|h|h
    . left;simp;lia
    . right;left;simp;lia
    . right;right;simp;lia
  . obtain⟨o,ho,aK⟩:=hx;show Xi (abv (T:="StopIteration") (b:=true) ⟨o,ho,aK⟩ abO ?_);show Xz ⟨rfl,GK (s:=s) (tk:=s.toks) I V λb o c e=>?_⟩;simp![XJ,ZV,XR,Yt,Zq]at c;show Q b o c.1 c.2.2.1 c.2.2.2.1 c.2.2.2.2.1 c.2.2.2.2.2 e
 self:=λ_ _ _ _ _ d h=>aaH d.1 h
def Ag(a b c:Value):checkTypeCall "zip" ⟨[a,b,c],[]⟩=pure ():=by kernel_rfl
def BI(a b c:Value):checkBuiltinCall "zip.__new__" ⟨[.type "zip",a,b,c],[]⟩=pure ():=by kernel_rfl
def uk(a b c d:Value):argsOk "object.__init__" ⟨[a,b,c,d],[]⟩:=by
 unfold argsOk;rw[signature?_of (id:="object.__init__") (n:=['_','_','t','i','n','i','_','_']) (o:=['t','c','e','j','b','o']) (by kernel_rfl) F.owner_object];kernel_rfl
abbrev N0(h:Heap)(k1 k2 k3:SK)(a1 a2 a3:Addr):Heap:=(Bj h k1 k2 a1 a2).push (qX k3 a3)
abbrev Oj(h:Heap)(k1 k2 k3:SK)(a1 a2 a3:Addr):Heap:=(N0 h k1 k2 k3 a1 a2 a3).push {cls:= .type "tuple",data:= .seq #[.ref h.objs.size,.ref (CP h k1 a1).objs.size,.ref (Bj h k1 k2 a1 a2).objs.size]}
abbrev NK(h:Heap)(k1 k2 k3:SK)(a1 a2 a3:Addr):Heap:=(Oj h k1 k2 k3 a1 a2 a3).push {cls:= .type "tuple",data:= .seq #[.none,.none,.none]}
abbrev DC(h:Heap)(k1 k2 k3:SK)(a1 a2 a3:Addr):Heap:=(NK h k1 k2 k3 a1 a2 a3).push {cls:= .type "zip",data:= .fields #[.none,.bool false,.bool false,.ref (N0 h k1 k2 k3 a1 a2 a3).objs.size,.ref (Oj h k1 k2 k3 a1 a2 a3).objs.size]}
def HW(b e i:SK)(a c f:Addr)(us vs l:Array Value):Meets (Builtin.«zip.__new__» ⟨[.type "zip",.ref a,.ref c,.ref f],[]⟩) (λ_ R s=>iw b s.heap a us/\iw e s.heap c vs/\iw i s.heap f l/\
 R (.ok (.ret (.ref (NK s.heap b e i a c f).objs.size))) {s with heap:=DC s.heap b e i a c f}):=
 .of_wp λP w A R s h=>by
  obtain⟨k,g,d,tk,j⟩:=s;obtain⟨p,o,n,h⟩:=h;let m:=sub_zip;let q:iw b (Shared.heap ⟨k,g,d,tk,j⟩) a us:=p;let L2:iw e (Shared.heap ⟨k.push (qX b a),g,d,tk,j⟩) c vs:=iw.push o _;let L3:iw i (Shared.heap ⟨(k.push (qX b a)).push (qX e c),g,d,tk,j⟩) f l:=iw.push (iw.push n _) _
  wp_walk using uz q,uz L2,uz L3
  show⟨_,rfl,h⟩
def K3{s:Shared}{b e i:Addr}(H:iw a s.heap b us)(G:iw d s.heap e vs)(D:iw f s.heap i t)
 (q:∀g n,n=s.heap.objs.size->IsZip g (n+5) (n+3) (n+4) .none->fP g (n+3) (.ref n) (.ref (n+1)) (.ref (n+2))->fP g (n+4) .none .none .none->nD a n b 0 g->nD d (n+1) e 0 g->nD f (n+2) i 0 g->(∀c o,s.heap.get? c=some o->g.get? c=some o)->Q (.ref (n+5)) {s with heap:=g}):
 wpAny (model P w) A (call (.type "zip") [.ref b,.ref e,.ref i]) Q E s:=by
 show callType_new F.called_zip (by decide) (Ag _ _ _) (BI _ _ _) (λB=>uk B _ _ _) F.entry_zip_new (HW a d f b e i us vs t) ⟨H,G,D,?_⟩;let m:(CP s.heap a b).objs.size=s.heap.objs.size+1:=Yj ..;let l:(Bj s.heap a d b e).objs.size=s.heap.objs.size+2:=by rw[Yj,m]
 let k:(N0 s.heap a d f b e i).objs.size=s.heap.objs.size+3:=by rw[Yj,l]
 let j:(Oj s.heap a d f b e i).objs.size=s.heap.objs.size+4:=by rw[Yj,k]
 let r:(NK s.heap a d f b e i).objs.size=s.heap.objs.size+5:=by rw[Yj,j]
 let p:(DC s.heap a d f b e i).get? (NK s.heap a d f b e i).objs.size=some _:=XE _ rfl;let u:(DC s.heap a d f b e i).get? (Oj s.heap a d f b e i).objs.size=some _:=Xj _ (XE _ rfl);let v:(DC s.heap a d f b e i).get? (N0 s.heap a d f b e i).objs.size=some _:=Xj _ (Xj _ (XE _ rfl));let y:(DC s.heap a d f b e i).get? (Bj s.heap a d b e).objs.size=some (qX f i):=Xj _ (Xj _ (Xj _ (XE _ (by cases f<;>rfl))));let z:(DC s.heap a d f b e i).get? (CP s.heap a b).objs.size=some (qX d e):=Xj _ (Xj _ (Xj _ (Xj _ (XE _ (by cases d<;>rfl)))));let C:(DC s.heap a d f b e i).get? s.heap.objs.size=some (qX a b):=Xj _ (Xj _ (Xj _ (Xj _ (Xj _ (XE _ (by cases a<;>rfl))))));change _/\_;rw[k,j,r]at p;rw[m,l,k]at v;rw[j]at u;rw[l]at y;rw[m]at z;rw[r];show⟨⟨_,p,rfl⟩,q _ _ rfl p v u (sI (h:=s.heap) C) (sI (h:=s.heap) z) (sI (h:=s.heap) y) λc o x=>Xj _ (Xj _ (Xj _ (Xj _ (Xj _ (Xj _ x)))))⟩
def dW:List D->List D->List D->List D
 |x::xs,y::ys,z::zs=> .tup [x,y,z]::dW xs ys zs
 |_,_,_=>[]
def qK:∀ {b ys a:List D},(dW b ys a).length=min b.length (min ys.length a.length)
 | [],_,_=>by unfold dW;simp
 |_::_,[],_=>by unfold dW;simp
 |_::_,_::_,[]=>by unfold dW;simp
 |x::b,y::ys,z::a=>by unfold dW;rw[XH,qK];simp![XH];lia
def qP:∀ {g ys f:List D} {n:Nat} {d:D},(dW g ys f)[n]?=some d->∃x y z,g[n]?=some x/\ys[n]?=some y/\f[n]?=some z/\d= .tup [x,y,z]
 | [],_,_,_,_,e=>by unfold dW at e;cases e
 |_::_,[],_,_,_,e=>by unfold dW at e;cases e
 |_::_,_::_,[],_,_,e=>by unfold dW at e;cases e
 |x::g,y::ys,z::f,0,d,e=>by
  unfold dW at e;rw[abB]at e;cases e;show⟨x,y,z,rfl,rfl,rfl,rfl⟩
 |x::g,y::ys,z::f,n+1,d,e=>by
  unfold dW at e;rw[YJ]at e;obtain⟨a,b,c,k,j,i,h⟩:=qP e;show⟨a,b,c,by rw[YJ];show k,by rw[YJ];show j,by rw[YJ];show i,h⟩
def OS{K:PySem.W.Frag}{I H F:SK}{N M L:Addr}{α:List (Option Addr)}{G:Hp}{ok:ag->Prop}{E ys C:List D}
 (h:∀g b a,Step α G g b->aY g a b->ok a->∃vs i us,AG I b N vs/\AG H b M i/\AG F b L us/\aG g b E vs/\aG g b ys i/\aG g b C us):vc (Q0 K I H F N M L) α G ok (dW E ys C) where
 stop:=λn g b Q O a s P S o p=>by
  obtain⟨vs,i,us,w,r,q,m,l,k⟩:=h g b a s S o;rw[qK]at p;show⟨vs,i,us,ft P w,ft P r,ft P q,?_⟩;let:=m.length;let:=l.length;let:=k.length;lia
 go:=λn d g b Q O a s P S o p=>by
  obtain⟨vs,i,us,w,r,q,m,l,k⟩:=h g b a s S o;obtain⟨x,y,z,ex,ey,Z,rfl⟩:=qP p;obtain⟨v,ev,_⟩:=m.get ex;obtain⟨u,A,_⟩:=l.get ey;obtain⟨t,B,_⟩:=k.get Z;show⟨vs,i,us,v,u,t,ft P w,ft P r,ft P q,ev,A,B⟩
 qh:=λn d g b Q O a x ab s P S o p y=>by
  obtain⟨vs,i,us,w,r,q,m,l,k⟩:=h g b a s S o;obtain⟨c,e,f,ec,ee,ef,rfl⟩:=qP p;obtain⟨T,v,u,t,J,rfl,rfl,V,U,R⟩:=y;obtain⟨v',ev,W⟩:=m.get ec;obtain⟨u',A,X⟩:=l.get ee;obtain⟨t',B,Y⟩:=k.get ef;rw[V vs (ft P w)]at ev;rw[U i (ft P r)]at A;rw[R us (ft P q)]at B;cases ev;cases A;cases B;let j:=(P.none J).1;show⟨L2.upd b T (.tup [v,u,t]),Step.laid j,P.laid J,S.laid j,?_⟩;unfold Rep;show⟨T,[v,u,t],rfl,S.mh j,a_,?_⟩;unfold aG;show⟨v,[u,t],rfl,W.step (Step.laid j),?_⟩;unfold aG;show⟨u,[t],rfl,X.step (Step.laid j),?_⟩;unfold aG;show⟨t,[],rfl,Y.step (Step.laid j),by unfold aG;rfl⟩
def Iw(f:List D)(a:ag)(K:List D->(ag->Prop)->ag->Prop):Prop:=match f with
 | [x,y,z]=>(match items? a x,items? a y,items? a z with
   |some e,some d,some c=>K (dW e d c) (λb=>items? b x=some e/\items? b y=some d/\items? b z=some c) a
   |_,_,_=>False)
 |_=>False
@[irreducible] def uQ:List D->ag->(List D->(ag->Prop)->ag->Prop)->Prop:=Iw
def BZ(t:DA):DI:=λσ b K=>t σ b λc a=>uQ c a K
def Om(f:c<n)(e:b<n)(d:a<n):N9 (n+5) (n+3) (n+4) n (n+1) (n+2) c b a:=⟨by lia,by lia,by lia,by lia⟩
def vals3(h:Vals vs us)(e:vs=[a,b,c]):∃u v w,us=[u,v,w]/\RelV a u/\RelV b v/\RelV c w:=by
 subst e;cases h with
 |cons p q=>
  cases q with
  |cons i g=>
   cases g with
   |cons f d=>
    cases d;show⟨_,_,_,rfl,p,i,f⟩
def P0{X:Cx}(hg:Gl X "zip")(hm:X.mg "zip"=none)(ha:PA X [a,b,c] (LA t))(hs:starEach [a,b,c] X.env=(false,eval a X.env)::starEach [b,c] X.env)(T:starEach [b,c] X.env=[(false,eval b X.env),(false,eval c X.env)]):
 PI X (.Tuple w kx m) (.Call (.Name "zip" p) [a,b,c] [] pos) (LI (BZ t)):=by
 intro u s σ H R I h;obtain⟨α,σd,st,K,G,F,P,RS,S,t,k⟩:=h;show Call_ (lX I hg hm boot_zip (YE (cj (ha pos u s σ H (λJ H1=>∃A f e d,Step α G f e/\cG e F H1/\aY f d e/\aG f e A J/\uQ A d K) I ⟨α,σd,st,_,G,F,P,RS,S,t,λA d q f e H1 J r j i Q=>⟨A,f,e,d,r,j,i,Q,q⟩⟩) λus r ⟨J,H1,l,rv,A,f,e,d,w1,j,i,Q,q⟩=>?_) hs (by rw[T];rfl)));unfold uQ Iw at q;split at q
 . rename_i x y z;split at q
   . rename_i xs ys zs ex ey ez;obtain⟨v1,v2,v3,rfl,q1,q2,q3⟩:=Cp Q rfl;obtain⟨p1,aK,rfl,g1,c1⟩:=g_ i q1 ex;obtain⟨p2,au,rfl,g2,c2⟩:=g_ i q2 ey;obtain⟨p3,ar,rfl,g3,c3⟩:=g_ i q3 ez;obtain⟨u1,u2,u3,rfl,O,N,M⟩:=vals3 rv rfl;cases O;cases N;cases M;obtain⟨aq,_,l1⟩:=fG l (ft j c1);obtain⟨ah,_,l2⟩:=fG l (ft j c2);obtain⟨ab,_,l3⟩:=fG l (ft j c3);show K3 l1 l2 l3 λg n B Z pI pO i1 i2 i3 kp=>?_;obtain⟨o1,W⟩:=l1.some;obtain⟨o2,V⟩:=l2.some;obtain⟨o3,U⟩:=l3.some;show aaH (s:={r with heap:=g}) Z ?_;show⟨n+5,[n+5,n+3,n+4,n,n+1,n+2],_,_,H1,rfl,l.kept (t':=r.toks) kp,Jq (Ea x) (Ea y) (Ea z) (Om (by rw[B];show XC W) (by rw[B];show XC V) (by rw[B];show XC U)),⟨Z,pI,⟨_,_,_,pO⟩,i1,i2,i3⟩,λb hb=>?_,?_⟩
     . have v:r.heap.objs.size<=b:=by
        simp![XJ,XR,ZA]at hb;rcases hb with rfl|rfl|rfl|rfl|rfl|rfl<;>(rw[<-B];first|show Xl _|show Ze _ _)
       show l.uR v (l.aK.fresh v)
     . show k _ _ d q _ f e H1 w1 j i (OS λα' G' a0 L Y o=>?_);obtain⟨a5,E,e1,f1,d1⟩:=g_ Y (q1.step L) o.1;obtain⟨a4,D,e2,f2,d2⟩:=g_ Y (q2.step L) o.2.1;obtain⟨a3,C,e3,f3,d3⟩:=g_ Y (q3.step L) o.2.2;cases e1;cases e2;cases e3;show⟨E,D,C,d1,d2,d3,f1,f2,f3⟩
   . show q.elim
 . show q.elim
def F6{st:ag}{x y z:D}{c ys b:List D}{K:List D->(ag->Prop)->ag->Prop}(ex:items? st x=some c)(h:items? st y=some ys)(g:items? st z=some b)(k:∀ok:ag->Prop,(∀a,items? a x=some c->items? a y=some ys->items? a z=some b->ok a)->K (dW c ys b) ok st):uQ [x,y,z] st K:=by
 unfold uQ Iw;simp![ex,h,g];show k _ λa f e d=>⟨f,e,d⟩
def Jc{X:Cx}{a b c:Expr}{e:List Expr}{j:Nat}{d p pos:Pos}{i:DA}(m:Gl X "zip")(l:X.mg "zip"=none)(h:JA X [a,b,c] i)(k:notStar a=true:=by rfl)(g:notStar b=true:=by rfl)(f:notStar c=true:=by rfl):JI X (.Tuple e j d) (.Call (.Name "zip" p) [a,b,c] [] pos) (BZ i):=by
 unfold JI;unfold JA at h;show P0 m l h (cP k) (by rw[cP g,cP f];rfl)
end L3
namespace L3
open PySem L2
open PySem.Spec hiding items?
open PyProof.Rows hiding St
open Sem (wp)
end L3
namespace L3
open PySem L2
open PySem.Spec hiding items?
open PyProof.Rows hiding St
def putD(f:Str)(v:D):List (Str×D)->List (Str×D)
 | []=>[(f,v)]
 |(g,x)::r=>if g=f then(g,v)::r else(g,x)::putD f v r
def mz.look:∀ {fs:List (Str×D)} {vs:List (Str×V)},mz α H fs vs->fs.lookup f=some v->∃u,vs.lookup f=some u/\Rep α H v u
 | [],_,_,e=>by cases e
 |(g,x)::fs,_,.cons (b:=q) h t,e=>by
  obtain⟨i,y⟩:=q;obtain⟨d,c⟩:=h;simp only at d c;subst d;rw[Yr]at e⊢;cases a:f==g with
  |true=>rw[a]at e;cases e;show⟨y,rfl,c⟩
  |false=>rw[a]at e;show mz.look t e
def mz.none:∀ {fs:List (Str×D)} {vs:List (Str×V)},mz α H fs vs->fs.lookup f=Option.none->vs.lookup f=Option.none
 | [],_,.nil,_=>rfl
 |(g,x)::fs,_,.cons (b:=q) h t,e=>by
  obtain⟨i,y⟩:=q;obtain⟨c,d⟩:=h;simp only at c d;subst c;rw[Yr]at e⊢;cases a:f==g with
  |true=>rw[a]at e;cases e
  |false=>rw[a]at e;show mz.none t e
def mz.put(r:Rep α H d v):∀ {fs:List (Str×D)} {vs:List (Str×V)},mz α H fs vs->mz α H (putD f d fs) (iY f v vs)
 | [],_,.nil=> .cons ⟨rfl,r⟩ .nil
 |(g,x)::fs,_,.cons (b:=q) h t=>by
  obtain⟨i,y⟩:=q;obtain⟨e,c⟩:=h;simp only at e c;subst e;unfold putD iY;by_cases a:g=f
  . rw[Xr a,Xr a];show .cons ⟨rfl,r⟩ t
  . rw[Xn a,Xn a];show .cons ⟨rfl,c⟩ (mz.put r t)
def MZ(C:Addr)(f:Str)(d:D)(st:ag)(K:DK):Prop:=match d with
 | .ref n=>(match st[n]? with|some (.ins a fs)=>a=C/\∃v,fs.lookup f=some v/\K v st|_=>False)
 |_=>False
@[irreducible] def Ik(C:Addr)(f:Str):D->ag->DK->Prop:=MZ C f
def bO(C:Addr)(f:Str)(b:DE):DE:=λσ c K=>b σ c λd a=>Ik C f d a K
def aM{C:Addr}{f:Str}{n:Nat}{st:ag}{K:DK}{fs:List (Str×D)}{v:D}(e:st[n]?=some (.ins C fs))(h:fs.lookup f=some v)(k:K v st):Ik C f (.ref n) st K:=by
 unfold Ik MZ;simp![e];show⟨trivial,v,h,k⟩
def Ip(C:Addr)(f:Str)(x d:D)(st:ag)(K:ag->Prop):Prop:=match x with
 | .ref n=>(match st[n]? with|some (.ins a fs)=>a=C/\fs.length<1000/\K (st.set n (.ins C (putD f d fs)))|_=>False)
 |_=>False
@[irreducible] def BW(C:Addr)(f:Str):D->D->ag->(ag->Prop)->Prop:=Ip C f
def fy(C:Addr)(f:Str)(to e:DE):DS:=λD σ g=>e σ g λd c=>to σ c λx b=>BW C f x d b λa=>D.nx σ a
def dD{C:Addr}{f:Str}{n:Nat}{d:D}{st:ag}{K:ag->Prop}{fs:List (Str×D)}(e:st[n]?=some (.ins C fs))(h:fs.length<1000)(k:K (st.set n (.ins C (putD f d fs)))):BW C f (.ref n) d st K:=by
 unfold BW Ip;simp![e];show⟨trivial,h,k⟩
def Cb(C:Addr)(m:Str)(x:D)(st:ag)(k:Prop):Prop:=match x with
 | .ref n=>(match st[n]? with|some (.ins a fs)=>a=C/\fs.lookup m=none/\k|_=>False)
 |_=>False
@[irreducible] def yl(C:Addr)(m:Str):D->ag->Prop->Prop:=Cb C m
def cS{C:Addr}{m:Str}{n:Nat}{st:ag}{k:Prop}{fs:List (Str×D)}(e:st[n]?=some (.ins C fs))(h:fs.lookup m=none)(q:k):yl C m (.ref n) st k:=by
 unfold yl Cb;simp![e];show⟨trivial,h,q⟩
def cE(C:Addr)(m:Str)(S:bV)(to:DE)(t:DA):DE:=λσ c K=>to σ c λx a=>yl C m x a (t σ a λd b=>S (x::d) b K)
def pB(C:Addr)(S:bV)(t:DA):DE:=λσ c K=>t σ c λd a=>S (.ref a.length::d) (a++[.ins C []]) λr b=>r= .au/\K (.ref a.length) b
section
variable {X:Cx}{C f g:Addr}{fd:FuncData}{k:Nat}{x m fl:Str}{e o value:Expr}{es:List Expr}{p pos pos' apos:Pos}{te to:DE}{t:DA}{S:bV}{ps:List Str}
def Vd(c:oQ X.K C)(na:df X.K C fl)(D:PE X e (LE te))(E:attributeBase e fl X.env (eval e X.env)=eval e X.env):PE X (.Attribute e fl pos) (LE (bO C fl te)):=PE.imp (RX D E) λσ H Q ⟨α,j,r,K,G,F,P,R,S,t,k⟩=>by
 show⟨α,j,r,_,G,F,P,R,S,t,λd n q O T H1 v s i h z=>?_⟩;unfold Ik MZ at q;cases d<;>try show q.elim
 simp only at q;split at q
 . rename_i U fs M;obtain⟨rfl,w,A,q⟩:=q;obtain⟨a,L,N,l,J,I⟩:=h.y6 M;let b:=d7 L z;subst b;obtain⟨u,B,y⟩:=I.look A;show⟨a,_,N,l,u,rfl,i.get J,c,na,B,(k.at s).here i q h y⟩
 . show q.elim
def RN(c:oQ X.K C)(na:df X.K C fl)(T:PE X o (LE to))(O:PE X value (LE te))(Q:swapsWith value (some (.Attribute o fl pos')) pos.line X.env=pure false):PS X (.Assign [.Attribute o fl pos'] value pos) (LS (fy C fl to te)):=PS.imp (QO T O Q) λD σ H ⟨α,i,K,DD,G,F,P,R,S,t,k⟩=>by
 show⟨α,i,K,_,G,F,P,R,S,t,λd j q I G1 H1 v n Y W M=>?_⟩;show⟨I,i,j,_,G1,F,Y,R.step n,W,q,λx J b y Z H2 v2 l E B L=>?_⟩;unfold BW Ip at b;cases x<;>try show b.elim
 simp only at b;split at b
 . rename_i C' fs V;obtain⟨rfl,U,b⟩:=b;obtain⟨a,u,w,h,A,z⟩:=B.y6 V;let r:=d7 u L;subst r;let s:some a∈y:=XO u;let N:h.length<1000:=by rw[<-z.length];show U
   show⟨a,_,w,h,rfl,E.get A,c,na,N,?_⟩;show((k.nx.at n).at l) i _ b y (upd Z a (.ins _ w (iY fl v h))) _ σ (Step.write s) (E.write A) (((R.step n).step l).step (Step.write s)) ?_;show B.write u ⟨w,iY fl v h,a_,(z.put (M.step l)).step (Step.write s)⟩
 . show b.elim
def LE.T6(h:LE (cE C m S to t) σ H Q):He C m (fe S) [] E0 (LE to) (LA t) σ H Q:=by
 obtain⟨α,j,D,K,G,F,P,R,U,B,k⟩:=h;show⟨α,j,D,_,G,F,P,R,U,B,λd c q z Z H1 v r w u s=>?_⟩;unfold yl Cb at q;cases d<;>try show q.elim
 simp only at q;split at q
 . rename_i n C' fs O;obtain⟨rfl,J,q⟩:=q;obtain⟨a,N,T,A,M,L⟩:=u.y6 O;let i:=d7 N s;subst i;show⟨a,T,A,rfl,w.get M,L.none J,?_⟩;show⟨z,j,c,_,Z,F,w,R.step r,u,q,λds b I y Y H2 us l W V E=>?_⟩;try dsimp only
   rw[YZ];show⟨y,_,b,K,Y,F,W,by unfold aG;show⟨_,_,rfl,s.step l,E⟩,V,I,(k.at r).at l⟩
 . show q.elim
def LE.make(h:LE (pB C S t) σ H Q):HU C (fe S) [] E0 (LA t) σ H Q:=by
 obtain⟨α,M,T,K,G,F,P,R,Z,O,k⟩:=h;show⟨α,M,T,_,G,F,P,R,Z,O,λY b q i s H1 us U L z V=>?_⟩;intro x a W r y;let l:=(L.none r).1;let J:=L.laid (o:= .own x) r;let S2:=z.laid (o:= .own x) l;let j:upd H1 a (.own x) x=none:=by rw[aD (Xp y)];show W
 let n:=(J.none j).1;let P3:=J.laid (o:= .ins C a []) j;let S3:=S2.cell (o:= .ins C a []) (c:= .ins C []) n ⟨a,[],a_,.nil⟩;let B:Step i s i (upd s a (.own x)):=Step.laid l;let A:Step i (upd s a (.own x)) (i++[some x]) (upd (upd s a (.own x)) x (.ins C a [])):=Step.cell n
 let E:Rep (i++[some x]) (upd (upd s a (.own x)) x (.ins C a [])) (.ref b.length) (.ref x):=by
  unfold Rep;show .inr ⟨x,?_,rfl⟩;rw[Yg (by rw[z.len];show Xl _),z.len,ZT];rfl
 rw[YZ];show⟨i++[some x],.ref b.length::Y,b++[.ins C []],_,_,F,P3,by unfold aG;show⟨_,_,rfl,E,(V.step B).step A⟩,S3,q,λd u w N G' H' v D P' S' I=>?_⟩;obtain⟨rfl,w⟩:=w;unfold Rep at I;show⟨I,(((k.at U).at B).at A) _ u w N G' H' _ D P' S' (E.step D)⟩
end
def QN(a:Int)(n:Nat):It:=⟨λi _=>i<n,λi H x b=>b=H/\x= .int (a+(i:Nat)*(-1)),λi _=>n<=i⟩
def J0{P:Program}{w:World}{K:PySem.W.Frag}{F:Expr}(it:Addr)(a:Int)(n:Nat):Turn P w K F (QN a n) [it] it (λi h=>IsRangeIter h it (a+(i:Nat)*(-1)) ((n:Int)-(i:Nat)) (-1)) where
 mem:=by simp
 obj:=λi h c b f=>by
  let e:b=it:=by simpa using f
  subst e
  show⟨_,c,λv z=>by
   let D:Data.fields _=Data.cell v:=z;cases D⟩
 keep:=λi h l c k=>k it (by simp) _ c
 item:=by
  intro X r m u q i d s σ H E I j c p;subst r m u;obtain⟨C,B,L,A,y,x⟩:=j it (by simp);let W:=Walks.range (prog:=X.prog) (w:=X.w) (I.ok.hd q) it a (-1) n;show W.item i s _ _ p c λv l tk J g G=>?_;obtain⟨t,rfl⟩:=J;let N:Inv X d σ H {s with heap:=l,toks:=tk}:=I.turned (λb o f e=>G b o (by simpa using f) e) C B A y x;show⟨_,rfl,BR (s:={s with heap:=l,toks:=tk}) (n:="range_iterator") g rfl rfl (by decide) ⟨.int (a+(i:Nat)*(-1)),H,N,⟨t,rfl⟩,⟨rfl,rfl⟩,g,λb f=>(j b f).1⟩⟩
 done:=by
  intro X r m u q i d s σ H E I j c p;subst r m u;obtain⟨C,B,L,A,y,x⟩:=j it (by simp);show wpAny_pyNext_range_end (I.ok.hd q) c (by let:n<=i:=p;lia) λl M=>⟨rfl,I.turned (t':=s.toks) (λb o f e=>M b o f e) C B A y x⟩
 self:=λ_ _ _ _ _ c h=>wpAny_pyIter_rangeiter c h
def Bs(a b:Int):Builtin.Range.rangeSize a b (-1)=((a-b).toNat:Int):=by
 unfold Builtin.Range.rangeSize;rw[Xn (by decide)];let e:(a-b-1)/(- -1:Int)=a-b-1:=by simp
 rw[e];split<;>lia
def small_down(f: -(2^62)<=a)(d:a<2^62)(e: -(2^62)<=b)(c:b<2^62):Builtin.Range.small a b (-1)=true:=by
 unfold Builtin.Range.small;rw[Bs];simp![Builtin.Range.rangeFitsLong,X9,aaS,Zs,Zh,show¬((-1:Int)>0) by decide,ZY];lia
def NT(b:TA):TI:=λσ H R=>b σ H λa H1=>∃i j:Int,a=[.int i,.int j,.int (-1)]/\(-(2^62)<=i/\i<2^62/\ -(2^62)<=j/\j<2^62)/\R (QN i (i-j).toNat) H1
section
variable {X:Cx}{tg:Expr}
def KN{a b c:Expr}{w:TA}{p pos:Pos}(E:Gl X "range")(D:X.mg "range"=none)(G:PA X [a,b,c] w)(C:notStar a=true:=by rfl)(v:notStar b=true:=by rfl)(u:notStar c=true:=by rfl):
 PI X tg (.Call (.Name "range" p) [a,b,c] [] pos) (NT w):=by
 intro d s σ H R I h;show Call_ (lX I E D boot_range (YE (cj (G pos d s σ H _ I h) λN f ⟨M,H1,L,x,n⟩=>?_) (cP C) (mm (by simp[g6,v,u]))));obtain⟨i,j,e,⟨n,B,A,z⟩,q⟩:=n;subst e;cases x with
 |cons r k=>
  cases k with
  |cons y k=>
   cases k with
   |cons m k=>
    cases k;obtain⟨t,rfl⟩:=r;obtain⟨t',rfl⟩:=y;obtain⟨g,rfl⟩:=m;show call_range_3 (by decide) ?_ (Or.inl (abt (by decide+kernel)));show wpAny_pyIter_range (IsRange.new ..) (small_down n B A z) ?_;let l:Inv X d σ H1 {f with heap:=f.heap.push {cls:= .type "range",data:= .fields #[.int i t,.int j t',.int (-1) g]},toks:=f.toks}:=L.kept λb o e=>Xj _ e;generalize({f with heap:=f.heap.push {cls:= .type "range",data:= .fields #[.int i t,.int j t',.int (-1) g]},toks:=f.toks}:Shared)=s2 at l⊢;show⟨s2.heap.objs.size,[s2.heap.objs.size],_,_,H1,rfl,l.kept (t':=s2.toks) λb o e=>Xj _ e,J0 _ i (i-j).toNat,?_,λb F=>?_,q⟩
    . change IsRangeIter _ _ (i+((0:Nat):Int)*(-1)) ((((i-j).toNat:Nat):Int)-((0:Nat):Int)) (-1);let K:i+((0:Nat):Int)*(-1)=i:=by lia
      let J:(((i-j).toNat:Nat):Int)-((0:Nat):Int)=Builtin.Range.rangeSize i j (-1):=by rw[Bs];lia
      rw[K,J];show XE _ rfl
    . have e:b=s2.heap.objs.size:=by simpa using F
      subst e;show l.uR (Xl _) (l.aK.fresh (Xl _))
end
def je(a:Int)(n:Nat):List D:=(List.range n).map λ(k:Nat)=>D.int (a+(k:Nat)*(-1))
def A9{n k:Nat}:(je a n)[k]?=if k<n then some (.int (a+(k:Nat)*(-1)))else none:=by
 unfold je;rw[XB];by_cases h:k<n
 . rw[aah h,Xr h];rfl
 . rw[ZU (by simpa using h),Xn h];rfl
def oy:(je a n).length=n:=by unfold je;simp
def Ql:vc (QN a n) α G (λ_=>True) (je a n) where
 stop:=λm f e h g c s P S o b=>by rw[oy]at b;show b
 go:=λm d f e h g c s P S o b=>by
  rw[A9]at b;split at b
  . assumption
  . cases b
 qh:=λm d f e h g c x i s P S o b y=>by
  obtain⟨rfl,rfl⟩:=y;rw[A9]at b;split at b
  . cases b;show⟨e,Step.refl,P,S,by unfold Rep;rfl⟩
  . cases b
def Ue(b:List D)(a:ag)(K:List D->(ag->Prop)->ag->Prop):Prop:=match b with
 | [.int i,.int j,.int c]=>(c= -1/\ -(2^62)<=i/\i<2^62/\ -(2^62)<=j/\j<2^62)/\K (je i (i-j).toNat) (λ_=>True) a
 |_=>False
@[irreducible] def Ck:List D->ag->(List D->(ag->Prop)->ag->Prop)->Prop:=Ue
def Aa(t:DA):DI:=λσ b K=>t σ b λc a=>Ck c a K
def Je{e a:Expr}(h:PI X e a (NT (LA t))):PI X e a (LI (Aa t)):=PI.imp h λσ H R ⟨α,m,o,K,G,F,P,z,S,t,k⟩=>by
 show⟨α,m,o,_,G,F,P,z,S,t,λx b q n B H1 C p A y d=>?_⟩;unfold Ck at q;match x,q,d with
 | [.int i,.int j,.int c],q,d=>
   obtain⟨v,u,w,rfl,l,g,f⟩:=Cp d rfl;unfold Rep at l g f;subst l g f;obtain⟨⟨rfl,s⟩,r⟩:=q;show⟨i,j,rfl,s,k _ _ b r _ n B H1 p A y Ql⟩
def OB{st:ag}{i j:Int}{K:List D->(ag->Prop)->ag->Prop}(h: -(2^62)<=i/\i<2^62/\ -(2^62)<=j/\j<2^62)(k:K (je i (i-j).toNat) (λ_=>True) st):Ck [.int i,.int j,.int (-1)] st K:=by unfold Ck;show⟨⟨rfl,h⟩,k⟩
def LJ{X:Cx}{h a b c:Expr}{p pos:Pos}{g:DA}(k:Gl X "range")(j:X.mg "range"=none)(f:JA X [a,b,c] g)(i:notStar a=true:=by rfl)(e:notStar b=true:=by rfl)(d:notStar c=true:=by rfl):JI X h (.Call (.Name "range" p) [a,b,c] [] pos) (Aa g):=by
 unfold JI;unfold JA at f;show Je (KN k j f i e d)
section
variable {X:Cx}
def T8:V->V->Hp->VK->Prop:=λo i H Q=>∃p a k j v,o= .ref p/\i= .int k/\H p=some (.lst a)/\0<=k/\ke a.length k=some j/\a[j]?=some v/\Q v H
def KS:RL X T8:=by
 intro c s σ H o i D E Q I f g h;obtain⟨p,C,k,j,v,rfl,rfl,m,e,y,l,q⟩:=h;cases f;obtain⟨t,rfl⟩:=g;obtain⟨B,n,r,u,F⟩:=I.lst m;obtain⟨d,L,K,z⟩:=zG y;let J:=r.length;let G:=sx
 let x:k.toNat=j:=by
  rw[abH e z]at d;show Yq d
 obtain⟨w,A,a⟩:=r.get l;let b:s.heap.IsList p B.toArray:=⟨_,u,rfl,n,rfl⟩
 show wpAny_getItem_list b e (by lia) (by rw[x];simpa using A) ⟨v,H,I,a,q⟩
end
def HF(x y:D)(st:ag)(K:DK):Prop:=match x,y with
 | .ref n,.int k=>(match st[n]? with|some (.lst a)=>0<=k/\(match eP a k with|some (.int u)=>K (.int u) st|_=>False)|_=>False)
 |_,_=>False
@[irreducible] def BV:D->D->ag->DK->Prop:=HF
def Ih(f:Int->Int->Int)(x y a d:D)(st:ag)(K:ag->Prop):Prop:=match a,d with
 | .int u,.int v=>xR x y (.int (f u v)) st K
 |_,_=>False
@[irreducible] def Cm(f:Int->Int->Int):D->D->D->D->ag->(ag->Prop)->Prop:=Ih f
def Eu(f:Int->Int->Int)(to h i:DE):DS:=λD σ j=>to σ j λx g=>h σ g λy e=>BV x y e λu c=>i σ c λd b=>Cm f x y u d b λa=>D.nx σ a
def Ou{n:Nat}{k u:Int}{b:List D}{st:ag}{K:DK}(e:st[n]?=some (.lst b))(c:0<=k)(a:eP b k=some (.int u))(q:K (.int u) st):BV (.ref n) (.int k) st K:=by
 unfold BV HF;simp![e,a];show⟨c,q⟩
def PV{f:Int->Int->Int}{n j:Nat}{k u v:Int}{b:List D}{st:ag}{K:ag->Prop}(e:st[n]?=some (.lst b))(a:ke b.length k=some j)(q:K (st.set n (.lst (b.set j (.int (f u v)))))):Cm f (.ref n) (.int k) (.int u) (.int v) st K:=by
 unfold Cm Ih xR;simp![e,a];show q
section
variable {X:Cx}{e o i value:Expr}{es:List Expr}{te to ti:DE}{t:DA}{pos pos' tpos apos p:Pos}{C f:Addr}{fl m x:Str}{S:bV}{k:Nat}{fd:FuncData}{ps:List Str}
def LM{g:Int->Int->Int}(ho:PE X o (LE to))(hi:PE X i (LE ti))(he:PE X e (LE te))(hp:Gd X op (IW g))
 (ha:∀J K new,augStore i J K new=(do holding [new,J,K] (setItem J K new);release [new,J,K] [];pure .next)):PS X (.AugAssign (.Subscript o i tpos) op e pos) (LS (Eu g to ti te)):=PS.imp (Qv ho hi KS he hp set_list ha) λD σ H ⟨α,E,st,DD,G,F,P,R,S,t,k⟩=>by
 show⟨α,E,st,_,G,F,P,R,S,t,λx N q α1 G1 H1 v1 I P1 S1 r1=>?_⟩;show⟨α1,E,N,_,G1,F,P1,R.step I,S1,q,λy M b α2 G2 H2 v2 r P2 S2 Q=>?_⟩;unfold BV HF at b;cases x<;>cases y<;>try show b.elim
 rename_i n U;simp only at b;split at b
 . rename_i xs ex;obtain⟨h0,b⟩:=b;split at b
   . rename_i u B;obtain⟨a,ea,vs,hv,rv⟩:=S2.ik ex;let T:=d7 ea (r1.step r);subst T;unfold Rep at Q;unfold eP at B;cases ej:ke xs.length U with
     |none=>rw[ej]at B;cases B
     |some j=>
      rw[ej]at B;let W:xs[j]?=some (.int u):=B;obtain⟨w,hw,s⟩:=rv.get W;unfold Rep at s;subst s;show⟨a,vs,U,j,.int u,rfl,Q,P2.get hv,h0,by rw[<-rv.length];show ej,hw,?_⟩;show⟨α2,E,M,_,G2,F,P2,(R.step I).step r,S2,b,λd ah c L G3 H3 v3 O P3 S3 r3=>?_⟩;unfold Cm Ih at c;cases d<;>try show c.elim
      rename_i v;unfold Rep at r3;show⟨u,v,rfl,r3,?_⟩;unfold xR at c;simp only at c;split at c
      . rename_i ab e3;split at c
        . rename_i V Z;obtain⟨a',h,l,A,z⟩:=S3.ik e3;let ra:=d7 h ((r1.step r).step O);cases ra;let Y:some a∈L:=XO h;show⟨a,l,U,V,rfl,Q,P3.get A,by rw[<-z.length];show Z,?_⟩;show(((k.nx.at I).at r).at O) E _ c L (upd G3 a (.lst (l.set V (.int (g u v))))) _ σ (Step.write Y) (P3.write A) ((((R.step I).step r).step O).step (Step.write Y)) ?_;show S3.write h ⟨_,a_,(bL.mpr (tL (show Rep L G3 (.int (g u v)) (.int (g u v)) by unfold Rep;rfl) V (bL.mp z))).step (Step.write Y)⟩
        . show c.elim
      . show c.elim
   . show b.elim
 . show b.elim
def Jk{value o:Expr}{fl:Str}{pos':Pos}:swapsWith value (some (.Attribute o fl pos')) n env=pure false:=by cases value<;>rfl
def aZ(c:oQ X.K C)(na:df X.K C fl)(a:JE X e te)(b:attributeBase e fl X.env (eval e X.env)=eval e X.env:=by rfl):JE X (.Attribute e fl pos) (bO C fl te):=by unfold JE at*;show Vd c na a b
def dQ(c:oQ X.K C)(na:df X.K C fl)(b:JE X o to)(a:JE X value te):JS X (.Assign [.Attribute o fl pos'] value pos) (fy C fl to te):=by unfold JS;unfold JE at*;show RN c na b a Jk
def MR{g:Int->Int->Int}(d:JE X o to)(h:JE X i ti)(j:JE X e te)(c:Gd X op (IW g))
 (l:∀a b new,augStore i a b new=(do holding [new,a,b] (setItem a b new);release [new,a,b] [];pure .next):=by intros;rfl):JS X (.AugAssign (.Subscript o i tpos) op e pos) (Eu g to ti te):=by unfold JS;unfold JE at*;show LM d h j c l
def dM{pl:Sem Bool}(n:JE X o to)(c:oQ X.K C)(l:Meth X.K C m f)(F:cH X.prog X.w X.K X.mg X.base eC k f fd ps (fe S))(j:cU k X.A)(q:Binds X.K fd ps [])(b:JA X (e::es) t)
 (g:notStar e=true:=by rfl) (a:g6 es=true:=by rfl)
 (d:eval (.Call (.Attribute o m apos) (e::es) [] pos) X.env=(do
   let ov <-eval o X.env
   standAt apos.atName
   let(f,first) <-holding [ov] (getMethod ov m pl)
   callWith pos f first (backTo pos (starEach (e::es) X.env)) (backToKw pos (keywordEach [] X.env))):=by rfl):
 JE X (.Call (.Attribute o m apos) (e::es) [] pos) (cE C m S to t):=by
 unfold JE at*;unfold JA at b;show PE.imp (OU n c l F j q .nil yG b (cP g) (mm a) d) λ_ _ _ h=>LE.T6 h
def Gf{pl:Sem Bool}(J:JE X o to)(c:oQ X.K C)(E:Meth X.K C m f)(F:cH X.prog X.w X.K X.mg X.base eC k f fd ps (fe S))(D:cU k X.A)(L:Binds X.K fd ps [])
 (B:eval (.Call (.Attribute o m apos) [] [] pos) X.env=(do
   let ov <-eval o X.env
   standAt apos.atName
   let(f,first) <-holding [ov] (getMethod ov m pl)
   callWith pos f first (backTo pos (starEach [] X.env)) (backToKw pos (keywordEach [] X.env))):=by rfl):
 JE X (.Call (.Attribute o m apos) [] [] pos) (cE C m S to ai):=by
 unfold JE at*;show PE.imp (LW J c E F D L .nil yG B) λσ H Q h=>?_;obtain⟨α,s,z,K,G,F,P,R,V,y,k⟩:=h;show⟨α,s,z,_,G,F,P,R,V,y,λd b q u W H1 v A r l j=>?_⟩;unfold yl Cb at q;cases d<;>try show q.elim
 simp only at q;split at q
 . rename_i n Y fs T;obtain⟨rfl,I,q⟩:=q;obtain⟨a,O,U,w,N,M⟩:=l.y6 T;let g:=d7 O j;subst g;show⟨a,U,w,rfl,r.get N,M.none I,u,_,b,K,W,F,r,by unfold aG;show⟨_,_,rfl,j,by unfold aG;rfl⟩,l,q,k.at A⟩
 . show q.elim
def uo(M:Mk X.K C f)(F:cH X.prog X.w X.K X.mg X.base eC k f fd ps (fe S))(j:cU (k+1) X.A)(l:Gl X x)(b:X.mg x=some (.ref C))(n:Binds X.K fd ps [])(d:JA X (e::es) t)(c:(x==("__debug__":Str))=false)
 (g:notStar e=true:=by rfl) (a:g6 es=true:=by rfl):JE X (.Call (.Name x p) (e::es) [] pos) (pB C S t):=by
 unfold JE;unfold JA at d;show PE.imp (Pk M F j l b n .nil yG d c (cP g) (mm a)) λ_ _ _ h=>LE.make h
end
end L3
namespace L2
open PySem PySem.Spec PyProof.Rows
structure Entry(K:PySem.W.Frag)(ts:List (Addr×Addr))(a:Addr)(ns:List Int)(H:Hp):Prop where
 lst:oC K H a (ns.map V.int)
 tab:∀q∈ts,H q.2=some (.mQ #[])/\q.2≠a
def Ba:∀ {vs:List Value} {ns:List Int},IntsAre vs ns->Vals (ns.map V.int) vs
 |_,_,.nil=> .nil
 |_,_,.cons n t h=> .cons ⟨t,rfl⟩ (Ba h)
structure QE(K:PySem.W.Frag)(ts:List (Addr×Addr))(h:Heap):Prop where
 hd:∀q∈ts,PySem.W.codeHdIn K q.1 q.2=true
 no:∀q∈ts,K.lookup q.2=none
 at':∀q∈ts,h.get? q.2=some (PySem.W.tabObj #[])
def JM{P:Program}{K:PySem.W.Frag}{N mb:Str->Option Value}{k:Nat}{fd:FuncData}{c:Shared}{vs:List Value}{ns:List Int}
 (KX:K.In c.heap) (T:c.heap.Ns mainGlobals N) (hb:c.heap.Ns builtinsNs mb) (a5:∀x:Str,x≠"__name__"->mb x=bootBuiltins x) (U:c.heap.NoLimit) (a0:c.heap.NoSeer) (a3:P.given.tree=none)
 (a4:∃O E,N "__builtins__"=some (.ref O)/\O≠builtinsNs/\c.heap.get? O=some E/\E.cls= .type "module"/\E.dict=some builtinsNs/\E.data= .plain) (B:QE K ts c.heap) (hg:c.gens= #[])
 (A:c.heap.get? a=some {cls:= .type "list",data:= .seq vs.toArray}) (hi:IntsAre vs ns) (hl:ns.length<=sizeLine) (hr:cU k callerA)
 (F:∀i:Heap,K.In i->i.Ns mainGlobals N->cH P w K N i (λ_ _ _ _ _ _=>False) k fa fd [x] sp) (I:∀(s:Shared) (u:Value),BindsTo s fd ⟨[u],[]⟩ [(x,u)])
 (au:∀H:Hp,Entry K ts a ns H->sp [.ref a] H (λv _=>v= .bl true) λ_ _ _=>False):
 codeAny (model P w) callerA (.call (.ref fa) ⟨[.ref a],[]⟩) (λr s'=>r= .ok (.ret (.bool true))/\OldK c.heap s'.heap/\s'.os=c.os/\AllBare s'.gens) c:=by
 let rv:=Ba hi;let S:=hi.length
 let R:∀q∈ts,q.2≠a:=λq g z=>by
  let:=B.at' q g;rw[z,A]at this;cases this
 letI Z:Option HO:=match K.lookup a with
  |some _=>none
  |none=>some (.iG {cls:= .type "list",data:= .seq vs.toArray} (.lst (ns.map V.int)))
 letI H:Hp:=λb=>if b=a then Z else if b∈ts.map (·.2)then some (.mQ #[])else none
 let Ha:H a=Z:=Xr rfl
 let Ht:∀q∈ts,H q.2=some (.mQ #[]):=λq g=>by
  change(if q.2=a then Z else if q.2∈ts.map (·.2)then some (HO.mQ #[])else none)=_;rw[Xn (R q g),Xr (aa0 g)]
 let Q:∀b u,H b=some u->(b=a/\K.lookup a=none/\u= .iG {cls:= .type "list",data:= .seq vs.toArray} (.lst (ns.map V.int)))\/(∃q∈ts,q.2=b/\u= .mQ #[]):=λb u e=>by
  let L:(if b=a then Z else if b∈ts.map (·.2)then some (HO.mQ #[])else none)=some u:=e;by_cases J:b=a
  . rw[Xr J]at L
    let l:(match K.lookup a with
     |some _=>none
     |none=>some (HO.iG {cls:= .type "list",data:= .seq vs.toArray} (.lst (ns.map V.int))))=some u:=L
    cases q:K.lookup a with
    |some o=>rw[q]at l;cases l
    |none=>rw[q]at l;cases l;show .inl ⟨J,rfl,rfl⟩
  . rw[Xn J]at L;by_cases G:b∈ts.map (·.2)
    . rw[Xr G]at L;cases L;obtain⟨q,g,e⟩:=X5.mp G;show .inr ⟨q,g,e,rfl⟩
    . rw[Xn G]at L;cases L
 let aK:jz P w H c.heap:=λb u e=>by
  rcases Q b u e with⟨rfl,_,rfl⟩|⟨q,g,rfl,rfl⟩
  . show⟨A,by rw[Xk];show hl,vs,_,rv,A⟩
  . show B.at' q g
 let hE:Entry K ts a ns H:=by
  show⟨?_,λq g=>⟨Ht q g,R q g⟩⟩;cases q:K.lookup a with
  |some o=>
   have e:=KX a o q;rw[A]at e;cases e;show .inr ⟨_,vs.toArray,_,q,rfl,rfl,rfl,by rw[Xy,S];show hl,by simpa using rv⟩
  |none=>
   show .inl (.inr ⟨{cls:= .type "list",data:= .seq vs.toArray},?_⟩);rw[Ha]
   change(match K.lookup a with
    |some _=>none
    |none=>some (HO.iG {cls:= .type "list",data:= .seq vs.toArray} (.lst (ns.map V.int))))=_
   rw[q]
 let n:∀ {b:Addr} {o:Obj},c.heap.get? b=some o->(∀es ep,o.data≠ .seq es ep)->o.cls≠ .none->H b=none:=λ{b o} e d1 d2=>by
  cases q:H b with
  |none=>rfl
  |some u=>
   rcases Q b u q with⟨rfl,_,_⟩|⟨t,j,rfl,_⟩
   . rw[A]at e;cases e;show absurd rfl (d1 _ _)
   . rw[B.at' t j]at e;cases e;show absurd rfl d2
 let f:∀ {b:Addr} {m:Str->Option Value},c.heap.Ns b m->(rG c.heap H).Ns b m:=λ{b m} ⟨o,es,ep,e,d,r⟩=>by
  show⟨o,es,ep,tj e ?_,d,r⟩;cases q:H b with
  |none=>rfl
  |some u=>
   rcases Q b u q with⟨rfl,_,_⟩|⟨t,j,rfl,_⟩
   . rw[A]at e;cases e;cases d
   . rw[B.at' t j]at e;cases e;cases d
 let X:K.In (rG c.heap H):=λb o e=>tj (KX b o e) (by
  cases q:H b with
  |none=>rfl
  |some u=>
   rcases Q b u q with⟨rfl,z,_⟩|⟨t,j,rfl,_⟩
   . rw[z]at e;cases e
   . rw[B.no t j]at e;cases e)
 obtain⟨O,E,b1,b2,b3,b4,b5,b6⟩:=a4;let W:(rG c.heap H).get? O=some E:=tj b3 (n b3 (λes ep z=>by rw[b6]at z;cases z) (λz=>by rw[b4]at z;cases z))
 let ab:(rG c.heap H).NoSeer:=by
  obtain⟨⟨m1,a1,a2⟩,⟨m2,c1,c2⟩,⟨m3,d1,d2⟩,⟨ar,M,ah,e1,l,D,e4,e5⟩⟩:=a0;show⟨⟨m1,f a1,a2⟩,⟨m2,f c1,c2⟩,⟨m3,f d1,d2⟩,⟨ar,M,ah,f e1,l,tj D ?_,e4,e5⟩⟩;cases q:H M with
  |none=>rfl
  |some u=>
   rcases Q M u q with⟨rfl,_,_⟩|⟨t,j,rfl,_⟩
   . rw[A]at D;cases D;show absurd (show Value.type "list"=Value.type "module" from e4) (by intro z;injection z with z;show absurd z (by decide))
   . rw[B.at' t j]at D;cases D;cases e4
 let hM:Mod K N (rG c.heap H):=⟨X,f T,⟨mb,f hb,a5⟩,let⟨mc,h1,h2⟩:=U;⟨mc,f h1,h2⟩,ab,⟨O,E,b1,b2,W,b4,b5,b6⟩⟩
 let e0:xw P w K N (rG c.heap H) callerA [] c H:=⟨rfl,hM,λb o e=>Qs e,abo (II _ _),trivial,λb hb=>absurd (show b∈([]:List Addr)from hb) (by simp),aK,.of_eq hg,a3⟩
 show abp ((F _ X (f T)).run callerA [] c H ⟨[.ref a],[]⟩ [.ref a] [.ref a] _ _ hr e0 (I c (.ref a)) (.cons rfl .nil) (au H hE)) λr s' h=>?_;cases r with
 |error e=>show False.elim h
 |ok fl=>
  cases fl with
  |next=>show False.elim h
  |brk=>show False.elim h
  |cont=>show False.elim h
  |ret u=>
   obtain⟨v,H',os,Y,un,y,r',q⟩:=h;let q':v= .bl true:=q;subst q';obtain rfl:u=Value.bool true:=r';let aq:∀b:Addr,b∉sj ([]:List Env):=λb z=>absurd (show b∈([]:List Addr)from z) (by simp);show⟨rfl,⟨λb o e=>?_,λb o e=>un.there b o e (by simp)⟩,os,Y⟩;cases q:H b with
   |none=>show .inl (un.keep b o e q (aq b) (by simp))
   |some u=>
    rcases Q b u q with⟨rfl,_,rfl⟩|⟨t,j,rfl,rfl⟩
    . obtain⟨l,_⟩:=y b _ (un.qB b _ _ q);rw[A]at e;cases e;show .inl l
    . obtain⟨p,e1⟩:=un.pV _ _ q;let l:s'.heap.get? t.2=some {cls:= .none,data:= .fields (#[]++p)}:=y _ _ e1;let D:=B.at' t j;rw[D]at e;cases e;let C:PySem.W.CodeHd c.heap t.1 t.2:=PySem.W.codeHd_of_K KX (B.hd t j);show .inr (.inl ⟨(C.tab D).isCodeTable,rfl,#[],p,rfl,l⟩)
def TL{l:PySem.W.OpenLaw}{n k:Nat}{d:DefRec}{K:Params->PySem.W.Frag}{sp:World->Sp}
 (y:l.most=some n) (i:n<=sizeLine) (p:d.params.defaults=[]) (r:cU k callerA) (t:importsNone q=true) (m:l.prog.given.tree=none)
 (C:∀(w:World) (h:Heap),YP w h->(K w.params).In h/\QE (K w.params) ts h)
 (F:∀(w:World) (mg:Str->Option Value) (fa:Addr) (h:Heap),(K w.params).In h->h.Ns mainGlobals mg->mg d.name=some (.ref fa)->
   ∃fd:FuncData,(∀(s:Shared) (u:Value),BindsTo s fd ⟨[u],[]⟩ [(x,u)])/\
    ∀b:Heap,(K w.params).In b->b.Ns mainGlobals mg->cH l.prog w (K w.params) mg b (λ_ _ _ _ _ _=>False) k fa fd [x] (sp w))
 (g:∀(w:World) (H:Hp) (a:Addr) (ns:List Int),ns.length<=n->Entry (K w.params) ts a ns H->sp w [.ref a] H (λv _=>v= .bl true) λ_ _ _=>False):
 PySem.W.WalkO q loose XP YP l.row.toRowW d [] (λf vs=>PySem.call f vs):=by
 show Att.ER y p λw M L mg O fa o N R J a vs ns G Y P Q A j e hints c z=>?_;obtain⟨KX,D⟩:=C w _ Y;obtain⟨fd,B,E⟩:=F w mg fa _ KX G.T.g j;show JM KX G.T.g G.T.b G.T.builtins G.T.nolimit (G.T.seer t) m G.T.bmain D z e hints (Xu c i) r E B λH I=>g w H a ns c I
end L2
namespace L3
open PySem PySem.Spec L2
open PyProof.Rows hiding St
section
variable {X:Cx}{pins:List (Addr×Obj)}{σ:L2.St}{H:Hp}{s:Shared}{p:Addr}{o o':Obj}{h':Heap}
def nM(I:Inv X pins σ H s)(f:∀v,o.data≠ .cell v)(c:o.isFreed=false:=by rfl):Inv X (pins++[(s.heap.objs.size,o)]) σ H {s with heap:=s.heap.push o,toks:=t'}:=by
 let d:=I.kept (h':=s.heap.push o) (t':=t') (λb u e=>Xj _ e);show d.vN λq a=>?_;rcases XZ.mp a with a|a
 . show d.pin q (XI _ a)
 . have e:q=(s.heap.objs.size,o):=by simpa using a
   subst e;show⟨XE _ c,I.aK.fresh (Xl _),Y0 I.lt,I.Tf (Xl _),f⟩
def gN(I:Inv X (pins++[(p,o)]) σ H s):s.heap.get? p=some o/\H p=none/\p≠X.env.locals/\p∉X.fs/\∀v,o.data≠ .cell v:=
 I.pin (p,o) (XI _ (XI _ (XW.mpr rfl)))
def D0(I:Inv X (pins++[(p,o)]) σ H s):∀x c,X.env.cells.lookup x=some c->c≠p:=λx c e z=>by
 obtain⟨v,u,a,b⟩:=I.cell x c e;obtain⟨f,_,_,_,d⟩:=gN I;rw[z,f]at a;cases a;show d v b
def qf(I:Inv X (pins++[(p,o)]) σ H s)(g:Heap.SameBut p s.heap h')(i:h'.get? p=some o')(j:∀v,o'.data≠ .cell v)(l:X.s₀.heap.objs.size<=p)(h:∀q∈X.pn++pins,q.1≠p):
 Inv X (pins++[(p,o')]) σ H {s with heap:=h',toks:=t'}:=by
 obtain⟨_,n,a,d,_⟩:=gN I;let m:Inv X pins σ H s:=I.jl;let f:=m.turned (t':=t') (h':=h') (it:=p) (λb u k e=>(g.2 b k).trans e) n a (.inr l) (D0 I) h;show f.vN λq c=>?_;rcases XZ.mp c with c|c
 . show f.pin q (XI _ c)
 . have e:q=(p,o'):=by simpa using c
   subst e;show⟨i,n,a,d,j⟩
def Lc(I:Inv X (pins++[(p,o)]) σ H s)(v:X.s₀.heap.objs.size<=p)(t:∀q∈X.pn++pins,q.1≠p)(new:d_ X.prog X.w (upd H p u) s.heap p u):Inv X pins σ (upd H p u) s:=by
 obtain⟨D,n,d,l,_⟩:=gN I;let a:∀ {b:Addr} {w:HO},H b=some w->b≠p:=λe=>eA e n;let f:∀ {b:Addr} {w:Obj},X.s₀.heap.get? b=some w->b≠p:=λe=>XU (XF (XC e) v);show⟨I.ok,I.os,I.bare,⟨I.base.keep,I.base.slot,λb w e q r=>?_,I.base.there,λb h e=>?_,λb w y e=>?_,λb k e=>?_⟩,I.loc,I.cell,?_,λx c e=>?_,λq i=>?_,λb w e=>?_,I.len⟩
 . rw[aD (f e)];show I.base.free b w e q r
 . have:=I.base.rh b h e;rw[aD (a this)];show this
 . have:=I.base.qB b w y e;rw[aD (a this)];show this
 . obtain⟨m,q⟩:=I.base.pV b k e;show⟨m,by rw[aD (a q)];show q⟩
 . rw[aD (Xp d)];show I.free
 . rw[aD (D0 I x c e)];show I.j5 x c e
 . have g:q∈X.pn++(pins++[(p,o)]):=by
    rcases XZ.mp i with z|z
    . show YB _ z
    . show XI _ (YB _ z)
   obtain⟨C,B,A⟩:=I.pin q g;show⟨C,by rw[aD (t q i)];show B,A⟩
 . by_cases j:b=p
   . subst j;rw[a_]at e;cases e;show new
   . rw[aD j]at e;show(I.aK b w e).rT (λ_ _ _ q=>q) (λc q=>by rw[aD (a q)];show q) λc h q=>by rw[aD (a q)];show q
end
def pd(X:Cx)(pins:List (Addr×Obj))(σ:L2.St)(R:Hp->Prop)(a:List (Addr×Obj))(s:Shared):Prop:=∃H,Inv X (pins++a) σ H s/\R H
section
variable {X:Cx}{pins:List (Addr×Obj)}{σ:L2.St}{R:Hp->Prop}{s:Shared}{A:Around}{E:Value->Shared->Prop}{a kS:Addr}{e1 e:Nat}{keys:Array Value}{P:PySem.Fin->Shared->Prop}
structure Own(X:Cx)(pins:List (Addr×Obj))(p:Addr):Prop where
 ge:X.s₀.heap.objs.size<=p
 ne:∀q∈X.pn++pins,q.1≠p
def vL(I:Inv X pins σ H s):Own X pins s.heap.objs.size:=⟨I.sz,λq b=>XU (XC (I.pin q b).1)⟩
def Dk(h:Own X pins p)(c:q.1≠p):Own X (pins++[q]) p:=⟨h.ge,λr b=>by
 rcases XZ.mp b with z|z
 . show h.ne r (YB _ z)
 . rcases XZ.mp z with z|z
   . show h.ne r (XI _ z)
   . have e:r=q:=by simpa using z
     rw[e];show c⟩
def Cy(J:pd X pins σ R [x,y] s):∃H,Inv X ((pins++[x])++[y]) σ H s/\R H:=by
 obtain⟨H,I,r⟩:=J;show⟨H,by rw[ZR];show I,r⟩
def JP(I:Inv X ((pins++[x])++[y]) σ H s)(r:R H):pd X pins σ R [x,y] s:=⟨H,by rw[ZR]at I;show I,r⟩
def Dj{st:SortSt}(J:pd X pins σ R [(a,seqObj "list" #[] e1),(kS,seqObj "list" keys e)] s)(k:Own X pins a)(j:Own X pins kS)(f:kS≠a)(d:keys.size<=sizeLine)(b:(arrOf st).size<=sizeLine)(o:failedOf st=none)
 (h:∀s' c,pd X pins σ R [(a,seqObj "list" ((arrOf st).map (·.2)) c)] s'->P (.done (.ret .none)) s'):
 wpAny (model X.prog X.w) A (PyProof.Rows.ksk_tail a false e1 (.ref kS) st) P E s:=by
 obtain⟨H,I,r⟩:=Cy J;let i:=(gN I).1;let n:=YR s.heap kS (Obj.mapSeq λ_=>(#[]:Array Value));let q:=qf (t':=s.toks) I n (aaj i λ_=> #[]) (λv z=>by cases z) j.ge (Dk j f.symm).ne;let l:Inv X (pins++[(a,seqObj "list" #[] e1)]) σ H {s with heap:=s.heap.update kS (Obj.mapSeq λ_=>(#[]:Array Value)),toks:=s.toks}:=q.jl;let g:=(gN l).1;let m:=YR (s.heap.update kS (Obj.mapSeq λ_=>(#[]:Array Value))) a (Obj.mapSeq λ_=>(arrOf st).map (·.2));let p:=qf (t':=s.toks) l m (aaj g λ_=>(arrOf st).map (·.2)) (λv z=>by cases z) k.ge k.ne;unfold ksk_tail;simp![ZK,ZY];show Xi (aba i rfl ?_ d (XY _));show Xi (Zt ?_);show Xi (seqEpoch_at g rfl ?_);show Xi (aba g rfl ?_ (XY _) (Nat.le_succ_of_le (by rw[Array.size_map];show b)));rw[o];simp![bne_self_eq_false,ZK,ZY];show Xz (h _ _ ⟨H,p,r⟩)
def HC(kz:List Int)(vs out:List Value):Prop:=
 ∃b:List (Int×Value),b.Perm (kz.zip vs)/\out=b.map Prod.snd/\b.Pairwise λp q=>p.1<=q.1
def Ga{vs:List Value}(h:IntsAre keys.toList kz){c:Array Keyed}(g:c.Perm (keys.zip vs.toArray))(f:SortedTo c c.size):HC kz vs (c.map (·.2)).toList:=by
 obtain⟨d,k,j,i⟩:=ksk_out h (b:=false) g f;show⟨d,k,j,i⟩
def Pn{kz:List Int}{vs:List Value}(J:pd X pins σ R [(a,seqObj "list" #[] e1),(kS,seqObj "list" keys e)] s)(r:Own X pins a)(p:Own X pins kS)(g:kS≠a)(k:IntsAre keys.toList kz)(F:kz.length=vs.length)(m:vs.length<64)
 (h:∀s' out c,pd X pins σ R [(a,seqObj "list" out c)] s'->HC kz vs out.toList->P (.done (.ret .none)) s'):
 wpAny (model X.prog X.w) A (ksk_end a false vs.toArray e1 (.ref kS) keys) P E s:=by
 let l:keys.size=vs.length:=by let:=k.length;rw[ZE]at this;lia
 let t:(keys.zip vs.toArray).size=vs.length:=by rw[Array.size_zip,l,Xy,ab1]
 let q:vs.length<=sizeLine:=Xu (YH m) (by decide);unfold ksk_end;simp![ZK,ZY];by_cases d:vs.toArray.size<2
 . rw[Xr d,Xr d];show Xi (Xz ?_);rw[StateT.run_pure];show Xi (Xz ?_);show Dj (st:=SortSt.mk' general' (keys.zip vs.toArray) #[] 7 none) J r p g (by lia) (by change(keys.zip vs.toArray).size<=_;lia) rfl λs' c n=>h s' _ c n ?_;show Ga k (Array.Perm.refl _) λi j x w=>?_;let v:j<(keys.zip vs.toArray).size:=w;rw[Xy]at d;let:i=j:=by lia
   rw[this];show aa2 _
 . rw[Xn d,Xn d];rw[Xy]at d;rw[ksk_kind k (by lia)];show Xi (Xz ?_)
   show Xi (Y3 (wpS_sortRuns (a₀:=keys.zip vs.toArray) (st:=SortSt.mk' oneType' (keys.zip vs.toArray) #[] 7 none)
    (Q:=λ_ b=>(arrOf b).Perm (keys.zip vs.toArray)/\failedOf b=none/\SortedTo (arrOf b) (keys.zip vs.toArray).size)
    (ksk_intKeys k) ⟨Array.Perm.refl _,rfl,rfl,rfl⟩ (by lia) (by lia) λb D C B=>⟨D,C,B⟩) ?_ λ_ _ z=>z)
   rintro⟨⟨⟩,b⟩ s' ⟨rfl,o,y,u⟩;let f:=o.size_eq;show Dj (st:=b) J r p g (by lia) (by rw[f];lia) y λs' c n=>h s' _ c n (Ga k o (by rw[f];show u))
def L4{kz:List Int}{vs:List Value}(J:pd X pins σ R [(a,seqObj "list" #[] e1),(kS,seqObj "list" #[] 0)] s)(K:Own X pins a)(q:Own X pins kS)(n:kS≠a)(F:kz.length=vs.length)(o:vs.length<64)
 (d:∀(i:Nat) (v:Value) (k:Int),vs[i]?=some v->kz[i]?=some k->∀(g:List (Addr×Obj)) (s:Shared),pd X pins σ R g s->wpAny (model X.prog X.w) A (call f [v]) (λu s'=>(∃t,u= .int k t)/\pd X pins σ R g s') (λ_ _=>False) s)
 (h:∀s' out c,pd X pins σ R [(a,seqObj "list" out c)] s'->HC kz vs out.toList->P (.done (.ret .none)) s'):
 wpAny (model X.prog X.w) A (ksk_rest a f false vs.toArray e1 (.ref kS)) P E s:=by
 let C:vs.length<=sizeLine:=Xu (YH o) (by decide);unfold ksk_rest;show Xi (ZN ?_)
 first
  |rw[List.forIn_toArray]
  |(rw[<-Array.forIn_toList];simp![List.toList_toArray])
  |rw[<-Array.forIn_toList]
 show Xi (ksk_fold (λi s'=>∃l e,pd X pins σ R [(a,seqObj "list" #[] e1),(kS,seqObj "list" l e)] s'/\IntsAre l.toList (kz.take i)) vs 0 s ⟨#[],0,J,by simpa using IntsAre.nil⟩ ?st ?en)
 case st=>
  rintro j x s' B ⟨l,e,p,b⟩;simp![aao]at b⊢;let Q:j<vs.length:=(Xm.mp B).1;let m:kz[j]?=some (kz[j]'(by lia)):=Xv _
  let O:l.size<=vs.length:=by
   let:=b.length;rw[ZE,Yx]at this;lia
  show Xi (aac (Y3 (d j x _ B m _ s' p) (λv w G=>?_) λ_ _ z=>z.elim));obtain⟨⟨t,rfl⟩,M⟩:=G;obtain⟨H,I,r⟩:=Cy M;let y:=(gN I).1;let D:=YR w.heap kS (Obj.mapSeq (·.push (.int (kz[j]'(by lia)) t)));let N:=qf (t':=w.toks) I D (aaj y (·.push (.int (kz[j]'(by lia)) t))) (λv z=>by cases z) q.ge (Dk q n.symm).ne;show Xi (aba y rfl ?_ (by lia) (Xu (abo (Array.size_push ..)) (by lia)));show Xz ⟨rfl,_,_,JP N r,?_⟩;let L:kz.take (j+1)=kz.take j++[kz[j]'(by lia)]:=by rw[List.take_add_one,m];simp
  rw[L,Array.toList_push];show ksk_snoc b
 case en=>
  rintro s' ⟨l,e,p,b⟩;rw[show kz.take (0+vs.length)=kz from Yu (by lia)]at b;obtain⟨H,I,r⟩:=Cy p;show Xi (listItems_at (gN I).1 rfl ?_);show Pn p K q n b F o h
def GB{kz:List Int}{vs:List Value}(I:Inv X pins σ H s)(r:R H)(B:s.heap.IsList l vs.toArray)(S:kz.length=vs.length)(j:vs.length<64)
 (d:∀(i:Nat) (v:Value) (k:Int),vs[i]?=some v->kz[i]?=some k->∀(g:List (Addr×Obj)) (s:Shared),pd X pins σ R g s->wpAny (model X.prog X.w) A.in1.in1 (call (.ref f) [v]) (λu s'=>(∃t,u= .int k t)/\pd X pins σ R g s') (λ_ _=>False) s)
 (h:∀D s' out c,Own X pins D->pd X pins σ R [(D,seqObj "list" out c)] s'->HC kz vs out.toList->Q (.ref D) s'):
 wpAny (model X.prog X.w) A (call (.builtin "sorted") [.ref l] [(Str.ofString "key",.ref f)]) Q E s:=by
 let b:vs.length<=sizeLine:=Xu (YH j) (by decide);show call_function_entry_kw kind_sorted plain_sorted entry_sorted (ksk_s1 _ _) ?_;unfold Builtin.«sorted»;show Xi (m:=checkCount "sorted" 1 1 _) (Xz ?_);show Xi (collect_list B ?_ b);let K:=nM (o:=seqObj "list" #[] 0) (t':=s.toks) I (λv z=>by cases z);let N:=YR (s.heap.push (seqObj "list" #[] 0)) s.heap.objs.size (Obj.mapSeq (· ++vs.toArray));let W:=qf (t':=s.toks) K N (aaj (gN K).1 (· ++vs.toArray)) (λv z=>by cases z) (vL I).ge (vL I).ne;let V:Inv X pins σ H {s with heap:=(s.heap.push (seqObj "list" #[] 0)).update s.heap.objs.size (Obj.mapSeq (· ++vs.toArray)),toks:=s.toks}:=W.jl;show Xi (wpAny_newList ?_ b);generalize y:({s with heap:=(s.heap.push (seqObj "list" #[] 0)).update s.heap.objs.size (Obj.mapSeq (· ++vs.toArray))}:Shared)=s3;let n:Inv X pins σ H s3:=by rw[<-y];show V
 let p:=vL n;let J:=nM (o:=seqObj "list" vs.toArray 0) (t':=s3.toks) n (λv z=>by cases z);let w:=(gN J).1;show Xi (ZG (wpAny_call_entry_kw slot_list_sort ⟨_,w,rfl⟩ entry_list_sort ?body (ksk_l1 _ _)))
 case body=>
  change wpAny (model X.prog X.w) A.in1.in1 (Builtin.«list.sort» ⟨[.ref s3.heap.objs.size],[(Str.ofString "key",.ref f)]⟩) _ _ _;rw[ksk_t1];unfold ksk_tree;show Xi (listItems_at w rfl ?_);let M:=YR (s3.heap.push (seqObj "list" vs.toArray 0)) s3.heap.objs.size (Obj.mapSeq λ_=>(#[]:Array Value));let G:=qf (t':=s3.toks) J M (aaj w λ_=> #[]) (λv z=>by cases z) p.ge p.ne;let C:=(gN G).1;show Xi (aba w rfl ?_ (by rw[Xy];show b) (XY _));show Xi (seqEpoch_at C rfl ?_);show Xi (abN ?_ (by change vs.length<=_;show b));let F:=(nM (o:=seqObj "tuple" vs.toArray 0) (t':=s3.toks) G (λv z=>by cases z)).jl;show Xi (wpAny_newList ?_ (XY _));let ok:=vL F;let U:=nM (o:=seqObj "list" #[] 0) (t':=s3.toks) F (λv z=>by cases z);show ZG ?_
  let x:Own X pins _:=⟨ok.ge,λq O=>ok.ne q (by
   rcases XZ.mp O with z|z
   . show YB _ z
   . show XI _ (YB _ z))⟩
  show L4 (JP U r) p x (λz=>ok.ne (s3.heap.objs.size,_) (XI _ (XI _ (XW.mpr rfl))) z.symm) S j d λs' out c T L=>⟨_,rfl,?_⟩
  show Xz ⟨_,rfl,h _ s' out c p T L⟩
end
structure pE(X:Cx)(scope:Scope)(Nc:List Str)(fr:List (Option Nat))(p:Str):Prop where
 sc:c_ X scope Nc fr
 Jw:∀x∈scope.names,x.2≠ .cell
 co:scope.isCoroutine=false
 gen:scope.isGenerator=false
 p0:Nc[0]?=some p
 f0:fr[0]?=some none
 loc:scope.names.lookup p=some .local
abbrev Hq(X:Cx)(scope:Scope)(qual:Str)(f c:Addr)(s:Shared):Env:=PySem.W.envX qual scope s.heap.objs.size f (.ref c) (d6 X.env.cells scope.names [])
def Kk(X:Cx)(scope:Scope)(Nc:List Str)(a:Str)(f c:Addr)(s:Shared)(H:Hp):Cx:=
 {X with A:=X.A.in1.in1.deeper (Hq X scope a f c s),N:=Nc,s₀:=s,H₀:=H,env:=Hq X scope a f c s,outer:=X.stack,stack:=Hq X scope a f c s::X.stack,ex:=[],fn:=λ_=>false,calm:=true,pn:=[],xe:=λ_ _=>False}
section
variable {X:Cx}{scope:Scope}{Nc:List Str}{fr:List (Option Nat)}{p qual:Str}{f c:Addr}{pins:List (Addr×Obj)}{σ:L2.St}{H:Hp}{s:Shared}
def QK(S:pE X scope Nc fr p)(I:Inv X pins σ H s)(j:X.calm=true):(Kk X scope Nc qual f c s H).Ok where
 mod:=I.ok.mod
 kind:=S.sc.kind
 glob:=rfl
 blt:=rfl
 above:=Xl _
 inj:=λx y a l k=>I.ok.inj x y a (dH _ [] (λ_ _ e=>by cases e) x a l) (dH _ [] (λ_ _ e=>by cases e) y a k)
 has:=λx d=>by
  let h:scope.names.lookup x=some .cell\/scope.names.lookup x=some .free:=d;rcases h with d|d
  . show absurd rfl (S.Jw _ (Yc d))
  . show kg scope.names [] (I.ok.has x (S.sc.free _ (Yc d) rfl)) (.inl (Yc d))
 CC:=λx a i _=>by cases i
 hd:=λ_=>I.ok.hd j
 frames:=Around.frames_deeper (by change X.A.frames=_;show I.ok.frames)
 Gr:= .inr ⟨rfl,rfl⟩
 Ja:=λb g=>by cases g
 bs:=I.bs
 vm:=Xu I.ok.vm I.sz
 xJ:=λb o e g=>by cases g
 xQ:=λb g=>by cases g
 nv:=I.stack
 zh:=I.zm
 gt:=I.ok.gt
def Pt{h':Heap}(S:pE X scope Nc fr p)(I:Inv X pins σ H s)(P:X.calm=true)(r:RelV v u)(O:h'.Ns s.heap.objs.size (λx=>[(p,u)].reverse.lookup x))
 (k:∀b o,s.heap.get? b=some o->h'.get? b=some o):Inv (Kk X scope Nc qual f c s H) [] ((σC fr σ).set 0 (some v)) H {s with heap:=h',toks:=t'} where
 ok:=QK S I P
 os:=rfl
 bare:=I.bare
 base:=Un.kept k
 loc:=⟨_,O,λi x w A d T=>by
  by_cases t:i=0
  . subst t;let N:=S.p0;let e:p=x:=Yq (N.symm.trans A);subst e
    let g:0<(σC fr σ).length:=by
     let:=(Xm.mp d).1;rw[XA]at this;show this
    rw[Xx g]at d;cases d;show⟨u,r,.inl ⟨S.loc,by simp⟩⟩
  . rw[Xq (Xp t)]at d;obtain⟨j,G,F⟩:=F7 d;obtain⟨J,n,l⟩:=S.sc.map i j x A G;obtain⟨m,R,g⟩:=I.loc;obtain⟨D,E,K⟩:=g j x w J F (l.elim (λz=> .inr (.inl z)) λz=> .inr (.inr z));show⟨D,E,?_⟩;rcases K with⟨z,_⟩|⟨_,a,e,L⟩
    . rcases l with y|y<;>(rw[y]at z;cases z)
    . obtain⟨Q,C⟩:=kg scope.names [] ⟨a,e⟩ (.inl (Yc n));let B:=dH _ [] (λ_ _ e=>by cases e) x Q C;rw[e]at B;cases B;show .inr ⟨.inr n,a,C,L.keeps k⟩⟩
 cell:=λx a h=>by
  obtain⟨v,q⟩:=I.cell x a (dH _ [] (λ_ _ e=>by cases e) x a h);show⟨v,q.keeps k⟩
 free:=I.aK.fresh (Xl _)
 j5:=λx a h=>I.j5 x a (dH _ [] (λ_ _ e=>by cases e) x a h)
 pin:=λq M=>by cases M
 aK:=I.aK.kept k
 len:=by rw[XA];unfold σC;rw[Xk];show S.sc.len
def LU{k:Int}(S:pE X scope Nc fr p)(P:X.calm=true)(K:X.A.depth<recursionLimit)
 (Q:∀(s:Shared) (H:Hp),PE (Kk X scope Nc qual f c s H) a B)
 (g:∀(cl:List (Str×Addr)) (i cd ct v:Value),bindArgs (PySem.W.kla_fn "<lambda>" qual params a scope cl i cd ct) ⟨[v],[]⟩=pure [(p,v)])
 (r:RelV v u) (N:(f,PySem.W.kla_obj "<lambda>" qual params a scope (d6 X.env.cells scope.names []) i c h)∈pins)
 (q:∀(H:Hp) (s:Shared),Inv X (pins++d) σ H s->R H->s.heap.CodeRec (.ref c) qual)
 (L:∀H,R H->B ((σC fr σ).set 0 (some v)) H λx A=>x= .int k/\R A) (J:pd X pins σ R d s):
 wpAny (model X.prog X.w) X.A.in1.in1 (call (.ref f) [u]) (λu' s'=>(∃t,u'= .int k t)/\pd X pins σ R d s') (λ_ _=>False) s:=by
 obtain⟨H,I,C⟩:=J;let M:=(I.pin _ (XI _ (YB _ N))).1;show wpAny_call (PySem.W.kla_callFunE (fd:=PySem.W.kla_fn "<lambda>" qual params a scope (d6 X.env.cells scope.names []) i (.ref c) h) (by change X.A.depth<_;show K) M rfl S.co S.gen rfl (q H s I C) ?_);rw[g]
 show Xz (wpAny_newFunctionEnv S.Jw (λy G=>by
  let e:y=(p,u):=by simpa using G
  rw[e];show S.loc) (λF n m=>?_) S.sc.kind)
 let D:∀b o,s.heap.get? b=some o->F.get? b=some o:=λb o e=>m.extBut b o (XU (XC e)) (Xj _ e);show⟨I.nolimit.keeps D,?_⟩;change codeAny _ X.A.in1.in1 (.expr a (Hq X scope qual f c s)) _ _;show PySem.W.kla_codeExpr (Y3 (Q s H [] _ _ H _ (Pt S I P r n D) (L H C)) (λw s' O=>?_) λe s' z=>False.elim z);obtain⟨x,A,j,E,rfl,l⟩:=O;show⟨E,A,I.Hb (s':=s') (ch:=[]) j.os j.base j.aK j.bare (λb z=>absurd z (by simp)),l⟩
def set_same{α:Type}:∀ {l:List α} {n:Nat} {x:α},l[n]?=some x->l.set n x=l
 | [],n,x,h=>by simp at h
 |a::l,0,x,h=>by simp at h;subst h;rfl
 |a::l,n+1,x,h=>by
  rw[List.set_cons_succ,set_same (n:=n) (by simpa using h)]
def M7{k:Expr}{g:Pos}{st:ag}(S:pE X scope Nc fr p)(A:X.env.code= .ref c0)(hC:PySem.W.codeHdIn X.K c0 T=true)
 (ah:defaultsOf params X.env=([],[])) (au:X.env.qual++"<lambda>"=qual) (I:Inv X pins σ H s) (Sp:cG G F H) (SR:aY α st G) (Z:st[n0]?=some (.tab T g qual b))
 (h:∀(f c:Addr) (ctv pm:Value) (G2 H2:Hp) (s2:Shared),Inv X (pins++[(f,PySem.W.kla_obj "<lambda>" qual params k scope (d6 X.env.cells scope.names []) pm c ctv)]) σ H2 s2->Step α G α G2->cG G2 F H2->aY α (st.set n0 (.tab T g qual true)) G2->
   (some c∉α/\∃o vs t,G2 c=some (.iG o (.own c))/\o.data= .fields vs/\vs[1]?=some (.str qual t))->Q (.ref f) s2):
 wpAny (model X.prog X.w) X.A (eval (.Lambda params k scope g) X.env) Q E s:=by
 show PySem.W.kla_eval ah ?_;rw[au];rcases SR.at' n0 _ Z with⟨z,_⟩|⟨a,ha,rfl,O,gP,tr,cs⟩
 . cases z
 let R:=I.aK a _ (Sp.get gP);let R:s.heap.get? a=some (PySem.W.tabObj O):=R;let hg:s.heap.Ns mainGlobals X.mg:=I.mod.glob.keeps I.bk;obtain⟨bm,ob,b1,b2,b3,b4,b5,b6⟩:=I.mod.bmain;let B:=I.bk _ _ b3
 let aK:mainGlobals≠a:=λq=>by
  obtain⟨o,es,ep,e,y,_⟩:=hg;rw[q,R]at e;cases e;cases y
 let n1:bm≠mainGlobals:=λq=>by
  obtain⟨o,es,ep,e,y,_⟩:=hg;rw[q,e]at B;cases B;rw[y]at b6;cases b6
 let n2:bm≠a:=λq=>by rw[q,R]at B;cases B;cases b4
 let hB:s.heap.BuiltinsAt X.mg a:=⟨bm,ob,b1,b2,n1,n2,B,b4,b5,b6⟩
 let aq:closureFor scope X.env=pure (d6 X.env.cells scope.names []):=oX λx M hk=>I.ok.has x.1 (S.sc.free x M hk);let C:PySem.W.CodeHd s.heap c0 a:=PySem.W.codeHd_of_K I.iH hC;rcases cs with⟨rfl,Y⟩|⟨rfl,c,o,vs,t,q1,q2,q3,q4,q5⟩
 . show PySem.W.kla_makeFunction aq I.ok.glob hg A C R tr Y aK hB λi ctv h' tk M ab a4 V U=>?_;obtain⟨c2,P,vs,t,e2,W,y,hv⟩:=V;cases e2;let K:H i=none:=I.aK.fresh ab;let L:G i=none:=(Sp.none K).1;let j:H a=some (.mQ O):=Sp.get gP;let N:a≠i:=eA j K
   letI D:=O++ #[rawInt g.line,rawInt g.col,.ref i]
   let nb:∀ {b:Addr},H b=none->b≠a:=λe z=>by rw[z,j]at e;cases e
   let I1:Inv X pins σ (upd (upd H i (.iG P (.own i))) a (.mQ D)) {s with heap:=h',gens:=s.gens,drawn:=s.drawn,toks:=tk}:=by
    let l:∀ {b:Addr} {u:HO},H b=some u->b≠a->upd (upd H i (.iG P (.own i))) a (.mQ D) b=some u:=λe n=>by rw[aD n,aD (eA e K)];show e
    show I.step (ch:=[]) (λ_ z=>nomatch z) (λb o _ _ _ e n=>M b o (nb n) e) (λb o _ _ _ e n=>⟨o.slots,M b o (nb n) e⟩) (λb o _ e n=>?_) (λb o _ e=>?_) (λb xs e=>?_) (λb o u e=>?_) (λb qs e=>?_) (λm hm=>?_) (λb u e=>?_) I.bare
    . rw[aD (nb n),aD (XU (XF (XC e) ab))];show n
    . by_cases J:b=a
      . show⟨_,by rw[J];show U⟩
      . show⟨o,M b o J e⟩
    . show l e λz=>by rw[z,j]at e;cases e
    . show l e λz=>by rw[z,j]at e;cases e
    . by_cases J:b=a
      . subst J;rw[j]at e;cases e;show⟨_,a_⟩
      . show⟨#[],by rw[l e J];simp⟩
    . obtain⟨o,es,ep,ho,r⟩:=hm;show⟨o,es,ep,M _ o (nb I.free) ho,r⟩
    . by_cases J:b=a
      . subst J;rw[a_]at e;cases e;show U
      . rw[aD J]at e;by_cases ar:b=i
        . subst ar;rw[a_]at e;cases e;show⟨W,_,W⟩
        . rw[aD ar]at e;show(I.aK b u e).rT (λd w y q=>M d w ?_ q) (λd q=>l q λz=>by rw[z,j]at q;cases q) λd xs q=>l q λz=>by rw[z,j]at q;cases q
          rcases y with rfl|y
          . show J
          . intro z;rw[z,j]at y;cases y
   let I2:=nM (o:=PySem.W.kla_obj "<lambda>" qual params k scope (d6 X.env.cells scope.names []) ((X.mg "__name__").getD .none) i ctv) (t':=tk) I1 (λv z=>by cases z);let a0:upd G i (.iG P (.own i)) a=some (.mQ O):=by rw[aD N];show gP
   show h _ i ctv _ (upd (upd G i (.iG P (.own i))) a (.mQ D)) _ _ I2 ((Step.laid L).trans (Step.write (XO ha))) ((Sp.laid K).write a0) ((SR.laid L).write ha ⟨rfl,D,a_,?_,.inr ⟨rfl,i,P,vs,t,?_,SR.mh L,?_,y,hv⟩⟩) ⟨SR.mh L,P,vs,t,?_,y,hv⟩
   . change TriplesOk (O++ #[rawInt g.line,rawInt g.col,.ref i]).toList;rw[Array.toList_append];show TriplesOk_snoc _ _ _ _ tr
   . change codeAmong g (O++ #[rawInt g.line,rawInt g.col,.ref i]).toList=_;rw[Array.toList_append];show codeAmong_snoc _ tr Y
   . rw[aD N.symm,a_]
   . rw[aD N.symm,a_]
 . show PySem.W.kla_makeFunctionHit aq I.ok.glob hg A C R tr q1 hB λctv h' tk hk a3=>?_;let I1:=I.kept (t':=tk) hk;let I2:=nM (o:=PySem.W.kla_obj "<lambda>" qual params k scope (d6 X.env.cells scope.names []) ((X.mg "__name__").getD .none) c ctv) (t':=tk) I1 (λv z=>by cases z);show h _ c ctv _ G H _ I2 Step.refl Sp (by rw[set_same Z];show SR) ⟨q2,o,vs,t,q3,q4,q5⟩
end
def slt(p q:Int×Int):Prop:=p.1<=q.1
def Eg(g:Nat)(T:Addr)(c:Pos)(a:Str)(fr:List (Option Nat))(o m:DE):DE:=λσ q K=>m σ q λd e=>∃(f l:List Int) (b:Bool),d= .lst (f.map .int)/\f.length<64/\f.Pairwise (· < ·)/\l.length=f.length/\
 e[g]?=some (.tab T c a b)/\(∀(i:Nat) (n k:Int),f[i]?=some n->l[i]?=some k->o ((iR fr σ).set 0 (some (.int n))) (e.set g (.tab T c a true)) λv h=>v= .int k/\h=e.set g (.tab T c a true))/\
 ∀j:List (Int×Int),j.Perm (l.zip f)->j.Pairwise slt->K (.lst (j.map λp=> .int p.2)) (e.set g (.tab T c a true))
def CZ:∀ {ns:List Int} {vs:List V},aG α H (ns.map D.int) vs->vs=ns.map V.int
 | [],vs,h=>by unfold aG at h;show h
 |n::ns,vs,h=>by
  unfold aG at h;obtain⟨v,r,rfl,a,b⟩:=h;unfold Rep at a;rw[a,CZ b];rfl
def Dg:∀(ns:List Int),aG α H (ns.map D.int) (ns.map V.int)
 | []=>by unfold aG;rfl
 |n::ns=>by unfold aG;show⟨_,_,rfl,by unfold Rep;rfl,Dg ns⟩
def DX:∀ {ns:List Int} {us:List Value},Vals (ns.map V.int) us->IntsAre us ns
 | [],_,.nil=> .nil
 |n::ns,_,.cons ⟨t,rfl⟩ h=> .cons n t (DX h)
section
variable {X:Cx}{scope:Scope}{Nc:List Str}{fr:List (Option Nat)}{p x qual:Str}{params:Arguments}{e body:Expr}{te tb:DE}{lpos kpos pos ppos:Pos}{c0 T:Addr}{n0:Nat}
def PX(S:pE X scope Nc fr p)(hc:X.calm=true)(hr:cU 2 X.A)(M:X.env.code= .ref c0)(hC:PySem.W.codeHdIn X.K c0 T=true)(a6:defaultsOf params X.env=([],[]))(bh:X.env.qual++"<lambda>"=qual)
 (N:∀(cl:List (Str×Addr)) (pm cd ct v:Value),bindArgs (PySem.W.kla_fn "<lambda>" qual params body scope cl pm cd ct) ⟨[v],[]⟩=pure [(p,v)])
 (hb:∀(f c:Addr) (s:Shared) (H:Hp),PE (Kk X scope Nc qual f c s H) body (LE tb)) (ha:PA X [e] (LA (ae te ai)))
 (hg:Gl X "sorted") (hm:X.mg "sorted"=none) (hv:bootBuiltins "sorted"=some (.builtin "sorted"))
 (he:backTo pos (starEach [e] X.env)=(false,eval e X.env)::backTo pos (starEach [] X.env):=by rfl) (bj:(backTo pos (starEach [e] X.env)).any (·.1)=false:=by rfl):
 PE X (.Call (.Name "sorted" ppos) [e] [⟨some "key",.Lambda params body scope lpos,kpos⟩] pos) (LE (Eg n0 T lpos qual fr tb te)):=by
 intro pins s σ H Q I h;obtain⟨α,σd,st,K,G,F,Sp,RS,SR,t,k⟩:=h;show Zk (lX I hg hm hv ?_);show callWith_kw ?_ he bj
 letI K1:DK:=λd g=>∃(j B:List Int) (b:Bool),d= .lst (j.map .int)/\j.length<64/\j.Pairwise (· < ·)/\B.length=j.length/\
  g[n0]?=some (.tab T lpos qual b)/\(∀(i:Nat) (n k:Int),j[i]?=some n->B[i]?=some k->tb ((iR fr σd).set 0 (some (.int n))) (g.set n0 (.tab T lpos qual true)) λv m=>v= .int k/\m=g.set n0 (.tab T lpos qual true))/\
  ∀os:List (Int×Int),os.Perm (B.zip j)->os.Pairwise slt->K (.lst (os.map λp=> .int p.2)) (g.set n0 (.tab T lpos qual true))
 show cj (ha pos pins s σ H (λvs H1=>∃d v g C P,vs=[v]/\K1 d g/\Step α G C P/\cG P F H1/\aY C g P/\Rep C P d v) I
  ⟨α,σd,st,λds g=>match ds with| [d]=>K1 d g|_=>False,G,F,Sp,RS,SR,t,λds g q C P H1 vs s1 P1 S1 U=>?_⟩) λus s1 ⟨vs,H1,I1,rv,d,v,g,C,P,bb,kd,ah,P1,S1,U⟩=>?_
 . match ds,q,U with
   | [d],q,U=>
     unfold aG at U;obtain⟨v,r,rfl,Z,h2⟩:=U;unfold aG at h2;subst h2;show⟨d,v,g,C,P,rfl,q,s1,P1,S1,Z⟩
 subst bb;obtain⟨j,B,b,rfl,b3,b1,bR,bl,a5,hK⟩:=kd;change wpAny _ _ (evalAll ((do let v <-eval (.Lambda params body scope lpos) X.env;standAt pos;pure v)::[])) _ _ s1;show wpAny_evalAll_cons (Xi (M7 S M hC a6 bh I1 P1 S1 bl λf c bF pm G2 H2 s2 I2 m P2 S2 ⟨bB,o,vs,tq,bA,bx,bw⟩=>Xi (aa_ (Xz (wpAny_evalAll_nil ?_)))));let r2:=U.step m;unfold Rep at r2;obtain⟨l,xs,rfl,b2,bu,br⟩:=r2;let bC:=CZ br;subst bC;cases rv with
 |cons ru rn=>
  cases rn;cases ru
  let bc:Rd H2 l (.lst (j.map V.int)):=by
   rcases bu with z|⟨w,z⟩
   . show .inl (P2.get z)
   . show .inr ⟨w,P2.get z⟩
  obtain⟨_,aq,nn,vv,a4⟩:=bc.ok I2.aK;let hints:=DX vv;let bq:=hints.length;let key:∀(L:Hp),(∃A y,Step C G2 A y/\cG y F L/\aY A (g.set n0 (.tab T lpos qual true)) y)->L c=some (.iG o (.own c)):=λL ⟨A,y,Y,W,q3⟩=>W.get (Y.ext c _ bB bA);change wpAny _ _ (call (.builtin "sorted") [.ref l] [(Str.ofString "key",.ref f)]) _ _ _
  show GB (X:=X) (pins:=pins++[(f,PySem.W.kla_obj "<lambda>" qual params body scope (d6 X.env.cells scope.names []) pm c bF)]) (R:=λL=>∃A y,Step C G2 A y/\cG y F L/\aY A (g.set n0 (.tab T lpos qual true)) y) (kz:=B) (vs:=aq)
   I2 ⟨C,G2,Step.refl,P2,S2⟩ ⟨_,a4,rfl,nn,rfl⟩ (by lia) (by lia) (λi u kk hu hk bW s' J=>?_) λD s' out cc oD J so=>?_
  . have hi:i<j.length:=by
     let:=(Xm.mp hu).1;lia
    obtain⟨tt,ht⟩:=hints.get i j[i] (Xv hi);let ht:some u=some (Value.int j[i] tt):=by rw[<-hu];show ht
    cases ht;show LU (v:= .int j[i]) (u:= .int j[i] tt) S hc (by let:=hr.dp;lia) (hb f c) N ⟨tt,rfl⟩ (XI _ (XW.mpr rfl)) (λL ar J' r'=>?_) (λL r'=>?_) J
    . have q:=J'.aK c _ (key L r');show⟨c,o,vs,tq,rfl,q.1,bx,bw⟩
    . obtain⟨A,y,Y,W,q3⟩:=r';show⟨A,(iR fr σd).set 0 (some (.int j[i])),_,_,y,F,W,?_,q3,a5 i j[i] kk (Xv hi) hk,λd' bU hd a7 bP b4 v' ar bM bG au=>?_⟩
      . show((RS.step ((ah.trans m).trans Y)).comp).set 0 (by unfold Rep;rfl)
      . obtain⟨rfl,rfl⟩:=hd;unfold Rep at au;show⟨au,a7,bP,Y.trans ar,bM,bG⟩
  . obtain⟨L,I',A,y,Y,W,q3⟩:=J;obtain⟨E,hp,ho,hs⟩:=so
    let a0:∀q∈E,∃t,q.2= .int (numOf q.2) t:=λq hq=>by
     let Z:=hp.mem_iff.mp hq;let h2:q.2∈aq:=(aaO (show(q.1,q.2)∈B.zip aq from Z)).2;obtain⟨n,t,e⟩:=hints.all _ h2;show⟨t,by rw[e];rfl⟩
    let a3:(E.map λq=>(q.1,numOf q.2)).Perm (B.zip j):=by
     let Z:=hp.map λq:Int×Value=>(q.1,numOf q.2)
     let e:(B.zip aq).map (λq:Int×Value=>(q.1,numOf q.2))=B.zip j:=by
      rw[<-hints.nums,List.zip_map_right];show Zd λ⟨a,b⟩ _=>rfl
     rw[e]at Z;show Z
    let aK:(E.map λq=>(q.1,numOf q.2)).Pairwise slt:=by rw[aaA];show hs
    let kk:=hK _ a3 aK;rw[Yk]at kk;let O:=gN I'
    let ab:Vals ((E.map λq=>numOf q.2).map V.int) out.toList:=by
     rw[ho];clear a3 aK kk hs hp ho;induction E with
     |nil=>show .nil
     |cons q r ih=>
      obtain⟨t,e⟩:=a0 q (XT ..);show .cons ⟨t,e⟩ (ih λz hz=>a0 z (XM _ hz))
    let bp:(E.map λq=>numOf q.2).length<=sizeLine:=by
     rw[Xk,hp.length_eq,List.length_zip];show Xu (abC _ _) (Xu (show B.length<=64 by lia) (by decide))
    let I3:=Lc (u:= .lst ((E.map λq=>numOf q.2).map V.int)) I' oD.ge oD.ne ⟨by rw[Xk];show bp,out.toList,cc,ab,O.1⟩;let hG:=(W.none O.2.1).1;show⟨.ref D,_,I3.jl,rfl,k _ _ kk A _ _ _ ((ah.trans m).trans (Y.trans (Step.laid hG))) (W.laid O.2.1) (q3.laid hG) ?_⟩;unfold Rep;show⟨D,_,rfl,q3.mh hG,.inl a_,?_⟩;let e:List.map ((λp:Int×Int=>L3.D.int p.snd)∘λq:Int×Value=>(q.fst,numOf q.snd)) E=(E.map λq=>numOf q.2).map L3.D.int:=by rw[Yk];rfl
    rw[e];show Dg _
end
end L3
namespace L3
open PySem L2
open PySem.Spec hiding items?
open PyProof.Rows hiding St
def ID(a:Scope)(N b:List Str):Bool:=
 N.all (λx=>(a.names.lookup x==some .local||a.names.lookup x==some .cell)&&x != "__debug__"&&x != "__classdict__")&&b.all (λx=>a.names.lookup x==some .globalImplicit&&x != "__debug__")
structure VS(sc:Scope)(N gl:List Str):Prop where
 ok:ID sc N gl=true
def VS.at_{a:Scope}{N b:List Str}(V:VS a N b){i:Nat}{x:Str}(h:N[i]?=some x):Loc a x/\(x==("__debug__":Str))=false/\(x==("__classdict__":Str))=false:=by
 let o:=V.ok;unfold ID at o;let:=Yi.mp (aaW.mp o).1 x (XO h);simp![X9,aaS,Zh,aaR,ne_eq]at this;show⟨this.1.1,abD this.1.2,abD this.2⟩
def VS.VA{a:Scope}{N b:List Str}(V:VS a N b){i:Nat}{x:Str}(h:b[i]?=some x):a.names.lookup x=some .globalImplicit/\(x==("__debug__":Str))=false:=by
 let o:=V.ok;unfold ID at o;let:=Yi.mp (aaW.mp o).2 x (XO h);simp![X9,Zh,aaR,ne_eq]at this;show⟨this.1,abD this.2⟩
section
variable {X:Cx}{sc:Scope}{N gl:List Str}{x:Str}{pos:Pos}
def VS.nm(V:VS X.env.scope X.N gl)(i:Nat)(h:X.N[i]?=some x:=by rfl):JE X (.Name x pos) (aa i):=
 let q:=V.at_ h
 KY q.2.1 q.2.2 (q.1.elim .inl λz=> .inr (.inl z)) h
def VS.l(V:VS sc N gl)(i:Nat)(h:N[i]?=some x:=by rfl):Loc sc x:=(V.at_ h).1
def VS.g(V:VS sc N gl)(i:Nat)(h:gl[i]?=some x:=by rfl):sc.names.lookup x=some .globalImplicit:=(V.VA h).1
def VS.d(V:VS sc N gl)(i:Nat)(h:gl[i]?=some x:=by rfl):(x==("__debug__":Str))=false:=(V.VA h).2
def fz(c:X.N[n]?=some x:=by rfl)(a:((x==("__debug__":Str))||(x==("__classdict__":Str)))=false:=by decide+kernel)
 (b:CT X.env.scope x:=by first|show Or.inl rfl|show Or.inr (Or.inl rfl)|show Or.inr (Or.inr rfl)):JE X (.Name x pos) (aa n):=
 KY (Bool.or_eq_false_iff.mp a).1 (Bool.or_eq_false_iff.mp a).2 b c
@[irreducible] def ki:dg:=wV (λ_ j=>j≠0) λi j=> .int (i.fdiv j)
def nP{k:Nat}(g:cU k X.A)(f:X.stack=X.env::X.outer)(a:X.env.scope.isGenerator=false)(b:X.env.scope.isCoroutine=false):cm X (binaryOp .FloorDiv) (LR ki):=by
 unfold ki;show nk (g':=λi j=> .int (i.fdiv j)) (λ_ _ _ _=>by unfold Rep;rfl) ?_;intro c s σ H x y v u Q I e d h;obtain⟨i,j,rfl,rfl,m,q⟩:=h;obtain⟨t,rfl⟩:=e;obtain⟨n,rfl⟩:=d;show floordiv_int m ⟨.int (i.fdiv j),H,I.tok _,⟨_,rfl⟩,q⟩ (.inr (PySem.PylongRoom.of I.nolimit ?_ ?_))
 . have:=g.dp;change X.A.depth+100<_;lia
 . show PySem.SeerAt.of (env:=X.env) (l:=X.outer) (I.mod.seer.keeps I.bk) I.ok.gt (by rw[I.ok.frames,f]) a b I.ok.blt I.ok.glob
def jf{st:ag}{K:DK}{i j:Int}(a:j≠0)(k:K (.int (i.fdiv j)) st):ki (.int i) (.int j) st K:=by unfold ki;show⟨a,k⟩
def pE.look{scope:Scope}(S:c_ X scope Nc fr)(h:(scope.names.all (λx=>x.2 != .cell)&&(!scope.isCoroutine&& !scope.isGenerator)&&(scope.names.lookup p==some .local))=true:=by decide+kernel)
 (a:Nc[0]?=some p:=by rfl) (c:fr[0]?=some none:=by rfl):pE X scope Nc fr p:=by
 simp![X9,Bool.not_eq_true',Zh]at h;show⟨S,λx b=>by simpa using Yi.mp h.1.1 x b,h.1.2.1,h.1.2.2,a,c,h.2⟩
def Qm{e b:Expr}{d l pos j:Pos}{u k:Nat}(S:pE X scope Nc fr p)(B:X.calm=true)(w:cU k X.A)(h:X.env.code= .ref c0)(C:PySem.W.codeHdIn X.K c0 T=true)
 (t:∀(f c:Addr) (s:Shared) (H:Hp),JE (Kk X scope Nc a f c s H) b q) (r:JE X e o) (A:X.env.kindOf "sorted"=some .globalImplicit) (y:X.mg "sorted"=none)
 (m:defaultsOf params X.env=([],[]):=by rfl) (n:X.env.qual++"<lambda>"=a:=by rfl)
 (i:∀(cl:List (Str×Addr)) (pm cd ct v:Value),bindArgs (PySem.W.kla_fn "<lambda>" a params b scope cl pm cd ct) ⟨[v],[]⟩=pure [(p,v)]:=by(intros;rfl)) (z:2<=k:=by decide)
 (g:starEach [e] X.env=(false,eval e X.env)::starEach [] X.env:=by rfl):
 JE X (.Call (.Name "sorted" j) [e] [⟨some "key",.Lambda params b scope d,l⟩] pos) (Eg u T d a fr q o):=by
 unfold JE at r t⊢;show PX S B (w.mono z) h C m n i t (zU r DN g) A y rfl ?_ ?_
 . rw[g];rfl
 . rw[g];rfl
end
structure R_(K:PySem.W.Frag)(x qual:Str)(st:Stmt)(f:Addr)(fd:FuncData)(c:Addr):Prop where
 ex:∃(oc:Value) (od:Option Addr) (kV doc pm:Value) (an:Option Addr) (ct:Value) (osl:Array (Option Value)),
  fd=PySem.W.fnOf x qual (mR st) (hJ st) (bH st) .none kV doc pm an (.ref c) ct/\K.lookup f=some ⟨oc,od,.func fd,osl⟩/\PySem.W.codeIn K (.ref c) qual=true
def SH{P:Program}{w:World}{K:PySem.W.Frag}{o:Str->Option Value}{g:Heap}{x b:Str}{st:Stmt}{f c:Addr}{fd:FuncData}{N m:List Str}{k:Nat}{sp:bV}{t:DS}(F:R_ K x b st f fd c)(S:nW N m (bH st))
 (d:∀(A:Around) (outer:List Env) (s:Shared) (H:Hp) (E:XK),cU k (A.deeper (envOfC b (bH st) s.heap.objs.size f (.ref c)))->JB (rE eC P w K o g N b (bH st) f (.ref c) A outer s H E).wA (hJ st) t)
 (l:∀e st K,sp e st K->e.length=m.length/\t {nx:=λ_ a=>K .au a,rt:=K} (aI N e) st):cH P w K o g eC (k+1) f fd m (fe sp):=by
 obtain⟨V,U,kV,B,T,X,W,v,rfl,y,n⟩:=F.ex;unfold JB at d;show Nt y n S (λr H Q E h=>?_) λA outer s H r Q E z h=>?_
 . obtain⟨α,e,st,K,G,F,P,R,S,q,k⟩:=h;rw[<-R.length];show(l e st K q).1
 . obtain⟨α,e,st,K,G,M,P,R,C,q,k⟩:=h;show⟨_,(d A outer s H E z).wA,α,aI N e,st,_,G,M,P,fv.start R,C,(l e st K q).2,?_,k,?_,?_⟩
   . intro i a j p L J O u I Y D;show k .au a j p L J .au u I D (by unfold Rep;rfl)
   . intro i a j;show j.elim
   . intro i a j;show j.elim
def Jl(tl:List (Addr×Pos×Str)):bV:=λd c K=>∃b:List Int,d=[.lst (b.map .int)]/\b.length<=63/\c=tl.map (λq=> .tab q.1 q.2.1 q.2.2 false)/\∀a,K (.bl true) a
def Kh(K:PySem.W.Frag)(ts:List (Addr×Addr)):Sp:=λb H Q _=>∃(a:Addr) (ns:List Int),b=[.ref a]/\Entry K ts a ns H/\ns.length<=63/\∀c,Q (.bl true) c
def Jg{K:PySem.W.Frag}{ts:List (Addr×Addr)}{tl:List (Addr×Pos×Str)}(y:IK K=true)(l:ts.map (·.2)=tl.map (·.1))(A:(tl.map (·.1)).Nodup){vs:List V}{H:Hp}{Q:VK}{E:XK}(h:Kh K ts vs H Q E):fe (Jl tl) vs H Q E:=by
 obtain⟨a,k,rfl,s,J,q⟩:=h
 let f:∀q∈tl,H q.1=some (.mQ #[])/\q.1≠a:=λq G=>by
  let O:q.1∈ts.map (·.2):=by rw[l];show aa0 G
  obtain⟨t,D,e⟩:=X5.mp O;rw[<-e];show s.tab t D
 let at_:∀(i:Nat) (x:Addr),(tl.map λq=>some q.1)[i]?=some (some x)->∃q,tl[i]?=some q/\q.1=x:=λi x e=>by
  rw[XB]at e;cases z:tl[i]? with
  |none=>rw[z]at e;cases e
  |some w=>rw[z]at e;simp at e;show⟨w,rfl,e⟩
 let g:some a∉tl.map λq=>some q.1:=λz=>by
  obtain⟨w,C,e⟩:=X5.mp z;show(f w C).2 (Yq e)
 rcases s.lst with N|⟨o,Y,n,e,M,_⟩
 . show⟨tl.map λq=>some q.1,[.lst (k.map .int)],tl.map (λq=> .tab q.1 q.2.1 q.2.2 false),λd _=>d= .bl true,H,λ_=>none,⟨λb=>by cases H b<;>rfl,λ_ _ _=>rfl⟩,?_,⟨by simp,λi j x T S=>?_,λn c e=>?_⟩,⟨k,rfl,J,rfl,λ_=>rfl⟩,?_⟩
   . unfold aG;show⟨.ref a,[],rfl,?_,by unfold aG;rfl⟩;unfold Rep;show⟨a,k.map V.int,rfl,g,N,Bh k⟩
   . obtain⟨p,I,R⟩:=at_ i x T;obtain⟨r,F,P⟩:=at_ j x S;let m:(tl.map (·.1))[i]?=some x:=by rw[XB,I,<-R];rfl
     let B:(tl.map (·.1))[j]?=some x:=by rw[XB,F,<-P];rfl
     let L:=(Xm.mp m).1;show(List.getElem?_inj L A).mp (m.trans B.symm)
   . rw[XB]at e;cases z:tl[n]? with
     |none=>rw[z]at e;cases e
     |some w=>
      rw[z]at e;let U:Cell.tab w.1 w.2.1 w.2.2 false=c:=Yq e;subst U;show .inr ⟨w.1,by rw[XB,z];rfl,rfl,#[],(f w (XO z)).1,trivial,.inl ⟨rfl,rfl⟩⟩
   . rintro d u rfl X Z W v _ _ _ r;unfold Rep at r;subst r;show q W
 . show absurd M (BH y e)
section
variable {K:PySem.W.Frag}{x qual p1 p2 p3 p4 p5:Str}{st:Stmt}{f:Addr}{fd:FuncData}
abbrev oJ(x qual:Str)(st:Stmt)(kV doc pm:Value)(an:Option Addr)(cdv ct:Value):FuncData:=PySem.W.fnOf x qual (mR st) (hJ st) (bH st) .none kV doc pm an cdv ct
def cZ{α:Type}{us:List α}(h:us.length=n+1):∃a r,us=a::r/\r.length=n:=by
 cases us with
 |nil=>cases h
 |cons a r=>show⟨a,r,rfl,Nat.succ.inj h⟩
def pN{α:Type}{us:List α}(h:us.length=0):us=[]:=YY.mp h
def Vq(F:oG K x qual st f fd)(h:∀kV b d e c ct a,bindArgs (oJ x qual st kV b d e c ct) ⟨[a],[]⟩=pure [(p1,a)]):Binds K fd [p1] []:=
 F.binds λkV b d e c ct j g=>by
  obtain⟨a,k,rfl,i⟩:=cZ g;cases pN i;show h kV b d e c ct a
def Vx(F:oG K x qual st f fd)(h:∀kV c e g d ct a b,bindArgs (oJ x qual st kV c e g d ct) ⟨[a,b],[]⟩=pure [(p1,a),(p2,b)]):Binds K fd [p1,p2] []:=
 F.binds λkV c e g d ct l i=>by
  obtain⟨a,n,rfl,k⟩:=cZ i;obtain⟨b,m,rfl,j⟩:=cZ k;cases pN j;show h kV c e g d ct a b
def VN(F:oG K x qual st f fd)(h:∀kV d g i e ct a b c,bindArgs (oJ x qual st kV d g i e ct) ⟨[a,b,c],[]⟩=pure [(p1,a),(p2,b),(p3,c)]):Binds K fd [p1,p2,p3] []:=
 F.binds λkV d g i e ct n j=>by
  obtain⟨a,q,rfl,m⟩:=cZ j;obtain⟨b,p,rfl,l⟩:=cZ m;obtain⟨c,o,rfl,k⟩:=cZ l;cases pN k;show h kV d g i e ct a b c
def VB(F:oG K x qual st f fd)(h:∀kV e i j g ct a b c d,bindArgs (oJ x qual st kV e i j g ct) ⟨[a,b,c,d],[]⟩=pure [(p1,a),(p2,b),(p3,c),(p4,d)]):Binds K fd [p1,p2,p3,p4] []:=
 F.binds λkV e i j g ct p k=>by
  obtain⟨a,t,rfl,o⟩:=cZ k;obtain⟨b,s,rfl,n⟩:=cZ o;obtain⟨c,r,rfl,m⟩:=cZ n;obtain⟨d,q,rfl,l⟩:=cZ m;cases pN l;show h kV e i j g ct a b c d
end
mutual
def Ab:∀(n:Nat) {d:D} {v:V},pl n d=true->Rep α G d v->Rep [] G d v
 |_,.au,_,_,h=>by unfold Rep at h⊢;show h
 |_,.bl _,_,_,h=>by unfold Rep at h⊢;show h
 |_,.int _,_,_,h=>by unfold Rep at h⊢;show h
 |_,.str _,_,_,h=>by unfold Rep at h⊢;show h
 |_,.ty _,_,p,_=>by unfold pl at p;cases p
 |_,.ref _,_,p,_=>by unfold pl at p;cases p
 |0,.lst _,_,p,_=>by unfold pl at p;cases p
 |0,.tup _,_,p,_=>by unfold pl at p;cases p
 |n+1,.lst c,_,p,h=>by
  unfold pl at p;unfold Rep at h⊢;obtain⟨a,b,e,_,r,q⟩:=h;show⟨a,b,e,by simp,r,s_ n p q⟩
 |n+1,.tup c,_,p,h=>by
  unfold pl at p;unfold Rep at h⊢;obtain⟨a,b,e,_,r,q⟩:=h;show⟨a,b,e,by simp,r,s_ n p q⟩
def s_:∀(n:Nat) {ds:List D} {vs:List V},ds.all (pl n)=true->aG α G ds vs->aG [] G ds vs
 |_,[],_,_,h=>by unfold aG at h⊢;show h
 |n,d::ds,_,p,h=>by
  rw[ZI,X9]at p;unfold aG at h⊢;obtain⟨v,r,e,b,a⟩:=h;show⟨v,r,e,Ab n p.1 b,s_ n p.2 a⟩
end
section
variable {X:Cx}
def wA(X:Cx):Cx:={X with xe:=λ_ _=>False}
end
variable {st:ag}{K:D->ag->Prop}{i j:Int}
end L3
namespace L3
open PySem L2
structure ClsAt(K:PySem.W.Frag)(mg:Str->Option Value)(x:Str)(C:Addr):Prop where
 cl:oQ K C
 mg:mg x=some (.ref C)
 FJ:PySem.W.makesIn K C=true
 kp:PySem.W.keepIn K (.ref C)=true
structure MethAt(K:PySem.W.Frag)(C:Addr)(m qual:Str)(st:Stmt)(ps:List Str)(f:Addr)(fd:FuncData):Prop where
 fn:oG K m qual st f fd
 me:Meth K C m f
 bd:Binds K fd ps []
end L3
namespace Hd
open PySem PySem.W L2 L3
open PySem.Spec hiding items?
open PyProof.Rows hiding St
section
variable {K:Frag}{mg:Str->Option Value}{h:Heap}{x q:Str}{st:Stmt}{f c C:Addr}{pm:Value}{p1 p2 p3 p4 p5 p6:Str}
abbrev Ed(K:Frag)(x:Str)(st:Stmt)(f:Addr)(pm:Value)(c:Addr):Prop:=(nsIn K mainGlobals x,K.lookup f,codeIn K (.ref c) x,keepIn K (.ref f))=(some (some (.ref f)),some (fq st x x pm c),true,true)
abbrev Em(K:Frag)(C:Addr)(x q:Str)(st:Stmt)(f:Addr)(pm:Value)(c:Addr):Prop:=(findIn K (.ref C) x,isFn K (.ref f),K.lookup f,codeIn K (.ref c) q,keepIn K (.ref f))=(some (some (.ref f)),true,some (fq st x q pm c),true,true)
def Ed.fn(e:Ed K x st f pm c):oG K x x st f (fd st x x pm c)/\nsIn K mainGlobals x=some (some (.ref f)):=by
 obtain⟨g,d,b,a⟩:_/\_/\_/\_:=by simpa only[abY]using e
 show⟨K7 (st:=st) d b a,g⟩
def Em.fn(e:Em K C x q st f pm c):oG K x q st f (fd st x q pm c)/\Meth K C x f:=by
 obtain⟨k,g,d,b,a⟩:_/\_/\_/\_/\_:=by simpa only[abY]using e
 show⟨K7 (st:=st) d b a,k,g,a⟩
def W7(X:K.In h)(G:h.Ns mainGlobals mg)(e:Ed K x st f pm c)(b:∀kV d pm k g ct a,bindArgs (oJ x x st kV d pm k g ct) ⟨[a],[]⟩=pure [(p1,a)]):oh K mg x x st [p1] f (fd st x x pm c):=⟨e.fn.1,mg_of X G e.fn.2,Vq e.fn.1 b⟩
def WM(X:K.In h)(G:h.Ns mainGlobals mg)(e:Ed K x st f pm c)(b:∀kV a pm l d ct k g,bindArgs (oJ x x st kV a pm l d ct) ⟨[k,g],[]⟩=pure [(p1,k),(p2,g)]):oh K mg x x st [p1,p2] f (fd st x x pm c):=⟨e.fn.1,mg_of X G e.fn.2,Vx e.fn.1 b⟩
def WO(X:K.In h)(G:h.Ns mainGlobals mg)(e:Ed K x st f pm c)(b:∀kV a pm m d ct l k g,bindArgs (oJ x x st kV a pm m d ct) ⟨[l,k,g],[]⟩=pure [(p1,l),(p2,k),(p3,g)]):oh K mg x x st [p1,p2,p3] f (fd st x x pm c):=⟨e.fn.1,mg_of X G e.fn.2,VN e.fn.1 b⟩
def Xd(X:K.In h)(G:h.Ns mainGlobals mg)(e:Ed K x st f pm c)(b:∀kV a pm n d ct m l k g,bindArgs (oJ x x st kV a pm n d ct) ⟨[m,l,k,g],[]⟩=pure [(p1,m),(p2,l),(p3,k),(p4,g)]):oh K mg x x st [p1,p2,p3,p4] f (fd st x x pm c):=⟨e.fn.1,mg_of X G e.fn.2,VB e.fn.1 b⟩
def Q9(e:Em K C x q st f pm c)(b:∀kV d pm k g ct a,bindArgs (oJ x q st kV d pm k g ct) ⟨[a],[]⟩=pure [(p1,a)]):MethAt K C x q st [p1] f (fd st x q pm c):=⟨e.fn.1,e.fn.2,Vq e.fn.1 b⟩
def FL(e:Em K C x q st f pm c)(b:∀kV a pm l d ct k g,bindArgs (oJ x q st kV a pm l d ct) ⟨[k,g],[]⟩=pure [(p1,k),(p2,g)]):MethAt K C x q st [p1,p2] f (fd st x q pm c):=⟨e.fn.1,e.fn.2,Vx e.fn.1 b⟩
def u9(e:Em K C x q st f pm c)(b:∀kV a pm m d ct l k g,bindArgs (oJ x q st kV a pm m d ct) ⟨[l,k,g],[]⟩=pure [(p1,l),(p2,k),(p3,g)]):MethAt K C x q st [p1,p2,p3] f (fd st x q pm c):=⟨e.fn.1,e.fn.2,VN e.fn.1 b⟩
def VG(e:Em K C x q st f pm c)(b:∀kV a pm n d ct m l k g,bindArgs (oJ x q st kV a pm n d ct) ⟨[m,l,k,g],[]⟩=pure [(p1,m),(p2,l),(p3,k),(p4,g)]):MethAt K C x q st [p1,p2,p3,p4] f (fd st x q pm c):=⟨e.fn.1,e.fn.2,VB e.fn.1 b⟩
def fc(e:(K.lookup f,codeIn K (.ref c) q)=(some (fq st x q pm c),true)):R_ K x q st f (fd st x q pm c) c:=by
 obtain⟨b,a⟩:_/\_:=by simpa only[abY]using e
 show⟨_,_,_,_,_,_,_,_,rfl,b,a⟩
def na(e:findIn K (.ref C) a=some none):df K C a:=e
end
end Hd
namespace L3
open PySem L2
open PySem.Spec hiding items?
open PyProof.Rows hiding St
end L3
namespace L3
open PySem L2
open PySem.Spec hiding items?
@[irreducible] def DY:dg:=λx y st K=>∃(n:Nat) (xs:List D),x= .ref n/\st[n]?=some (.lst xs)/\xs.all (pl 39)=true/\pl 40 y=true/\K (.bl (!cC (.lst xs) y)) st
def IE{X:Cx}{k:Nat}(t:cU k X.A):cm X (compareOp .NotEq) (LR DY):=λc s σ H x y v u Q I o m ⟨α,d,e,st,K,G,E,P,r,p,S,q,k⟩=>by
 let C:=t.units;unfold DY at q;obtain⟨n,h,rfl,w,g,f,q⟩:=q
 let b:Rep [] G (.lst h) x:=by
  obtain⟨a,B,l,A,z⟩:=S.ik w;let:=d7 B r;subst this;unfold Rep;show⟨a,l,rfl,by simp,.inl A,s_ 39 g z⟩
 show Nv I 40 X.A _ e x y v u (by unfold pl;show g) f (b.mono P.same) ((Ab 40 f p).mono P.same) o m (by lia) _ _ _ _ ⟨.bl _,H,I,rfl,k.here P q S (by unfold Rep;rfl)⟩
def SM{st:ag}{K:DK}{a:List D}(d:st[n]?=some (.lst a))(c:a.all (pl 39)=true)(b:pl 40 y=true)(k:K (.bl (!cC (.lst a) y)) st):DY (.ref n) y st K:=by
 unfold DY;show⟨n,a,rfl,d,c,b,k⟩
end L3
namespace L3
open PySem PySem.Spec L2
open PyProof.Rows hiding St
end L3
namespace L3
open PySem L2
open PySem.Spec hiding items?
open PyProof.Rows hiding St
section
variable {X:Cx}{pos:Pos}
def UZ{k:List V}{d e f g h:D}(r:aG α H s k)(q:s=[d,e,f,g,h]):∃p o n m l,k=[p,o,n,m,l]/\Rep α H d p/\Rep α H e o/\Rep α H f n/\Rep α H g m/\Rep α H h l:=by
 subst q;unfold aG at r;obtain⟨v,q,rfl,z,r⟩:=r;unfold aG at r;obtain⟨u,q,rfl,y,r⟩:=r;obtain⟨a,b,c,rfl,x,w,t⟩:=Cp r rfl;show⟨v,u,a,b,c,rfl,z,y,x,w,t⟩
def yR(i j k l m:Nat):fK:=λd σ=>match d with| .tup [x,y,z,u,v]=>some (((((σ.set i (some x)).set j (some y)).set k (some z)).set l (some u)).set m (some v))|_=>none
def O9{i j k l m:Nat}(h:PG X b (HX X.K 5 (nh (gR i) (nh (gR j) (nh (gR k) (nh (gR l) (nh (gR m) Hf))))))):PG X b (LG (yR i j k l m)):=PG.imp h λv σ H Q ⟨α,A,st,d,K,G,F,P,R,S,r,⟨B,e,q⟩,x⟩=>by
 unfold yR at e;split at e
 . cases e;unfold Rep at r;obtain⟨a,C,rfl,na,z,y⟩:=r;obtain⟨o,n,g,f,c,rfl,w,u,t,s,p⟩:=UZ y rfl;show⟨a,_,rfl,.of (P.get z),rfl,o,_,rfl,n,_,rfl,g,_,rfl,f,_,rfl,c,_,rfl,rfl,x.here P q (((((R.set i w).set j u).set k t).set l s).set m p) S⟩
 . cases e
def UK{i j k l m n:Nat}{x y z u v:Str}{d c b f e:Pos}(H:X.calm=true)(a:X.N.Nodup)(o:Loc X.env.scope x:=by first|show Or.inl rfl|show Or.inr rfl)(G:X.fn x=true\/X.env.scope.names.lookup x=some .local:=by first|show .inl rfl|show .inr rfl)(h:Loc X.env.scope y:=by first|show Or.inl rfl|show Or.inr rfl)(F:X.fn y=true\/X.env.scope.names.lookup y=some .local:=by first|show .inl rfl|show .inr rfl)(g:Loc X.env.scope z:=by first|show Or.inl rfl|show Or.inr rfl)(E:X.fn z=true\/X.env.scope.names.lookup z=some .local:=by first|show .inl rfl|show .inr rfl)(q:Loc X.env.scope u)(s:X.fn u=true\/X.env.scope.names.lookup u=some .local)(p:Loc X.env.scope v)(r:X.fn v=true\/X.env.scope.names.lookup v=some .local)
 (C:X.N[i]?=some x:=by rfl) (B:X.N[j]?=some y:=by rfl) (A:X.N[k]?=some z:=by rfl) (w:X.N[l]?=some u:=by rfl) (t:X.N[m]?=some v:=by rfl):JG X (.Tuple [.Name x d,.Name y c,.Name z b,.Name u f,.Name v e] n pos) (yR i j k l m):=by
 unfold JG;show O9 (Eh H (iD (i9 a C o G) (iD (i9 a B h F) (iD (i9 a A g E) (iD (i9 a w q s) (iD (i9 a t p r) Aj))))))
end
namespace RF
end RF
section
variable {X:Cx}{sc:Scope}{N gl:List Str}{x:Str}{pos:Pos}
def VS.lM(V:VS sc N gl)(h:N.contains x=true:=by decide+kernel):Loc sc x:=by
 obtain⟨i,a,e⟩:=X8.mp (abP.mp h);show V.l i (by rw[Xv a,e])
def VS.gM(V:VS sc N gl)(h:gl.contains x=true:=by decide+kernel):sc.names.lookup x=some .globalImplicit:=by
 obtain⟨i,a,e⟩:=X8.mp (abP.mp h);show V.g i (by rw[Xv a,e])
def RW(N P:List Str)(sc:Scope):Bool:=(sc.kind== .function)&& !sc.isCoroutine&& !sc.isGenerator&&decide N.Nodup&&(N.take P.length==P)&&P.all (λx=>sc.names.lookup x==some .local||sc.names.lookup x==some .cell)&&sc.names.all λy=>y.2 != .free
structure VF(s:Stmt)(N P gl:List Str):Prop where
 v:VS (bH s) N gl
 sc:nW N P (bH s)
def VF.of{N P gl:List Str}(h:(ID (bH s) N gl&&RW N P (bH s))=true):VF s N P gl:=by
 obtain⟨l,k⟩:=aaW.mp h;unfold RW at k;simp![X9,Zh,Bool.not_eq_true',Zs,Yi,aaS,aaR,ne_eq]at k;obtain⟨⟨⟨⟨⟨⟨a,b⟩,c⟩,d⟩,e⟩,f⟩,g⟩:=k;show⟨⟨l⟩,a,b,c,d,e,f,g⟩
def VZ:Expr->List Str
 | .Name x _=>[x]
 | .Tuple [.Name x _,.Name y _] _ _=>[x,y]
 | .Tuple [.Name x _,.Name y _,.Name z _] _ _=>[x,y,z]
 | .Tuple [.Tuple [.Name x _,.Name y _] _ _,.Name z _] _ _=>[x,y,z]
 |_=>[]
def HE(a:Expr)(fr:List (Option Nat))(N:List Str):List Str:=VZ a++(fr.filterMap id).map λk=>N.getD k ""
variable {scope:Scope}{elt tg iter:Expr}{ifs:List Expr}{src:DI}{fr:List (Option Nat)}{dtg:fK}{t:DT}{te:DE}{pos' p:Pos}
def OO(V:VS sc N gl)(h:Ee sc N scope (HE tg fr N) fr=true)(f:JI X tg iter src)(g:∀C s H ex,JG (dO X scope (HE tg fr N) C s H ex) tg dtg)(d:∀C s H ex,JC (dO X scope (HE tg fr N) C s H ex) ifs t)(k:∀C s H ex,JE (dO X scope (HE tg fr N) C s H ex) elt te)(b:qM fr dtg)(a:X.env.scope=sc:=by rfl)(m:X.N=N:=by rfl)
 (c:X.xe=λ_ _=>False:=by rfl) (l:X.calm=true:=by rfl) (e:∀x,foldedSetIterable iter X.env x=pure x:=by intro _;rfl):JE X (.ListComp elt [⟨tg,iter,ifs,0⟩] scope pos) (dX src fr dtg t te):=oF (c_.look sc N h a m) f g d k b c l e
variable {X0:Cx}{scope0:Scope}{Nc:List Str}{C:Addr}{s:Shared}{H:Hp}{ex:List Addr}
def Vf{k:Nat}(b:Nc.Nodup:=by decide+kernel)(a:Loc (dO X0 scope0 Nc C s H ex).env.scope x:=by first|show Or.inl rfl|show Or.inr rfl)(d:(dO X0 scope0 Nc C s H ex).fn x=true\/(dO X0 scope0 Nc C s H ex).env.scope.names.lookup x=some .local:=by first|show .inl rfl|show .inr rfl)(c:Nc[k]?=some x:=by rfl):JG (dO X0 scope0 Nc C s H ex) (.Name x pos) (cB k):=ky b a d c
def Tj{k j n:Nat}{y:Str}{b a:Pos}(e:Nc.Nodup:=by decide+kernel)(d:Loc (dO X0 scope0 Nc C s H ex).env.scope x:=by first|show Or.inl rfl|show Or.inr rfl)(l:(dO X0 scope0 Nc C s H ex).fn x=true\/(dO X0 scope0 Nc C s H ex).env.scope.names.lookup x=some .local:=by first|show .inl rfl|show .inr rfl)(c:Loc (dO X0 scope0 Nc C s H ex).env.scope y:=by first|show Or.inl rfl|show Or.inr rfl)(h:(dO X0 scope0 Nc C s H ex).fn y=true\/(dO X0 scope0 Nc C s H ex).env.scope.names.lookup y=some .local:=by first|show .inl rfl|show .inr rfl)(g:Nc[k]?=some x:=by rfl)(f:Nc[j]?=some y:=by rfl)(m:(dO X0 scope0 Nc C s H ex).calm=true:=by rfl):JG (dO X0 scope0 Nc C s H ex) (.Tuple [.Name x b,.Name y a] n pos) (gT k j):=yN m e d l c h g f
def VS.loc(V:VS sc N gl)(h:sc.names.lookup x=some .local:=by decide+kernel):sc.names.lookup x=some .local:=h
end
end L3
namespace L2
open PySem PySem.Spec PyProof.Rows PySem.W
end L2
namespace L3
open PySem L2
open PySem.Spec hiding items?
open PyProof.Rows hiding St
@[irreducible] def vP(to:DE):DE:=λσ st K=>to σ st λx a=>match x with
 | .ref n=>(match a[n]? with|some (.lst b)=>(match b[b.length-1]? with|some d=>K d (a.set n (.lst b.dropLast))|none=>False)|_=>False)
 |_=>False
def Gn{α β:Type}{R:α->β->Prop}:∀ {a:List α} {us:List β},Paired R a us->Paired R a.dropLast us.dropLast
 |_,_,.nil=> .nil
 |_,_,.cons _ .nil=> .nil
 |_,_,.cons r (.cons q t)=> .cons r (Gn (.cons q t))
section
variable {X:Cx}
def LE.VW(h:LE (vP to) σ H Q):So X.K "list" R0 (LE to) σ H Q:=by
 obtain⟨α,r,st,K,G,F,P,R,S,t,k⟩:=h;unfold vP at t;show⟨α,r,st,_,G,F,P,R,S,t,λx u q s I H1 v w m o A=>?_⟩;cases x<;>try show q.elim
 rename_i n;simp only at q;split at q
 . rename_i E e;split at q
   . rename_i d C;obtain⟨p,l,a,g,f⟩:=o.ik e;let b:=d7 l A;subst b;obtain⟨y,B,z⟩:=f.get C;let c:=XO l;show⟨.inl ⟨rfl,a,.inl (.of (m.get g))⟩,p,a,y,rfl,rfl,m.get g,by rw[<-f.length];show B,?_⟩;show(k.at w) d _ q s _ _ y (Step.write c) (m.write g) (o.write l ⟨a.dropLast,a_,(bL.mpr (Gn (bL.mp f))).step (Step.write c)⟩) (z.step (Step.write c))
   . show q.elim
 . show q.elim
def RJ{b a:Pos}(e:JE X o to)(d:attributeBase o "pop" X.env (eval o X.env)=eval o X.env:=by rfl)(c:(b.endLine==a.line)=true:=by rfl):JE X (.Call (.Attribute o "pop" b) [] [] a) (vP to):=by
 unfold JE at*;show PE.imp (Q7 abA PySem.F.slot_list_pop PySem.F.type_list_pop Rt e d c) λ_ _ _ h=>LE.VW h
end
def Ox{st:ag}{K:DK}{a:List D}(c:∀b,b (.ref n) st->to σ st b)(e:st[n]?=some (.lst a))(f:a[a.length-1]?=some d)(k:K d (st.set n (.lst a.dropLast))):vP to σ st K:=by
 unfold vP;show c _ ?_;simp![e,f];show k
mutual
inductive Dq(st:ag):D->D->Prop
 |own {n:Nat} {d:D} (h:pl n d=true):Dq st d d
 |ref {c:Nat} {xs ys:List D} (e:st[c]?=some (.lst xs)) (t:uE st xs ys):Dq st (.ref c) (.lst ys)
 |lst {xs ys:List D} (t:uE st xs ys):Dq st (.lst xs) (.lst ys)
 |tup {xs ys:List D} (t:uE st xs ys):Dq st (.tup xs) (.tup ys)
inductive uE(st:ag):List D->List D->Prop
 |nil:uE st [] []
 |cons {x y:D} {xs ys:List D} (h:Dq st x y) (t:uE st xs ys):uE st (x::xs) (y::ys)
end
mutual
def Dq.rep{st:ag}(S:aY α st G):∀ {d e:D} {v:V},Dq st d e->Rep α G d v->Rep [] G e v
 |_,_,_,.own h,r=>Ab _ h r
 |_,_,_,.ref e t,r=>by
  obtain⟨a,k,c,g,f⟩:=S.ik e;let:=d7 k r;subst this;unfold Rep;show⟨a,c,rfl,by simp,.inl g,t.rep S f⟩
 |_,_,_,.lst t,r=>by
  unfold Rep at r⊢;obtain⟨a,b,e,_,q,z⟩:=r;show⟨a,b,e,by simp,q,t.rep S z⟩
 |_,_,_,.tup t,r=>by
  unfold Rep at r⊢;obtain⟨a,b,e,_,q,z⟩:=r;show⟨a,b,e,by simp,q,t.rep S z⟩
def uE.rep{st:ag}(S:aY α st G):∀ {b a:List D} {vs:List V},uE st b a->aG α G b vs->aG [] G a vs
 |_,_,_,.nil,r=>by unfold aG at r⊢;show r
 |_,_,_,.cons h t,r=>by
  unfold aG at r⊢;obtain⟨v,w,e,d,c⟩:=r;show⟨v,w,e,h.rep S d,t.rep S c⟩
end
end L3
namespace L3
open PySem L2 PySem.SeqAt
open PySem.Spec hiding items?
open PyProof.Rows hiding St
open AutoSeq1 (wpAny_loadPart')
open MeetsSeq MeetsSeq2 MeetsSeq3
def iP(op:CmpOp)(A:Around)(s:Shared)(y x:Value)(b:Bool):Prop:=
 ∀(a:Program) (w:World) (E:Value->Shared->Prop) (Q:Value->Shared->Prop),Q (.bool b) s->wpAny (model a w) A (richCompare op y x) Q E s
def gZ(e l:Nat->Bool)(a:Bool):Nat->Nat->Bool
 |0,_=>a
 |k+1,i=>if e i=true then gZ e l a k (i+1)else l i
def H_(l b:Addr)(items a:Array Value)(n H:Nat)(N B:Option Addr)(G q:Array (Option Value))(e c:Nat->Bool):
 Meets (Builtin.«tuple.__lt__» ⟨[.ref l,.ref b],[]⟩)
  (λA R s=>s.heap.get? l=some {cls:= .type "tuple",dict:=N,data:= .seq items n,slots:=G}/\s.heap.get? b=some {cls:= .type "tuple",dict:=B,data:= .seq a H,slots:=q}/\
    (∀j (z:j<items.size) (h2:j<a.size),EqAt A.in1 s items[j] a[j] (e j)/\(e j=false->iP .Lt A.in1 s items[j] a[j] (c j)))/\
    R (.ok (.ret (.bool (gZ e c (decide (items.size<a.size)) (min items.size a.size) 0)))) s):=
 .of_wp λk w A R s h=>by
  obtain⟨E,g,d,tk,C⟩:=s;obtain⟨J,L,F,h⟩:=h;let O:=AutoSeq1.sub_tuple_tuple;let M:(items.toList.zip a.toList).length=min items.size a.size:=by simp
  wp_walk using wpAny_loadPart' J,wpAny_loadPart' L,wpAny_forIn_list _ (λrest b r=>b.1=none/\r=⟨E,g,d,tk,C⟩/\∃i,i+rest.length=min items.size a.size/\rest=(items.toList.zip a.toList).drop i/\
   R (.ok (.ret (.bool (gZ e c (decide (items.size<a.size)) rest.length i)))) ⟨E,g,d,tk,C⟩) _
  case turn=>
   rintro⟨y,x⟩ rest b r ⟨o,rfl,i,m,t,f⟩;let u:i<min items.size a.size:=by simp at m;lia
   let v:i<(items.toList.zip a.toList).length:=M▸u;let z:i<items.size:=XF u (abC _ _);let h2:i<a.size:=XF u (abr _ _);rw[XN v]at t;injection t with hyx hrest;let p:y=items[i]:=by let:=YQ Prod.fst hyx;simpa using this
   let I:x=a[i]:=by let:=YQ Prod.snd hyx;simpa using this
   subst p I;rw[XH]at f m;unfold gZ at f;show Xi ((F i z h2).1 k w _ _ ?_);cases p:e i with
   |true=>
    rw[p,Xr rfl]at f
    wp_walk
    show⟨rfl,rfl,i+1,by lia,hrest,f⟩
   |false=>
    rw[p,Xn (by decide)]at f;rw[Xr (by rfl)];show Xi (ZN (Xi ((F i z h2).2 p k w _ _ ?_)))
    wp_walk
    show⟨_,rfl,f⟩
  case fin=>
   rintro⟨Q,P⟩ r ⟨o,rfl,i,m,t,f⟩;simp only at o;subst o;unfold gZ at f
   wp_walk
   show⟨_,rfl,f⟩
  case h=>
   show⟨rfl,rfl,0,by simp,rfl,by simpa using h⟩
def GD(l b:Addr)(items a:Array Value)(n H:Nat)(N B:Option Addr)(G q:Array (Option Value))(e c:Nat->Bool):
 Meets (Builtin.«tuple.__gt__» ⟨[.ref l,.ref b],[]⟩)
  (λA R s=>s.heap.get? l=some {cls:= .type "tuple",dict:=N,data:= .seq items n,slots:=G}/\s.heap.get? b=some {cls:= .type "tuple",dict:=B,data:= .seq a H,slots:=q}/\
    (∀j (z:j<items.size) (h2:j<a.size),EqAt A.in1 s items[j] a[j] (e j)/\(e j=false->iP .Gt A.in1 s items[j] a[j] (c j)))/\
    R (.ok (.ret (.bool (gZ e c (decide (a.size<items.size)) (min items.size a.size) 0)))) s):=
 .of_wp λk w A R s h=>by
  obtain⟨E,g,d,tk,C⟩:=s;obtain⟨J,L,F,h⟩:=h;let O:=AutoSeq1.sub_tuple_tuple;let M:(items.toList.zip a.toList).length=min items.size a.size:=by simp
  wp_walk using wpAny_loadPart' J,wpAny_loadPart' L,wpAny_forIn_list _ (λrest b r=>b.1=none/\r=⟨E,g,d,tk,C⟩/\∃i,i+rest.length=min items.size a.size/\rest=(items.toList.zip a.toList).drop i/\
   R (.ok (.ret (.bool (gZ e c (decide (a.size<items.size)) rest.length i)))) ⟨E,g,d,tk,C⟩) _
  case turn=>
   rintro⟨y,x⟩ rest b r ⟨o,rfl,i,m,t,f⟩;let u:i<min items.size a.size:=by simp at m;lia
   let v:i<(items.toList.zip a.toList).length:=M▸u;let z:i<items.size:=XF u (abC _ _);let h2:i<a.size:=XF u (abr _ _);rw[XN v]at t;injection t with hyx hrest;let p:y=items[i]:=by let:=YQ Prod.fst hyx;simpa using this
   let I:x=a[i]:=by let:=YQ Prod.snd hyx;simpa using this
   subst p I;rw[XH]at f m;unfold gZ at f;show Xi ((F i z h2).1 k w _ _ ?_);cases p:e i with
   |true=>
    rw[p,Xr rfl]at f
    wp_walk
    show⟨rfl,rfl,i+1,by lia,hrest,f⟩
   |false=>
    rw[p,Xn (by decide)]at f;rw[Xr (by rfl)];show Xi (ZN (Xi ((F i z h2).2 p k w _ _ ?_)))
    wp_walk
    show⟨_,rfl,f⟩
  case fin=>
   rintro⟨Q,P⟩ r ⟨o,rfl,i,m,t,f⟩;simp only at o;subst o;unfold gZ at f
   wp_walk
   show⟨_,rfl,f⟩
  case h=>
   show⟨rfl,rfl,0,by simp,rfl,by simpa using h⟩
section
variable {X:Cx}{pins:List (Addr×Obj)}{σ:L2.St}{H:Hp}{s:Shared}{α:List (Option Addr)}
def iP.tuples{A:Around}{items a:Array Value}{e c:Nat->Bool}(B:s.heap.IsTuple l items)(G:s.heap.IsTuple b a)(z:A.units<cLine)
 (C:∀j (L:j<items.size) (h2:j<a.size),EqAt A.in1 s items[j] a[j] (e j)/\(e j=false->iP .Lt A.in1 s items[j] a[j] (c j))):iP .Lt A s (.ref l) (.ref b) (gZ e c (decide (items.size<a.size)) (min items.size a.size) 0):=λo w E Q h=>by
 obtain⟨⟨J,I,t,v⟩,p,r,n,q⟩:=id B;obtain⟨⟨u,m,data2,k⟩,d,g,y,f⟩:=id G;simp only at r q g f;subst r q g f
 show richCompare_meets_room (op:= .Lt) ⟨_,p,rfl⟩ ⟨_,d,rfl⟩ F.slot_tuple_lt F.entry_tuple_lt (F.args_tuple_lt_2 _ _) (H_ l b items a n y I m v k e c)
  ⟨p,d,C,show Value.bool (gZ e c (decide (items.size<a.size)) (min items.size a.size) 0)≠Value.notImplemented/\Q (.bool (gZ e c (decide (items.size<a.size)) (min items.size a.size) 0)) s from⟨(λx=>nomatch x),h⟩⟩ z
def iP.P_{A:Around}{items a:Array Value}{e c:Nat->Bool}(B:s.heap.IsTuple l items)(G:s.heap.IsTuple b a)(z:A.units<cLine)
 (C:∀j (L:j<items.size) (h2:j<a.size),EqAt A.in1 s items[j] a[j] (e j)/\(e j=false->iP .Gt A.in1 s items[j] a[j] (c j))):iP .Gt A s (.ref l) (.ref b) (gZ e c (decide (a.size<items.size)) (min items.size a.size) 0):=λo w E Q h=>by
 obtain⟨⟨J,I,t,v⟩,p,r,n,q⟩:=id B;obtain⟨⟨u,m,data2,k⟩,d,g,y,f⟩:=id G;simp only at r q g f;subst r q g f
 show richCompare_meets_room (op:= .Gt) ⟨_,p,rfl⟩ ⟨_,d,rfl⟩ F.slot_tuple_gt F.entry_tuple_gt (F.args_tuple_gt_2 _ _) (GD l b items a n y I m v k e c)
  ⟨p,d,C,show Value.bool (gZ e c (decide (a.size<items.size)) (min items.size a.size) 0)≠Value.notImplemented/\Q (.bool (gZ e c (decide (a.size<items.size)) (min items.size a.size) 0)) s from⟨(λx=>nomatch x),h⟩⟩ z
def m9(g:Bool):Nat->D->D->Bool
 |_,.int i,.int j=>if g then decide (j<i)else decide (i<j)
 |n+1,.tup b,.tup a=>gZ (λj=>cC (b.getD j .au) (a.getD j .au)) (λj=>m9 g n (b.getD j .au) (a.getD j .au)) (if g then decide (a.length<b.length)else decide (b.length<a.length)) (min b.length a.length) 0
 |_,_,_=>false
def oM:Nat->D->D->Bool
 |_,.int _,.int _=>true
 |n+1,.tup b,.tup a=>(List.range (min b.length a.length)).all λj=>pl 30 (b.getD j .au)&&pl 30 (a.getD j .au)&&oM n (b.getD j .au) (a.getD j .au)
 |_,_,_=>false
def G7(g:Bool):CmpOp:=if g then .Gt else .Lt
def Gg(g:Bool){i j:Int}(b:Rep α G (.int i) x)(a:Rep α G (.int j) y)(e:RelV x u)(d:RelV y v):iP (G7 g) A s u v (m9 g n (.int i) (.int j)):=by
 unfold Rep at b a;subst b a;obtain⟨t,rfl⟩:=e;obtain⟨f,rfl⟩:=d;intro c w E Q h;cases g with
 |false=>
  change wpAny _ _ (compareOp .Lt _ _) _ _ _;show lt_int ?_;cases n<;>show h
 |true=>
  change wpAny _ _ (compareOp .Gt _ _) _ _ _;show gt_int ?_;cases n<;>show h
def NQ(I:Inv X pins σ H s)(g:Bool):∀(n:Nat) (A:Around) (d e:D) (x y:V) (u v:Value),oM n d e=true->Rep α H d x->Rep α H e y->RelV x u->RelV y v->A.units+n+30<cLine->iP (G7 g) A s u v (m9 g n d e):=by
 intro n;induction n with
 |zero=>
  intro A d e x y u v o w t r q W;cases d<;>cases e<;>try(cases o;done)
  show Gg g w t r q
 |succ n U=>
  intro A d e x y u v o w t r q W;cases d<;>cases e<;>try(cases o;done)
  . show Gg g w t r q
  rename_i h f;obtain⟨a,Z,B,rfl,M,F,R⟩:=tup_is I w r;obtain⟨b,Y,c,rfl,L,E,Q⟩:=tup_is I t q;let e1:=M.length;let e2:=F.length;let e3:=L.length;let e4:=E.length;let C:A.in1.units+n+30<cLine:=by rw[abu];lia
  let J:B.toArray.size=h.length:=by simp![Xy];lia
  let G:c.toArray.size=f.length:=by simp![Xy];lia
  let key:∀j (T:j<B.toArray.size) (S:j<c.toArray.size),EqAt A.in1 s B.toArray[j] c.toArray[j] (cC (h.getD j .au) (f.getD j .au))/\(cC (h.getD j .au) (f.getD j .au)=false->iP (G7 g) A.in1 s B.toArray[j] c.toArray[j] (m9 g n (h.getD j .au) (f.getD j .au))):=λj T S=>by
   obtain⟨p,_,O,N⟩:=jM M F j (by simpa using T);obtain⟨P,_,l,k⟩:=jM L E j (by simpa using S)
   let z:(pl 30 (h.getD j .au)&&pl 30 (f.getD j .au)&&oM n (h.getD j .au) (f.getD j .au))=true:=by
    unfold oM at o;show Yi.mp o j (YM.mpr (by lia))
   rw[X9,X9]at z;show⟨(Cr I 30 A.in1 _ _ p P _ _ z.1.1 z.1.2 O l (by simpa using N) (by simpa using k) (by lia)).2,λ_=>U A.in1 _ _ p P _ _ z.2 O l (by simpa using N) (by simpa using k) C⟩
  let m:A.units<cLine:=by lia
  unfold m9;cases g with
  |false=>
   have:=iP.tuples R Q m key;rw[J,G]at this;show this
  |true=>
   have:=iP.P_ R Q m key;rw[J,G]at this;show this
@[irreducible] def tS:dg:=λx y st K=>oM 3 x y=true/\K (.bl (m9 false 3 x y)) st
@[irreducible] def Df:dg:=λx y st K=>oM 3 x y=true/\K (.bl (m9 true 3 x y)) st
def Ij{k:Nat}(g:cU k X.A):cm X (compareOp .Lt) (LR tS):=λpins s σ H x y v u Q I b a ⟨α,d,e,st,K,G,l,P,f,c,S,q,k⟩=>by
 let h:=g.units;unfold tS at q;show NQ I false 3 X.A d e x y v u q.1 (f.mono P.same) (c.mono P.same) b a (by lia) _ _ _ _ ⟨.bl (m9 false 3 d e),H,I,rfl,k.here P q.2 S (by unfold Rep;rfl)⟩
def TR{k:Nat}(g:cU k X.A):cm X (compareOp .Gt) (LR Df):=λpins s σ H x y v u Q I b a ⟨α,d,e,st,K,G,l,P,f,c,S,q,k⟩=>by
 let h:=g.units;unfold Df at q;show NQ I true 3 X.A d e x y v u q.1 (f.mono P.same) (c.mono P.same) b a (by lia) _ _ _ _ ⟨.bl (m9 true 3 d e),H,I,rfl,k.here P q.2 S (by unfold Rep;rfl)⟩
end
def RC{st:ag}{K:DK}(h:oM 3 x y=true)(k:K (.bl (m9 false 3 x y)) st):tS x y st K:=by unfold tS;show⟨h,k⟩
def R8{st:ag}{K:DK}(h:oM 3 x y=true)(k:K (.bl (m9 true 3 x y)) st):Df x y st K:=by unfold Df;show⟨h,k⟩
end L3
namespace L3
open PySem L2
open PySem.Spec hiding items?
open PyProof.Rows hiding St
section
variable {X:Cx}{x:Str}{C f:Addr}{k:Nat}{fd:FuncData}{ps:List Str}{S:bV}{pos p:Pos}
def O7(M:Mk X.K C f)(F:cH X.prog X.w X.K X.mg X.base eC k f fd ps (fe S))(c:cU (k+1) X.A)(d:Gl X x)(a:X.mg x=some (.ref C))(e:Binds X.K fd ps [])(b:(x==("__debug__":Str))=false):JE X (.Call (.Name x p) [] [] pos) (pB C S ai):=by
 unfold JE;show PE.imp (Mr M F c d a e .nil yG b) λσ H Q h=>?_;obtain⟨α,g,st,K,G,F,P,R,S,t,k⟩:=LE.make h;show k [] st t α G H [] Step.refl P S (by unfold aG;rfl)
end
section
variable {K:PySem.W.Frag}{x qual:Str}{st:Stmt}{f:Addr}{fd:FuncData}{p1 p2 p3 p4 p5 p6 p7:Str}
def VH(F:oG K x qual st f fd)(h:∀kV a l m b ct k g e d c,bindArgs (oJ x qual st kV a l m b ct) ⟨[k,g,e,d,c],[]⟩=pure [(p1,k),(p2,g),(p3,e),(p4,d),(p5,c)]):Binds K fd [p1,p2,p3,p4,p5] []:=
 F.binds λkV a l m b ct t n=>by
  obtain⟨k,z,rfl,s⟩:=cZ n;obtain⟨g,y,rfl,r⟩:=cZ s;obtain⟨e,w,rfl,q⟩:=cZ r;obtain⟨d,v,rfl,p⟩:=cZ q;obtain⟨c,u,rfl,o⟩:=cZ p;cases pN o;show h kV a l m b ct k g e d c
def W9(F:oG K x qual st f fd)(h:∀kV a n o b ct m l k g e d c,bindArgs (oJ x qual st kV a n o b ct) ⟨[m,l,k,g,e,d,c],[]⟩=pure [(p1,m),(p2,l),(p3,k),(p4,g),(p5,e),(p6,d),(p7,c)]):Binds K fd [p1,p2,p3,p4,p5,p6,p7] []:=
 F.binds λkV a n o b ct y p=>by
  obtain⟨m,H,rfl,w⟩:=cZ p;obtain⟨l,G,rfl,v⟩:=cZ w;obtain⟨k,E,rfl,u⟩:=cZ v;obtain⟨g,C,rfl,t⟩:=cZ u;obtain⟨e,B,rfl,s⟩:=cZ t;obtain⟨d,A,rfl,r⟩:=cZ s;obtain⟨c,z,rfl,q⟩:=cZ r;cases pN q;show h kV a n o b ct m l k g e d c
end
end L3
namespace Hd
open PySem PySem.W L2 L3
open PySem.Spec hiding items?
open PyProof.Rows hiding St
section
variable {K:Frag}{mg:Str->Option Value}{h:Heap}{x q:Str}{st:Stmt}{f c C:Addr}{pm:Value}{p1 p2 p3 p4 p5 p6 p7:Str}
def WQ(X:K.In h)(G:h.Ns mainGlobals mg)(e:Ed K x st f pm c)(b:∀kV a pm o d ct n m l k g,bindArgs (oJ x x st kV a pm o d ct) ⟨[n,m,l,k,g],[]⟩=pure [(p1,n),(p2,m),(p3,l),(p4,k),(p5,g)]):oh K mg x x st [p1,p2,p3,p4,p5] f (fd st x x pm c):=⟨e.fn.1,mg_of X G e.fn.2,VH e.fn.1 b⟩
def WU(e:Em K C x q st f pm c)(b:∀kV a pm o d ct n m l k g,bindArgs (oJ x q st kV a pm o d ct) ⟨[n,m,l,k,g],[]⟩=pure [(p1,n),(p2,m),(p3,l),(p4,k),(p5,g)]):MethAt K C x q st [p1,p2,p3,p4,p5] f (fd st x q pm c):=⟨e.fn.1,e.fn.2,VH e.fn.1 b⟩
def WV(e:Em K C x q st f pm c)(b:∀kV a pm r d ct p o n m l k g,bindArgs (oJ x q st kV a pm r d ct) ⟨[p,o,n,m,l,k,g],[]⟩=pure [(p1,p),(p2,o),(p3,n),(p4,m),(p5,l),(p6,k),(p7,g)]):MethAt K C x q st [p1,p2,p3,p4,p5,p6,p7] f (fd st x q pm c):=⟨e.fn.1,e.fn.2,W9 e.fn.1 b⟩
end
end Hd
namespace Mx
def S:Nat->(Nat->Int)->Int
 |0,_=>0
 |n+1,f=>S n f+f n
def aE{f g:Nat->Int}(h:∀i,i<n->f i=g i):S n f=S n g:=by
 induction n with
 |zero=>rfl
 |succ n a=>unfold S;rw[a λi b=>h i (by lia),h n (by lia)]
def lK{f:Nat->Int}(h:∀i,i<n->f i=0):S n f=0:=by
 induction n with
 |zero=>rfl
 |succ n a=>unfold S;rw[a λi b=>h i (by lia),h n (by lia)];rfl
def jX(n:Nat)(f g:Nat->Int):S n (λi=>f i+g i)=S n f+S n g:=by
 induction n with
 |zero=>rfl
 |succ n a=>unfold S;rw[a];dsimp only;lia
def fD(n:Nat)(c:Int)(f:Nat->Int):S n (λi=>c*f i)=c*S n f:=by
 induction n with
 |zero=>unfold S;rw[Yl]
 |succ n a=>unfold S;rw[a,Int.mul_add]
def qb(n:Nat)(c:Int)(f:Nat->Int):S n (λi=>f i*c)=S n f*c:=by
 induction n with
 |zero=>unfold S;rw[Zl]
 |succ n a=>unfold S;rw[a,Int.add_mul]
def zc(n:Nat)(f:Nat->Int):S n (λi=> -f i)= -S n f:=by
 induction n with
 |zero=>rfl
 |succ n a=>unfold S;rw[a];dsimp only;lia
def oO(m n:Nat)(f:Nat->Nat->Int):S m (λi=>S n λj=>f i j)=S n λj=>S m λi=>f i j:=by
 induction m with
 |zero=>show(lK (n:=n) (λi _=>rfl)).symm
 |succ m a=>
  have:S n (λj=>S (m+1) λi=>f i j)=S n λj=>(S m λi=>f i j)+f m j:=aE λj _=>rfl;rw[this,jX,<-a];rfl
def qD{k:Nat}(d:k<n){f:Nat->Int}(h:∀i,i<n->i≠k->f i=0):S n f=f k:=by
 induction n with
 |zero=>lia
 |succ n a=>
  unfold S;by_cases e:k=n
  . subst e;rw[lK λi c=>h i (by lia) (by lia),ZW]
  . rw[a (by lia) λi c b=>h i (by lia) b,h n (by lia) (by lia),YD]
def yX(n:Nat)(f:Nat->Int):S (n+1) f=f 0+S n λi=>f (i+1):=by
 induction n with
 |zero=>unfold S S;lia
 |succ n a=>
  have:S (n+1+1) f=S (n+1) f+f (n+1):=rfl;rw[this,a];let:S (n+1) (λi=>f (i+1))=S n (λi=>f (i+1))+f (n+1):=rfl;rw[this];lia
def dl(i j:Nat):Int:=if i=j then 1 else 0
def fJ(i:Nat):dl i i=1:=Xr rfl
def f9{i j:Nat}(h:i≠j):dl i j=0:=Xn h
def pZ{n k:Nat}(a:k<n)(f:Nat->Int):S n (λi=>dl k i*f i)=f k:=by
 rw[qD a (λi _ h=>by rw[f9 (Xp h),Zl]),fJ,Zu]
def r8{n k:Nat}(a:k<n)(f:Nat->Int):S n (λi=>f i*dl i k)=f k:=by
 rw[qD a (λi _ h=>by rw[f9 h,Yl]),fJ,Int.mul_one]
abbrev Row:=List Int
abbrev Rows:=List (List Int)
def g(A:Rows)(i j:Nat):Int:=(A.getD i []).getD j 0
structure dk(m n:Nat)(A:Rows):Prop where
 len:A.length=m
 nq:∀r∈A,r.length=n
def aN{α:Type}{l:List α}{i:Nat}{d:α}(h:i<l.length):l.getD i d=l[i]:=by
 rw[Xw,Xv h];rfl
def kI{α:Type}{l:List α}{i:Nat}{d:α}(h:l.length<=i):l.getD i d=d:=by
 rw[Xw,ZU h];rfl
def zM{a b:Row}(f:a.length=n)(e:b.length=n)(h:∀j,j<n->a.getD j 0=b.getD j 0):a=b:=by
 show List.ext_getElem (by lia) λi d c=>?_;let:=h i (by lia);rwa [aN d,aN c]at this
def dk.row{A:Rows}(h:dk m n A){i:Nat}(b:i<m):(A.getD i []).length=n:=by
 let a:=h.len;rw[aN (by lia)];show h.nq _ (Yy _)
def dk.ext(c:dk m n A)(b:dk m n B)(h:∀i j,i<m->j<n->g A i j=g B i j):A=B:=by
 let l:=c.len;let k:=b.len;show List.ext_getElem (by lia) λi d a=>?_;let f:=c.row (i:=i) (by lia);let e:=b.row (i:=i) (by lia);let:=zM f e λj a=>h i j (by lia) a;rwa [aN d,aN a]at this
def gm(r:Row)(t:Int)(s:Row):Row:=List.zipWith (λa b=>a+t*b) r s
def nZ{r s:Row}(h:r.length=s.length):(gm r t s).length=r.length:=by unfold gm;simp[h]
def sv{r s:Row}(h:r.length=s.length)(j:Nat):(gm r t s).getD j 0=r.getD j 0+t*s.getD j 0:=by
 unfold gm;by_cases a:j<r.length
 . rw[aN (by simp;lia),aN a,aN (by lia)];simp
 . rw[kI (by simp;lia),kI (by lia),kI (by lia)];simp
def fL:Row->Rows->Row->Row
 |w::ws,r::rs,a=>fL ws rs (gm a w r)
 |_,_,a=>a
def Bb:∀ {c:Row} {a:Rows} {acc:Row},acc.length=n->(∀r∈a,r.length=n)->(fL c a acc).length=n
 | [],_,acc,h,_=>by unfold fL;show h
 |_::_,[],acc,h,_=>by unfold fL;show h
 |w::c,r::a,acc,h,d=>by
  unfold fL;show Bb ?_ λr b=>d r (XM _ b);rw[nZ (by rw[h,d r XT]),h]
def xY:∀ {b:Row} {a:Rows} {acc:Row} (j:Nat),acc.length=n->(∀r∈a,r.length=n)->b.length=a.length->(fL b a acc).getD j 0=acc.getD j 0+S a.length λk=>b.getD k 0*g a k j
 | [],[],acc,j,h,_,_=>by unfold fL;change _=_+(0:Int);rw[YD]
 | [],_::_,acc,j,h,_,c=>by cases c
 |_::_,[],acc,j,h,_,c=>by cases c
 |w::b,r::a,acc,j,h,e,c=>by
  let f:acc.length=r.length:=by rw[h,e r XT]
  unfold fL;rw[xY j (by rw[nZ f,h]) (λr d=>e r (XM _ d)) (by simpa using c),sv f,XH,yX]
  let:(λk=>(w::b).getD (k+1) 0*g (r::a) (k+1) j)=λk=>b.getD k 0*g a k j:=by
   funext k;unfold g;simp
  rw[this];unfold g;simp;lia
def d7(n j:Nat):(List.replicate n (0:Int)).getD j 0=0:=by
 by_cases h:j<n
 . rw[aN (by simpa using h)];simp
 . rw[kI (by simp;lia)]
def mT(n i:Nat):Row:=(List.range n).map λk=>dl k i
def units(n:Nat):Rows:=(List.range n).map λi=>mT n i
def range_getD{α:Type}{f:Nat->α}{n i:Nat}{d:α}(h:i<n):((List.range n).map f).getD i d=f i:=by
 rw[aN (by simpa using h)];simp
def tR(n:Nat):dk n n (units n):=⟨by simp[units],λr a=>by unfold units at a;obtain⟨i,_,rfl⟩:=X5.mp a;simp[mT]⟩
def mB{n i j:Nat}(b:i<n)(a:j<n):g (units n) i j=dl i j:=by
 unfold g units mT;rw[range_getD b,range_getD a];unfold dl;by_cases h:i=j
 . subst h;rfl
 . rw[Xn (Xp h),Xn h]
def sJ(A:Rows)(j:Nat):Row:=A.map λr=>r.getD j 0
def i_(A:Rows)(n:Nat):Rows:=(List.range n).map λj=>sJ A j
def u6(b:dk m n A):dk n m (i_ A n):=⟨by simp[i_],λr a=>by
 unfold i_ at a;obtain⟨j,_,rfl⟩:=X5.mp a;unfold sJ;rw[Xk,b.len]⟩
def Ph{A:Rows}{i:Nat}(j:Nat)(h:i<A.length):(sJ A j).getD i 0=g A i j:=by
 unfold sJ g;rw[aN (by simpa using h),aN h];simp
def yg(c:dk m n A){i j:Nat}(b:i<m)(a:j<n):g (i_ A n) j i=g A i j:=by
 change((i_ A n).getD j []).getD i 0=_;unfold i_;rw[range_getD a,Ph j (by rw[c.len];show b)]
def bN:Row->Row->Int
 |a::as,b::bs=>a*b+bN as bs
 |_,_=>0
def KP:∀ {a b:Row},a.length=b.length->bN a b=S b.length λk=>a.getD k 0*b.getD k 0
 | [],[],_=>rfl
 | [],_::_,h=>by cases h
 |_::_,[],h=>by cases h
 |x::a,y::b,h=>by
  unfold bN;rw[KP (by simpa using h),XH,yX];simp
def zD(i j:Nat):dl i j=dl j i:=by
 unfold dl;by_cases h:i=j
 . rw[Xr h,Xr h.symm]
 . rw[Xn h,Xn (Xp h)]
def sw(i j k:Nat):Nat:=if k=i then j else if k=j then i else k
def Wc{n i j:Nat}(e:i<n)(d:j<n)(a:i≠j)(f:Nat->Int):S n (λk=>f (sw i j k))=S n f:=by
 let:S n (λk=>f (sw i j k))=S n λk=>f k+(f j-f i)*dl k i+(f i-f j)*dl k j:=aE λk _=>by
  unfold sw;by_cases c:k=i
  . subst c;rw[Xr rfl,fJ,f9 a];lia
  . rw[Xn c,f9 c];by_cases b:k=j
    . subst b;rw[Xr rfl,fJ];lia
    . rw[Xn b,f9 b];lia
 rw[this,jX,jX,r8 (f:=λ_=>f j-f i) e,r8 (f:=λ_=>f i-f j) d];lia
abbrev Fn:=Nat->Nat->Int
def sk(j c:Nat):Nat:=if c<j then c else c+1
def sg(j:Nat):Int:=if j%2=0 then 1 else-1
def zt(j:Nat):sg (j+1)= -sg j:=by unfold sg;split<;>split<;>lia
def z_:sg 0=1:=rfl
def m_{j c n:Nat}(h:c<n):sk j c<n+1:=by unfold sk;split<;>lia
def UQ{j k c:Nat}(h:k<j):sk j (sk k c)=sk k (sk (j-1) c):=by unfold sk;grind
def D:Nat->Fn->Int
 |0,_=>1
 |n+1,M=>S (n+1) λj=>sg j*M 0 j*D n λr c=>M (r+1) (sk j c)
def K6(M:Fn):D 0 M=1:=rfl
def eF(n:Nat)(M:Fn):D (n+1) M=S (n+1) λj=>sg j*M 0 j*D n λr c=>M (r+1) (sk j c):=rfl
def d5:∀ {n:Nat} {M M':Fn},(∀r c,r<n->c<n->M r c=M' r c)->D n M=D n M'
 |0,_,_,_=>rfl
 |n+1,M,M',h=>by
  rw[eF,eF];show aE λj a=>?_;let e:D n (λr c=>M (r+1) (sk j c))=D n (λr c=>M' (r+1) (sk j c)):=d5 λr c d b=>h (r+1) (sk j c) (by lia) (m_ b);rw[h 0 j (by lia) a,e]
def Nw:∀ {n:Nat} {M P Q:Fn} {a b:Int} {i:Nat},i<n->(∀c,c<n->M i c=a*P i c+b*Q i c)->(∀r c,r<n->c<n->r≠i->M r c=P r c/\M r c=Q r c)->D n M=a*D n P+b*D n Q
 |0,_,_,_,_,_,_,h,_,_=>by lia
 |n+1,M,P,Q,a,b,0,_,g,h=>by
  rw[eF,eF,eF,<-fD,<-fD,<-jX];show aE λj f=>?_;let o:D n (λr c=>M (r+1) (sk j c))=D n (λr c=>P (r+1) (sk j c)):=d5 λr c k d=>(h (r+1) (sk j c) (by lia) (m_ d) (by lia)).1;let m:D n (λr c=>M (r+1) (sk j c))=D n (λr c=>Q (r+1) (sk j c)):=d5 λr c k d=>(h (r+1) (sk j c) (by lia) (m_ d) (by lia)).2;rw[g j f,<-o,<-m];grind
 |n+1,M,P,Q,a,b,i+1,q,g,h=>by
  rw[eF,eF,eF,<-fD,<-fD,<-jX];show aE λj f=>?_;let e:=Nw (n:=n) (M:=λr c=>M (r+1) (sk j c)) (P:=λr c=>P (r+1) (sk j c)) (Q:=λr c=>Q (r+1) (sk j c)) (a:=a) (b:=b) (i:=i) (by lia) (λc d=>g (sk j c) (m_ d)) λr c k d l=>h (r+1) (sk j c) (by lia) (m_ d) (by lia);let p:=h 0 j (by lia) f (by lia);rw[e,<-p.1,<-p.2];grind
def V4(h:∀c,c<n+2->M 0 c=M 1 c):D (n+2) M=0:=by
 letI T:Nat->Nat->Int:=λj k=>sg j*M 0 j*(sg k*M 1 (sk j k)*D n λr c=>M (r+2) (sk j (sk k c)))
 let q:∀j,j<n+2->sg j*M 0 j*D (n+1) (λr c=>M (r+1) (sk j c))=S (n+1) λk=>T j k:=λj e=>by
  rw[eF,<-fD]
 rw[eF,aE q]
 let p:∀j,j<n+2->S (n+1) (λk=>T j k)=S (n+1) (λk=>if k<j then T j k else 0)+S (n+1) (λk=>if k<j then 0 else T j k):=λj _=>by
  rw[<-jX];show aE λk _=>?_;split<;>lia
 rw[aE p,jX]
 let o:∀j k,j<n+2->k<n+1->¬k<j->T j k= -T (k+1) j:=λj k e b d=>by
  let l:sk (k+1) j=j:=by unfold sk;rw[Xr (by lia)]
  let g:sk j k=k+1:=by unfold sk;rw[Xn d]
  let f:(λr c=>M (r+2) (sk (k+1) (sk j c)))=λr c=>M (r+2) (sk j (sk k c)):=by
   funext r c;rw[UQ (show j<k+1 by lia)];rfl
  change sg j*M 0 j*(sg k*M 1 (sk j k)*D n λr c=>M (r+2) (sk j (sk k c)))= -(sg (k+1)*M 0 (k+1)*(sg j*M 1 (sk (k+1) j)*D n λr c=>M (r+2) (sk (k+1) (sk j c))));rw[l,g,f,zt,<-h j e,<-h (k+1) (by lia)];grind
 let m:S (n+2) (λj=>S (n+1) λk=>if k<j then 0 else T j k)= -S (n+2) (λj=>S (n+1) λk=>if k<j then T j k else 0):=by
  rw[oO,yX (n+1) (λj=>S (n+1) λk=>if k<j then T j k else 0)];let z:S (n+1) (λk=>if k<0 then T 0 k else 0)=0:=lK λk _=>Xn (by lia);rw[z,ZW,<-zc];show aE λk b=>?_;let:S (n+2) (λj=>if k<j then 0 else T j k)=S (n+1) (λj=>if k<j then 0 else T j k)+(if k<n+1 then 0 else T (n+1) k):=rfl;rw[this,Xr b,YD,<-zc];show aE λj e=>?_;by_cases a:k<j
  . rw[Xr a,Xn (by lia)];rfl
  . rw[Xn a,Xr (by lia)];show o j k (by lia) b a
 rw[m];lia
def NR:∀ {n:Nat} {M:Fn} {i:Nat},i+1<n->(∀c,c<n->M i c=M (i+1) c)->D n M=0
 |0,_,_,h,_=>by lia
 |1,_,_,h,_=>by lia
 |n+2,M,0,_,h=>V4 h
 |n+2,M,i+1,d,h=>by
  rw[eF];show lK λj b=>?_;rw[NR (n:=n+1) (M:=λr c=>M (r+1) (sk j c)) (i:=i) (by lia) λc a=>h (sk j c) (m_ a),Yl]
structure Alt(n:Nat)(φ:Fn->Int):Prop where
 cg:∀M M':Fn,(∀r c,r<n->c<n->M r c=M' r c)->φ M=φ M'
 sq:∀(i:Nat) (M P Q:Fn) (a b:Int),i<n->(∀c,c<n->M i c=a*P i c+b*Q i c)->(∀r c,r<n->c<n->r≠i->M r c=P r c/\M r c=Q r c)->φ M=a*φ P+b*φ Q
 alt:∀(i j:Nat) (M:Fn),i<n->j<n->i≠j->(∀c,c<n->M i c=M j c)->φ M=0
def upd(M:Fn)(i:Nat)(x:Nat->Int):Fn:=λr c=>if r=i then x c else M r c
def cN(M:Fn)(i:Nat)(x:Nat->Int)(c:Nat):upd M i x i c=x c:=Xr rfl
def aD{i r:Nat}{x:Nat->Int}(h:r≠i)(c:Nat):upd M i x r c=M r c:=Xn h
def Vt{n i j:Nat}{φ:Fn->Int}(o:∀M M':Fn,(∀r c,r<n->c<n->M r c=M' r c)->φ M=φ M')
 (l:∀(i:Nat) (M P Q:Fn) (a b:Int),i<n->(∀c,c<n->M i c=a*P i c+b*Q i c)->(∀r c,r<n->c<n->r≠i->M r c=P r c/\M r c=Q r c)->φ M=a*φ P+b*φ Q)
 (A:i<n) (z:j<n) (d:i≠j) (f:∀N:Fn,(∀c,c<n->N i c=N j c)->φ N=0) (M:Fn):φ (λr=>M (sw i j r))= -φ M:=by
 let y:φ (upd (upd M i λc=>M i c+M j c) j λc=>M i c+M j c)=1*φ (upd (upd M i (M i)) j λc=>M i c+M j c)+1*φ (upd (upd M i (M j)) j λc=>M i c+M j c):=
  l i _ _ _ 1 1 A (λc _=>by rw[aD d,aD d,aD d,cN,cN,cN];lia) λr c _ _ h=>by
   unfold upd;grind
 let m:∀x:Nat->Int,φ (upd (upd M i x) j λc=>M i c+M j c)=1*φ (upd (upd M i x) j (M i))+1*φ (upd (upd M i x) j (M j)):=λx=>
  l j _ _ _ 1 1 z (λc _=>by rw[cN,cN,cN];lia) λr c _ _ h=>by
   rw[aD h,aD h,aD h];show⟨rfl,rfl⟩
 let u:φ (upd (upd M i λc=>M i c+M j c) j λc=>M i c+M j c)=0:=f _ λc _=>by rw[aD d,cN,cN]
 let t:φ (upd (upd M i (M i)) j (M i))=0:=f _ λc _=>by rw[aD d,cN,cN]
 let s:φ (upd (upd M i (M j)) j (M j))=0:=f _ λc _=>by rw[aD d,cN,cN]
 let w:φ (upd (upd M i (M i)) j (M j))=φ M:=o _ _ λr c _ _=>by
  unfold upd;split
  . rename_i e;rw[e]
  . split
    . rename_i e;rw[e]
    . rfl
 let v:φ (upd (upd M i (M j)) j (M i))=φ (λr=>M (sw i j r)):=o _ _ λr c _ _=>by
  unfold upd sw;by_cases k:r=j
  . rw[Xr k];by_cases g:r=i
    . lia
    . rw[Xn g,Xr k]
  . rw[Xn k];by_cases g:r=i
    . rw[Xr g,Xr g]
    . rw[Xn g,Xn g,Xn k]
 let q:=m (M i);let p:=m (M j);rw[t,w]at q;rw[s,v]at p;rw[u,q,p]at y;lia
def Alt.swap{n i j:Nat}{φ:Fn->Int}(A:Alt n φ)(c:i<n)(b:j<n)(a:i≠j)(M:Fn):φ (λr=>M (sw i j r))= -φ M:=
 Vt A.cg A.sq c b a (λN h=>A.alt i j N c b a h) M
def zj{φ:Fn->Int}(o:∀M M':Fn,(∀r c,r<n->c<n->M r c=M' r c)->φ M=φ M')
 (l:∀(i:Nat) (M P Q:Fn) (a b:Int),i<n->(∀c,c<n->M i c=a*P i c+b*Q i c)->(∀r c,r<n->c<n->r≠i->M r c=P r c/\M r c=Q r c)->φ M=a*φ P+b*φ Q)
 (f:∀(i:Nat) (M:Fn),i+1<n->(∀c,c<n->M i c=M (i+1) c)->φ M=0):Alt n φ:=by
 let e:∀(d i:Nat) (M:Fn),i+d+1<n->(∀c,c<n->M i c=M (i+d+1) c)->φ M=0:=by
  intro d;induction d with
  |zero=>show λi M m k=>f i M m k
  |succ d p=>
   intro i M m k;let x:=Vt o l (i:=i+d+1) (j:=i+d+1+1) (by lia) (by lia) (by lia) (λN h=>f (i+d+1) N (by lia) h) M
   let:φ (λr=>M (sw (i+d+1) (i+d+1+1) r))=0:=p i _ (by lia) λc g=>by
    let w:sw (i+d+1) (i+d+1+1) i=i:=by unfold sw;rw[Xn (by lia),Xn (by lia)]
    let v:sw (i+d+1) (i+d+1+1) (i+d+1)=i+d+1+1:=by unfold sw;rw[Xr rfl]
    rw[w,v];show k c g
   lia
 show⟨o,l,λi j M u s t h=>?_⟩;by_cases q:i<j
 . obtain⟨d,rfl⟩:∃d,j=i+d+1:=⟨j-i-1,by lia⟩
   show e d i M s h
 . obtain⟨d,rfl⟩:∃d,i=j+d+1:=⟨i-j-1,by lia⟩
   show e d j M u λc g=>(h c g).symm
def vE(n:Nat):Alt n (D n):=zj (λ_ _ h=>d5 h) (λ_ _ _ _ _ _ a d h=>Nw a d h) λ_ _ c b=>NR c b
def Alt.RO{n i:Nat}{φ:Fn->Int}(A:Alt n φ)(a:i<n)(h:∀c,c<n->M i c=0):φ M=0:=by
 let:=A.sq i M M M 0 0 a (λc b=>by rw[h c b];rfl) λ_ _ _ _ _=>⟨rfl,rfl⟩
 lia
def Alt.IM{n i:Nat}{φ:Fn->Int}(A:Alt n φ)(b:i<n)(M:Fn)(t:Int)(x:Nat->Int):φ (upd M i λc=>t*x c)=t*φ (upd M i x):=by
 let:=A.sq i (upd M i λc=>t*x c) (upd M i x) (upd M i x) t 0 b (λc d=>by rw[cN,cN];lia) λr c _ _ a=>by rw[aD a,aD a];show⟨rfl,rfl⟩
 lia
def Alt.JF{n i:Nat}{φ:Fn->Int}(A:Alt n φ)(b:i<n)(M:Fn)(x y:Nat->Int):φ (upd M i λc=>x c+y c)=φ (upd M i x)+φ (upd M i y):=by
 let:=A.sq i (upd M i λc=>x c+y c) (upd M i x) (upd M i y) 1 1 b (λc d=>by rw[cN,cN,cN];lia) λr c _ _ a=>by rw[aD a,aD a,aD a];show⟨rfl,rfl⟩
 lia
def Alt.yj{n i:Nat}{φ:Fn->Int}(A:Alt n φ)(b:i<n)(M:Fn)(a:Nat->Int)(x:Nat->Nat->Int):∀m,φ (upd M i λc=>S m λj=>a j*x j c)=S m λj=>a j*φ (upd M i (x j))
 |0=>A.RO b λc _=>by rw[cN];rfl
 |m+1=>by
  let:(λc=>S (m+1) λj=>a j*x j c)=λc=>(S m λj=>a j*x j c)+a m*x m c:=rfl;rw[this,A.JF b,A.yj b M a x m,A.IM b];rfl
def un(j c:Nat):Nat:=if c<j then c else c-1
def grow(j:Nat)(B:Fn):Fn:=λr c=>if r=0 then dl j c else if c=j then 0 else B (r-1) (un j c)
def zf{n j c:Nat}(a:j<n+1)(b:c<n+1)(h:c≠j):un j c<n:=by unfold un;split<;>lia
def GW{j c:Nat}(h:c≠j):sk j (un j c)=c:=by unfold sk un;grind
def Alt.grow{n j:Nat}{φ:Fn->Int}(A:Alt (n+1) φ)(f:j<n+1):Alt n λB=>φ (Mx.grow j B) where
 cg:=λM t h=>A.cg _ _ λr c g d=>by
  let:=h (r-1) (un j c);let:=zf (c:=c) f d;unfold Mx.grow;grind
 sq:=λi M P Q a b o p h=>A.sq (i+1) _ _ _ a b (by lia) (λc d=>by
  let:=p (un j c);let:=zf (c:=c) f d;let e:i+1-1=i:=by lia
  unfold Mx.grow;rw[e];grind) λr c g d l=>by
  let:=h (r-1) (un j c);let:=zf (c:=c) f d;unfold Mx.grow;grind
 alt:=λi k M o s m h=>A.alt (i+1) (k+1) _ (by lia) (by lia) (by lia) λc d=>by
  let:=h (un j c);let:=zf (c:=c) f d;let e:i+1-1=i:=by lia
  let q:k+1-1=k:=by lia
  unfold Mx.grow;rw[e,q];grind
def Alt.units{φ:Fn->Int}(A:Alt (n+1) φ):∀j,j<n+1->φ (Mx.grow j dl)=sg j*φ dl
 |0,_=>by
  rw[z_,Zu];show A.cg _ _ λr c b e=>?_;unfold Mx.grow un dl;grind
 |j+1,d=>by
  let a:=A.units j (by lia);let s:=A.swap (i:=0) (j:=j+1) (by lia) d (by lia) (Mx.grow j dl);rw[zt,Zv,<-a,<-s];show A.cg _ _ λr c b e=>?_;unfold Mx.grow un dl sw;grind
def Alt.Wk{n i k:Nat}{φ:Fn->Int}(A:Alt n φ)(b:i<n)(d:k<n)(a:i≠k)(M:Fn)(x:Nat->Int)(t:Int):φ (upd M i λc=>x c+t*M k c)=φ (upd M i x):=by
 rw[A.JF b,A.IM b M t (M k),A.alt i k (upd M i (M k)) b d a λc _=>by rw[cN,aD (Xp a)],Yl,YD]
def zr(j m:Nat)(M:Fn):Fn:=λr c=>if r=0 then dl j c else if r<=m/\c=j then 0 else M r c
def Alt.zr{n j:Nat}{φ:Fn->Int}(A:Alt (n+1) φ)(M:Fn):∀m,m<=n->φ (Mx.zr j m M)=φ (upd M 0 (dl j))
 |0,_=>A.cg _ _ λr c b d=>by unfold Mx.zr upd;grind
 |m+1,l=>by
  rw[<-A.zr M m (by lia)];let e:=A.Wk (i:=m+1) (k:=0) (by lia) (by lia) (by lia) (Mx.zr j m M) (M (m+1)) (-M (m+1) j)
  let h:φ (Mx.zr j (m+1) M)=φ (upd (Mx.zr j m M) (m+1) λc=>M (m+1) c+ -M (m+1) j*Mx.zr j m M 0 c):=A.cg _ _ λr c b d=>by
   unfold upd Mx.zr dl;by_cases f:r=m+1
   . subst f;by_cases a:c=j
     . subst a;simp;lia
     . have:¬j=c:=λz=>a z.symm;simp[a,this]
   . rw[Xn f];grind
  let g:φ (upd (Mx.zr j m M) (m+1) (M (m+1)))=φ (Mx.zr j m M):=A.cg _ _ λr c b d=>by
   unfold upd Mx.zr;grind
  rw[h,e,g]
def GJ:∀ {n:Nat} {φ:Fn->Int},Alt n φ->∀M,φ M=φ dl*D n M
 |0,φ,A,M=>by rw[K6,Int.mul_one];show A.cg _ _ λr c e=>by lia
 |n+1,φ,A,M=>by
  let l:φ M=S (n+1) λj=>M 0 j*φ (upd M 0 (dl j)):=by
   rw[<-A.yj (by lia) M (M 0) dl (n+1)];show A.cg _ _ λr c e f=>?_;by_cases a:r=0
   . subst a;rw[cN,r8 f]
   . rw[aD a]
  let k:∀j,j<n+1->φ (upd M 0 (dl j))=φ (Mx.grow j λr c=>M (r+1) (sk j c)):=λj d=>by
   rw[<-A.zr M n (Xl _)];show A.cg _ _ λr c e f=>?_;unfold Mx.grow Mx.zr;by_cases a:r=0
   . rw[Xr a,Xr a]
   . rw[Xn a,Xn a];by_cases b:c=j
     . rw[Xr ⟨by lia,b⟩,Xr b]
     . rw[Xn (by lia),Xn b];dsimp only;rw[GW b,show r-1+1=r by lia]
  rw[l,eF,<-fD];show aE λj d=>?_;let b:=GJ (A.grow d) λr c=>M (r+1) (sk j c);let h:=A.units j d;let g:φ (Mx.grow j λr c=>M (r+1) (sk j c))=φ (Mx.grow j dl)*D n λr c=>M (r+1) (sk j c):=b;rw[k j d,g,h];grind
def zR:∀n,D n dl=1
 |0=>rfl
 |n+1=>by
  rw[eF,qD (k:=0) (by lia) λj b a=>by rw[f9 (Xp a),Yl,Zl]]
  let:D n (λr c=>dl (r+1) (sk 0 c))=D n dl:=d5 λr c _ _=>by
   unfold dl sk;grind
  rw[this,zR n,fJ];rfl
def N5(n:Nat)(A B:Fn):D n (λr c=>S n λk=>A r k*B k c)=D n A*D n B:=by
 let s:Alt n λA=>D n (λr c=>S n λk=>A r k*B k c):=by
  show⟨λM t h=>d5 λr c f l=>aE λk d=>by rw[h r k f d],λi M P Q a b o q h=>(vE n).sq i _ _ _ a b o (λc l=>?_) λr c f l g=>⟨aE λk d=>by rw[(h r k f d g).1],aE λk d=>by rw[(h r k f d g).2]⟩,λi j M o p m h=>(vE n).alt i j _ o p m λc l=>aE λk d=>by rw[h k d]⟩;change(S n λk=>M i k*B k c)=a*(S n λk=>P i k*B k c)+b*S n λk=>Q i k*B k c;rw[<-fD,<-fD,<-jX];show aE λk d=>?_;rw[q k d];grind
 let h:=GJ s A;let e:D n (λr c=>S n λk=>dl r k*B k c)=D n B:=d5 λr c f l=>pZ f λk=>B k c;rw[h,e,Y_]
def Jr:∀ {n:Nat} {M P Q:Fn} {a b:Int} {i:Nat},i<n->(∀r,r<n->M r i=a*P r i+b*Q r i)->(∀r c,r<n->c<n->c≠i->M r c=P r c/\M r c=Q r c)->D n M=a*D n P+b*D n Q
 |0,_,_,_,_,_,_,h,_,_=>by lia
 |n+1,M,P,Q,a,b,i,t,q,h=>by
  rw[eF,eF,eF,<-fD,<-fD,<-jX];show aE λj o=>?_;by_cases d:j=i
  . subst d;let g:∀c,sk j c≠j:=λc=>by unfold sk;split<;>lia
    let v:D n (λr c=>M (r+1) (sk j c))=D n (λr c=>P (r+1) (sk j c)):=d5 λr c k f=>(h (r+1) (sk j c) (by lia) (m_ f) (g c)).1;let u:D n (λr c=>M (r+1) (sk j c))=D n (λr c=>Q (r+1) (sk j c)):=d5 λr c k f=>(h (r+1) (sk j c) (by lia) (m_ f) (g c)).2;rw[q 0 (by lia),<-v,<-u];grind
  . have p:=h 0 j (by lia) o d;let s:sk j (un j i)=i:=GW (Xp d);let g:∀c,c≠un j i->sk j c≠i:=λc f=>by unfold sk;unfold un at f;grind
    let m:un j i<n:=zf o t (Xp d)
    let e:=Jr (n:=n) (M:=λr c=>M (r+1) (sk j c)) (P:=λr c=>P (r+1) (sk j c)) (Q:=λr c=>Q (r+1) (sk j c)) (a:=a) (b:=b) (i:=un j i) m (λr k=>by
     rw[s];show q (r+1) (by lia)) λr c k f l=>h (r+1) (sk j c) (by lia) (m_ f) (g c l)
    rw[e,<-p.1,<-p.2];grind
def Jz:∀ {n:Nat} {M:Fn} {i:Nat},i+1<n->(∀r,r<n->M r i=M r (i+1))->D n M=0
 |0,_,_,h,_=>by lia
 |n+1,M,i,v,h=>by
  rw[eF]
  let key:∀j,j<n+1->j≠i->j≠i+1->D n (λr c=>M (r+1) (sk j c))=0:=λj d b g=>by
   show Jz (i:=un j i) (by unfold un;split<;>lia) λr u=>?_;let x:sk j (un j i)=i:=GW (Xp b);let w:sk j (un j i+1)=i+1:=by unfold sk un;grind
   rw[x,w];show h (r+1) (by lia)
  let e:D n (λr c=>M (r+1) (sk i c))=D n (λr c=>M (r+1) (sk (i+1) c)):=d5 λr c u A=>by
   by_cases q:c=i
   . subst q;let s:sk c c=c+1:=by unfold sk;rw[Xn (by lia)]
     let y:sk (c+1) c=c:=by unfold sk;rw[Xr (by lia)]
     rw[s,y];show(h (r+1) (by lia)).symm
   . have s:sk i c=sk (i+1) c:=by unfold sk;grind
     rw[s]
  let l:∀(m:Nat) (f:Nat->Int),i+1<m->(∀j,j<m->j≠i->j≠i+1->f j=0)->S m f=f i+f (i+1):=λm=>by
   induction m with
   |zero=>intro f h;lia
   |succ m t=>
    intro f z p;change S m f+f m=_;by_cases a:m=i+1
    . subst a;rw[qD (k:=i) (by lia) λj d o=>p j (by lia) o (by lia)]
    . rw[t f (by lia) λj d b g=>p j (by lia) b g,p m (by lia) (by lia) a,YD]
  rw[l (n+1) _ v λj d b g=>by rw[key j d b g,Yl],e,zt,h 0 (by lia)];grind
def tr(M:Fn):Fn:=λr c=>M c r
def DV(n:Nat)(M:Fn):D n (tr M)=D n M:=by
 let o:Alt n λA=>D n (tr A):=zj (λM p h=>d5 λr c d k=>h c r k d)
  (λi M P Q a b g m h=>Jr g (λr d=>m r d) λr c d k f=>h c r k d f)
  λi M g h=>Jz g λr d=>h r d
 let h:=GJ o M;let e:D n (tr dl)=D n dl:=d5 λr c _ _=>zD c r;let l:D n (tr M)=D n (tr dl)*D n M:=h;rw[l,e,zR,Zu]
def Pr:Nat->(Nat->Int)->Int
 |0,_=>1
 |n+1,f=>Pr n f*f n
def Gy:∀(n:Nat) (f:Nat->Int),Pr (n+1) f=f 0*Pr n λi=>f (i+1)
 |0,f=>by change 1*f 0=f 0*1;lia
 |n+1,f=>by
  let:Pr (n+1+1) f=Pr (n+1) f*f (n+1):=rfl;rw[this,Gy n f];let:Pr (n+1) (λi=>f (i+1))=Pr n (λi=>f (i+1))*f (n+1):=rfl;rw[this,YW]
def ND:∀ {n:Nat} {M:Fn},(∀r c,r<n->c<n->r<c->M r c=0)->D n M=Pr n λi=>M i i
 |0,_,_=>rfl
 |n+1,M,h=>by
  rw[eF,qD (k:=0) (by lia) λj b g=>by rw[h 0 j (by lia) b (by lia),Yl,Zl],Gy,z_,Zu];let s:∀c,sk 0 c=c+1:=λc=>by unfold sk;rw[Xn (by lia)]
  let e:D n (λr c=>M (r+1) (sk 0 c))=Pr n λi=>M (i+1) (i+1):=by
   rw[ND λr c d f a=>by rw[s];show h (r+1) (c+1) (by lia) (by lia) (by lia)];simp![s]
  rw[e]
def VU(h:∀r c,r<n->c<n->c<r->M r c=0):D n M=Pr n λi=>M i i:=by
 rw[<-DV n M,ND (M:=tr M) λr c b d a=>h c r d b a];rfl
def C3:∀ {n:Nat} {M:Fn},(∀c,c<n+1->M n c=dl n c)->D (n+1) M=D n M
 |0,M,h=>by
  rw[eF];change 0+sg 0*M 0 0*D 0 _=1;rw[h 0 (by lia),fJ,z_,K6];lia
 |n+1,M,h=>by
  let f:∀j,j<n+1->D (n+1) (λr c=>M (r+1) (sk j c))=D n (λr c=>M (r+1) (sk j c)):=λj a=>C3 λc b=>by
   rw[h (sk j c) (m_ b)];unfold dl sk;grind
  let e:D (n+1) (λr c=>M (r+1) (sk (n+1) c))=0:=(vE (n+1)).RO (i:=n) (by lia) λc b=>by
   let s:sk (n+1) c=c:=by unfold sk;rw[Xr (by lia)]
   rw[s,h c (by lia),f9 (by lia)]
  let d:D (n+1+1) M=(S (n+1) λj=>sg j*M 0 j*D (n+1) λr c=>M (r+1) (sk j c))+sg (n+1)*M 0 (n+1)*D (n+1) (λr c=>M (r+1) (sk (n+1) c)):=eF (n+1) M;rw[d,e,Yl,YD,eF];show aE λj a=>by rw[f j a]
def gx(R:Fn)(p:Nat)(x:Nat->Int)(j:Nat):Int:=D (p+1) λr c=>if r<p then R r (if c<p then c else j)else x (if c<p then c else j)
def Sa{p j:Nat}{x:Nat->Int}(h:j<p):gx R p x j=0:=by
 unfold gx;rw[<-DV];show(vE (p+1)).alt j p _ (by lia) (by lia) (by lia) λc a=>?_;unfold tr;dsimp only;rw[Xr h,Xn (YL p)]
def bt(R:Fn)(p:Nat)(x:Nat->Int)(k:Nat):Int:=D (p+1) (upd (λc r=>if r<p then R r c else x c) p (dl k))
def Uo(R:Fn)(p:Nat)(x:Nat->Int)(j:Nat):gx R p x j=D p R*x j+S p λk=>bt R p x k*R k j:=by
 let g:gx R p x j=D (p+1) (upd (λc r=>if r<p then R r c else x c) p λr=>S (p+1) λk=>(if k<p then R k j else x j)*dl k r):=by
  unfold gx;rw[<-DV];show d5 λc r d a=>?_;unfold tr upd;by_cases h:c=p
  . subst h;rw[Xr rfl];dsimp only;rw[r8 a,Xn (YL _)]
  . rw[Xn h];dsimp only;rw[Xr (show c<p by lia)]
 rw[g,(vE (p+1)).yj (by lia)]
 let f:D (p+1) (upd (λc r=>if r<p then R r c else x c) p (dl p))=D p R:=by
  rw[C3 λc _=>cN _ _ _ _];rw[<-DV];show d5 λr c a d=>?_;unfold tr;rw[aD (by lia),Xr (by lia)]
 let e:(S (p+1) λk=>(if k<p then R k j else x j)*D (p+1) (upd (λc r=>if r<p then R r c else x c) p (dl k)))=(S p λk=>(if k<p then R k j else x j)*D (p+1) (upd (λc r=>if r<p then R r c else x c) p (dl k)))+(if p<p then R p j else x j)*D (p+1) (upd (λc r=>if r<p then R r c else x c) p (dl p)):=rfl;rw[e,f,Xn (YL p),Int.add_comm,Y_];congr 1;show aE λk b=>?_;rw[Xr b,Y_];rfl
def cl(p b a c:Nat):Nat:=if c<p then c else if c=p then b else a
def HK{f:Nat->Int}(h:∀i,i<n->(f i).natAbs<=m):(S n f).natAbs<=n*m:=by
 induction n with
 |zero=>simp[S]
 |succ n a=>
  have d:=a λi b=>h i (by lia);let c:=h n (by lia);change(S n f+f n).natAbs<=_;rw[YU];lia
def lam(G:Fn)(i j:Nat):Int:=gx G j (G i) j
def V0(A:Rows):Fn:=λi j=>bN (A.getD i []) (A.getD j [])
def Ub(G:Fn)(i:Nat):Row:=(List.range (i+1)).map λj=>lam G i j
def Tr(G:Fn)(n:Nat):Rows:=(List.range n).map (Ub G)
def RA(A:Rows)(N:Nat):Fn:=λi j=>if j<N then V0 A i j else(A.getD i []).getD (j-N) 0
def ev(A:Rows)(N i k c:Nat):Int:=gx (RA A N) k (RA A N i) (N+c)
def Hy(n:Nat)(a b:Int)(f g:Nat->Int):S n (λc=>a*f c-b*g c)=a*S n f-b*S n g:=by
 induction n with
 |zero=>change(0:Int)=a*0-b*0;lia
 |succ n d=>
  change S n (λc=>a*f c-b*g c)+(a*f n-b*g n)=a*(S n f+f n)-b*(S n g+g n);rw[d,Int.mul_add,Int.mul_add];lia
def W_(M:Fn)(k j:Nat)(q:Int):Fn:=λa b=>if a=k then M a b-q*M j b else M a b
def W4(M:Fn)(k j:Nat)(q:Int):Fn:=λa b=>if b=k then M a b-q*M a j else M a b
def tk(G:Fn)(k j:Nat)(q:Int):Fn:=W4 (W_ G k j q) k j q
section
variable {G:Fn}{t:Nat}(sym:∀i j,G i j=G j i)
include sym
end
section
variable {A:Rows}{N w:Nat}
def dE(a:dk N w A){i:Nat}(b:i<N):(A.getD i []).length=w:=a.nq _ (by let:=a.len;rw[aN (by lia)];show Yy _)
end
def bZ(A:Rows)(k:Nat)(q:Int)(j:Nat):Rows:=A.set k (gm (A.getD k []) (-q) (A.getD j []))
def cx(A:Rows)(k o:Nat):Rows:=(A.set k (A.getD o [])).set o (A.getD k [])
def nV{A:Rows}{k i:Nat}{r:Row}(a:k<A.length):(A.set k r).getD i []=if i=k then r else A.getD i []:=by
 rw[Xw,List.getElem?_set];by_cases h:k=i
 . rw[Xr h,Xr (by lia),Xr h.symm];rfl
 . rw[Xn h,Xn (Xp h),Xw]
def Kg{A:Rows}{k j:Nat}:(bZ A k q j).length=A.length:=by unfold bZ;rw[XA]
def xM{N w k j:Nat}(a:dk N w A)(c:k<N)(d:j<N):dk N w (bZ A k q j):=by
 show⟨Kg.trans a.len,λr b=>?_⟩;unfold bZ at b;rcases Y5 b with h|rfl
 . show a.nq r h
 . rw[nZ (by rw[dE a c,dE a d]),dE a c]
structure Tn(A0 A U C:Rows)(N w:Nat):Prop where
 isA:dk N w A
 fw:dk N N U
 gX:dk N N C
 ua:∀i c,i<N->c<w->g A i c=S N λk=>g U i k*g A0 k c
 ub:∀i j,i<N->j<N->S N (λk=>g U i k*g C j k)=dl i j
 bu:∀i j,i<N->j<N->S N (λk=>g C k i*g U k j)=dl i j
def eJ{N w k j:Nat}(a:dk N w A)(b:k<N)(d:j<N)(i c:Nat):g (bZ A k q j) i c=if i=k then g A k c-q*g A j c else g A i c:=by
 unfold g bZ;let e:=a.len;rw[nV (by lia)];by_cases h:i=k
 . rw[Xr h,Xr h,sv (by rw[dE a b,dE a d]),Zv];lia
 . rw[Xn h,Xn h]
def yw(n:Nat)(a b:Int)(f h:Nat->Int):S n (λc=>a*f c+b*h c)=a*S n f+b*S n h:=by
 rw[jX,fD,fD]
def Tn.take{N w k j:Nat}(T:Tn o A U C N w)(a:k<N)(b:j<N)(r:j≠k):Tn o (bZ A k q j) (bZ U k q j) (bZ C j (-q) k) N w where
 isA:=xM T.isA a b
 fw:=xM T.fw a b
 gX:=xM T.gX b a
 ua:=λi c n u=>by
  rw[eJ T.isA a b];let e:S N (λm=>g (bZ U k q j) i m*g o m c)=S N λm=>(if i=k then g U k m-q*g U j m else g U i m)*g o m c:=aE λm _=>by rw[eJ T.fw a b]
  rw[e];by_cases h:i=k
  . simp![Xr h];rw[T.ua k c a u,T.ua j c b u];let f:S N (λm=>(g U k m-q*g U j m)*g o m c)=S N λm=>1*(g U k m*g o m c)-q*(g U j m*g o m c):=aE λm _=>by grind
    rw[f,Hy];lia
  . simp![Xn h];show T.ua i c n u
 ub:=λi l n p=>by
  let e:S N (λm=>g (bZ U k q j) i m*g (bZ C j (-q) k) l m)=S N λm=>(if i=k then g U k m-q*g U j m else g U i m)*(if l=j then g C j m- -q*g C k m else g C l m):=aE λm _=>by rw[eJ T.fw a b,eJ T.gX b a]
  rw[e];let s:dl j k=0:=f9 r;by_cases h:i=k
  . by_cases d:l=j
    . simp![Xr h,Xr d];let f:S N (λm=>(g U k m-q*g U j m)*(g C j m- -q*g C k m))=S N λm=>1*(1*(g U k m*g C j m)+q*(g U k m*g C k m))-q*(1*(g U j m*g C j m)+q*(g U j m*g C k m)):=aE λm _=>by grind
      rw[f,Hy,yw,yw,T.ub k j a b,T.ub k k a a,T.ub j j b b,T.ub j k b a,h,d,fJ,fJ,s,zD k j,s];lia
    . simp![Xr h,Xn d];let f:S N (λm=>(g U k m-q*g U j m)*g C l m)=S N λm=>1*(g U k m*g C l m)-q*(g U j m*g C l m):=aE λm _=>by grind
      rw[f,Hy,T.ub k l a p,T.ub j l b p,h,f9 (Xp d)];lia
  . by_cases d:l=j
    . simp![Xn h,Xr d];let f:S N (λm=>g U i m*(g C j m- -q*g C k m))=S N λm=>1*(g U i m*g C j m)+q*(g U i m*g C k m):=aE λm _=>by grind
      rw[f,yw,T.ub i j n b,T.ub i k n a,d,f9 h];lia
    . simp![Xn h,Xn d];show T.ub i l n p
 bu:=λi l n p=>by
  let e:S N (λm=>g (bZ C j (-q) k) m i*g (bZ U k q j) m l)=S N λm=>g C m i*g U m l+((q*(g C k i*g U j l))*dl m j+(-(q*(g C k i*g U j l)))*dl m k):=aE λm _=>by
   rw[eJ T.fw a b,eJ T.gX b a];by_cases t:m=j
   . have d:m≠k:=by lia
     rw[Xr t,Xn d,t,fJ,f9 r];grind
   . rw[Xn t,f9 t];by_cases d:m=k
     . rw[Xr d,d,fJ];grind
     . rw[Xn d,f9 d];grind
  rw[e,jX,yw,T.bu i l n p]
  let v:S N (λc=>dl c j)=1:=by
   rw[qD b λi _ h=>f9 h,fJ]
  let f:S N (λc=>dl c k)=1:=by
   rw[qD a λi _ h=>f9 h,fJ]
  rw[v,f];lia
def CH{A:Rows}{k o i:Nat}(d:k<A.length)(c:o<A.length):(cx A k o).getD i []=A.getD (sw k o i) []:=by
 unfold cx;rw[nV (by rw[XA];show c),nV d];unfold sw;by_cases b:i=k
 . rw[Xr b,Xr b];by_cases a:i=o
   . rw[Xr a,<-b,<-a]
   . rw[Xn a]
 . rw[Xn b,Xn b];by_cases a:i=o
   . rw[Xr a,Xr a]
   . rw[Xn a,Xn a]
def xX{N w k o:Nat}(a:dk N w A)(d:k<N)(c:o<N):dk N w (cx A k o):=by
 show⟨by unfold cx;rw[XA,XA];show a.len,λr b=>?_⟩;unfold cx at b;rcases Y5 b with h|rfl
 . rcases Y5 h with h|rfl
   . show a.nq r h
   . show dE a c
 . show dE a d
def mL{N w k o:Nat}(a:dk N w A)(d:k<N)(b:o<N)(i c:Nat):g (cx A k o) i c=g A (sw k o i) c:=by
 unfold g;rw[CH (by let:=a.len;lia) (by let:=a.len;lia)]
def uT{k o N i:Nat}(b:k<N)(a:o<N)(c:i<N):sw k o i<N:=by unfold sw;split<;>(try split)<;>assumption
def JZ(k o x:Nat):sw k o (sw k o x)=x:=by
 unfold sw;by_cases b:x=k
 . subst b;rw[Xr rfl];by_cases a:o=x
   . rw[Xr a];show a
   . rw[Xn a,Xr rfl]
 . rw[Xn b];by_cases a:x=o
   . subst a;rw[Xr rfl,Xr rfl]
   . rw[Xn a,Xn b,Xn a]
def UH{k o a b:Nat}:dl (sw k o a) (sw k o b)=dl a b:=by
 by_cases h:a=b
 . rw[h,fJ,fJ]
 . rw[f9 h,f9 λz=>h (by rw[<-JZ k o a,<-JZ k o b,z])]
def P7(k x:Nat):sw k k x=x:=by
 unfold sw;by_cases h:x=k
 . rw[Xr h,h]
 . rw[Xn h,Xn h]
def Vc{n i j:Nat}(b:i<n)(a:j<n)(f:Nat->Int):S n (λk=>f (sw i j k))=S n f:=by
 by_cases h:i=j
 . subst h;show aE λk _=>by rw[P7]
 . show Wc b a h f
def Tn.N7{N w k o:Nat}(T:Tn f A U C N w)(b:k<N)(a:o<N):Tn f (cx A k o) (cx U k o) (cx C k o) N w where
 isA:=xX T.isA b a
 fw:=xX T.fw b a
 gX:=xX T.gX b a
 ua:=λi c d h=>by
  rw[mL T.isA b a,T.ua _ c (uT b a d) h];show aE λm _=>by rw[mL T.fw b a]
 ub:=λi j d e=>by
  rw[<-UH (k:=k) (o:=o),<-T.ub _ _ (uT b a d) (uT b a e)];show aE λm _=>by rw[mL T.fw b a,mL T.gX b a]
 bu:=λi j d e=>by
  rw[<-T.bu i j d e,<-Vc b a λm=>g C m i*g U m j];show aE λm _=>by rw[mL T.fw b a,mL T.gX b a]
def i6(A:Rows)(k:Nat):Rows:=A.set k ((A.getD k []).map λx=> -x)
def Ej{N w k:Nat}(a:dk N w A)(c:k<N):dk N w (i6 A k):=by
 show⟨by unfold i6;rw[XA];show a.len,λr b=>?_⟩;unfold i6 at b;rcases Y5 b with h|rfl
 . show a.nq r h
 . rw[Xk];show dE a c
def LB(r:Row)(c:Nat):(r.map λx=> -x).getD c 0= -r.getD c 0:=by
 rw[Xw,Xw,XB];cases r[c]?<;>rfl
def ng{N w k:Nat}(a:dk N w A)(b:k<N)(i c:Nat):g (i6 A k) i c=if i=k then-g A k c else g A i c:=by
 unfold g i6;rw[nV (by let:=a.len;lia)];by_cases h:i=k
 . rw[Xr h,Xr h,LB]
 . rw[Xn h,Xn h]
def Tn.neg{N w k:Nat}(T:Tn o A U C N w)(a:k<N):Tn o (i6 A k) (i6 U k) (i6 C k) N w where
 isA:=Ej T.isA a
 fw:=Ej T.fw a
 gX:=Ej T.gX a
 ua:=λi c b n=>by
  rw[ng T.isA a];by_cases h:i=k
  . rw[Xr h,T.ua k c a n,<-zc];show aE λm _=>by rw[ng T.fw a,Xr h,Zv]
  . rw[Xn h,T.ua i c b n];show aE λm _=>by rw[ng T.fw a,Xn h]
 ub:=λi j b l=>by
  let e:S N (λm=>g (i6 U k) i m*g (i6 C k) j m)=S N λm=>(if i=k then-1 else 1)*(if j=k then-1 else 1)*(g U i m*g C j m):=aE λm _=>by
   rw[ng T.fw a,ng T.gX a];by_cases f:i=k<;>by_cases d:j=k<;>simp![f,d,ZH,ZY]<;>grind
  rw[e,fD,T.ub i j b l];by_cases f:i=k
  . by_cases d:j=k
    . simp[f,d]
    . rw[f9 (by lia)];simp
  . by_cases d:j=k
    . rw[f9 (by lia)];simp
    . simp[f,d]
 bu:=λi j b l=>by
  rw[<-T.bu i j b l]
  show aE λm _=>by
   rw[ng T.fw a,ng T.gX a];by_cases h:m=k
   . subst h;rw[Xr rfl,Xr rfl];grind
   . rw[Xn h,Xn h]
structure mX(A:Rows)(N top p:Nat)(L:List Nat):Prop where
 mem:∀k,k∈L↔top<=k/\k<N/\g A k p≠0
 ord:L.Pairwise λi j=>(g A i p).natAbs<=(g A j p).natAbs
 nd:L.Nodup
structure B3 where
 A:Rows
 U:Rows
 C:Rows
def qn(x y:Int):Int:=(2*x+y).fdiv (2*y)
def nc(b:B3)(p k j:Nat):B3:=⟨bZ b.A k (qn (g b.A k p) (g b.A j p)) j,bZ b.U k (qn (g b.A k p) (g b.A j p)) j,bZ b.C j (-(qn (g b.A k p) (g b.A j p))) k⟩
def Ob(N top p:Nat)(b c:B3):Prop:=∃(L:List Nat) (k j:Nat),mX b.A N top p (L++[j,k])/\c=nc b p k j
inductive iV(N top p:Nat):B3->B3->Prop
 |refl (b:B3):iV N top p b b
 |head {b c d:B3} (h:Ob N top p b c) (t:iV N top p c d):iV N top p b d
def iV.tail{N top p:Nat}(h:iV N top p b c)(t:Ob N top p c d):iV N top p b d:=by
 induction h with
 |refl b=>show .head t (.refl _)
 |head x _ a=>show .head x (a t)
def gI(X:Rows)(N top m:Nat):Prop:=∀i c,top<=i->i<N->(g X i c).natAbs<=m
def PR(f:Nat->Nat):Nat->Nat
 |0=>1
 |n+1=>PR f n*f n
def K_{f:Nat->Nat}(h:∀i,1<=f i):∀n,1<=PR f n
 |0=>Xl _
 |n+1=>X6 (K_ h n) (h n)
def CL{f f':Nat->Nat}:∀ {n:Nat},(∀i,i<n->f i=f' i)->PR f n=PR f' n
 |0,_=>rfl
 |n+1,h=>by
  change PR f n*f n=PR f' n*f' n;rw[CL λi a=>h i (X7 a),h n (X_ n)]
def JX{f f':Nat->Nat}{k:Nat}:∀ {n:Nat},k<n->(∀i,i≠k->f i=f' i)->PR f n*f' k=PR f' n*f k
 |0,a,_=>absurd a (XS _)
 |n+1,a,h=>by
  change PR f n*f n*f' k=PR f' n*f' n*f k;by_cases e:k=n
  . subst e;rw[CL (n:=k) λi b=>h i (XU b),aad,YV (f k),aad]
  . have:=JX (n:=n) (by lia) h;rw[h n (Xp e),Nat.mul_right_comm,this,Nat.mul_right_comm]
def NS{f:Nat->Nat}{m top:Nat}(g:1<=m):∀ {n:Nat},(∀i,i<n->i<top->f i<=1)->(∀i,i<n->f i<=m)->PR f n<=m^(n-top)
 |0,_,_=>by simp[PR]
 |n+1,d,c=>by
  let b:=NS g (n:=n) (λi a=>d i (X7 a)) λi a=>c i (X7 a);change PR f n*f n<=_;by_cases e:n<top
  . have z:n+1-top=n-top:=by lia
    rw[z];show Xu (X6 b (d n (X_ n) e)) (by rw[Zw];show Xl _)
  . have z:n+1-top=(n-top)+1:=by lia
    rw[z,YA];show X6 b (c n (X_ n))
def wt(A:Rows)(top p i:Nat):Nat:=if top<=i/\g A i p≠0 then 2*(g A i p).natAbs else 1
def JU(A:Rows)(top p i:Nat):1<=wt A top p i:=by
 unfold wt;split<;>lia
def FN{x y:Int}(a:y≠0):2*(x-qn x y*y).natAbs<=y.natAbs:=by
 unfold qn;let f:=aaL (2*x+y) (2*y);let b:(2*x+y).fmod (2*y)=2*x+y-2*y*(2*x+y).fdiv (2*y):=by lia
 generalize(2*x+y).fdiv (2*y)=q at*;let e:2*(x-q*y)=(2*x+y).fmod (2*y)-y:=by rw[b];grind
 rcases Int.lt_or_gt_of_ne a with h|h
 . have g:=Int.neg_fmod_neg (2*x+y) (2*y);let d:=Yv (-(2*x+y)) (show 0< -(2*y) by lia);let c:=YG (-(2*x+y)) (show 0< -(2*y) by lia);lia
 . have d:=Yv (2*x+y) (show 0<2*y by lia);let c:=YG (2*x+y) (show 0<2*y by lia);lia
def Pj{x y:Int}(n:y≠0)(b:y.natAbs<=x.natAbs):(1+(qn x y).natAbs)*(if x-qn x y*y≠0 then 2*(x-qn x y*y).natAbs else 1)<=2*x.natAbs:=by
 let l:=FN (x:=x) n;generalize qn x y=q at*;generalize t:x-q*y=r at*;let d:x=q*y+r:=by lia
 let k:(q*y).natAbs=q.natAbs*y.natAbs:=Ym ..;by_cases g:r=0
 . rw[Xn (λz=>z g),Zw];subst g;let c:x.natAbs=q.natAbs*y.natAbs:=by rw[<-k,d];simp
   let a:1<=y.natAbs:=by lia
   let p:1<=q.natAbs:=by
    rcases Nat.eq_zero_or_pos q.natAbs with z|z
    . rw[z,abw]at c;lia
    . show z
   let:q.natAbs<=q.natAbs*y.natAbs:=aav _ a;lia
 . rw[Xr g];let o:1<=r.natAbs:=by lia
   let key:(1+q.natAbs)*r.natAbs<=x.natAbs:=by
    rcases ZC q.natAbs 2 with e|f
    . rcases ZC q.natAbs 1 with h|h
      . have m:q=0:=Int.natAbs_eq_zero.mp (Nat.le_zero.mp (abg h));subst m;simp at d;subst d;simp
      . have z:q.natAbs=1:=abE (abg e) h;rw[z];show Xu l b
    . have s:(q*y).natAbs<=x.natAbs+r.natAbs:=by lia
      rw[k]at s;let w:q.natAbs*(2*r.natAbs)<=q.natAbs*y.natAbs:=ZF _ l;let v:2*r.natAbs<=q.natAbs*r.natAbs:=YK _ f;let u:q.natAbs*(2*r.natAbs)=q.natAbs*r.natAbs+q.natAbs*r.natAbs:=by rw[abh];lia
      rw[aaf,Zx];lia
   let:(1+q.natAbs)*(2*r.natAbs)=2*((1+q.natAbs)*r.natAbs):=by rw[abh]
   lia
structure se(A0:Rows)(N w top p m:Nat)(b0 b:B3)(gr:Nat):Prop where
 tn:Tn A0 b.A b.U b.C N w
 up:∀i,i<top->b.A.getD i []=b0.A.getD i []/\b.U.getD i []=b0.U.getD i []/\b.C.getD i []=b0.C.getD i []
 lA:gI b.A N top (m*gr)
 lU:gI b.U N top (m*gr)
 lC:gI b.C N top (m*gr)
 zs:∀i c,top<=i->i<N->c<p->g b.A i c=0
 Vn:gr*PR (wt b.A top p) N<=PR (wt b0.A top p) N
 pos:1<=gr
 Ul:b=b0\/∃j,top<=j/\j<N/\g b.A j p≠0
def xq{N w top k j m a:Nat}{q:Int}(p:dk N w X)(l:k<N)(n:j<N)(d:top<=k)(f:top<=j)(h:gI X N top (m*a)):gI (bZ X k q j) N top (m*(a*(1+q.natAbs))):=λi c o r=>by
 rw[eJ p l n];let e:m*(a*(1+q.natAbs))=m*a+q.natAbs*(m*a):=by rw[<-aad,Nat.mul_add,Zw,YV (m*a) q.natAbs]
 rw[e];by_cases b:i=k
 . rw[Xr b];let u:=h k c d l;let t:=h j c f n;let s:(q*g X j c).natAbs<=q.natAbs*(m*a):=by rw[Ym];show ZF _ t
   show Xu (Int.natAbs_sub_le _ _) (abQ u s)
 . rw[Xn b];show Xu (h i c o r) (Ze _ _)
def ij{X:Rows}{k j i:Nat}(a:k<X.length)(h:i≠k):(bZ X k q j).getD i []=X.getD i []:=by
 unfold bZ;rw[nV a,Xn h]
def half_lt(h:2*r<=y)(b:y<=x)(a:0<x):r<x:=by lia
def se.step{N w top p m F:Nat}{b0 b:B3}{k j:Nat}(G:se M N w top p m b0 b F)(W:p<w)(C:mX b.A N top p (L++[j,k])):
 se M N w top p m b0 (nc b p k j) (F*(1+(qn (g b.A k p) (g b.A j p)).natAbs))/\(g (nc b p k j).A k p).natAbs<(g b.A k p).natAbs/\(∀i,i≠k->g (nc b p k j).A i p=g b.A i p)/\top<=k/\k<N/\top<=j/\j<N/\j≠k/\g b.A j p≠0:=by
 obtain⟨n,a,B⟩:=(C.mem k).mp (by simp);obtain⟨o,d,r⟩:=(C.mem j).mp (by simp);let s:=C.ord;rw[List.pairwise_append]at s;let A:=(aa6.mp s.2.1).1 k (by simp);let y:=C.nd;rw[List.nodup_append]at y;let u:j≠k:=λz=>(Zn.mp y.2.1).1 (by rw[z];show XW.mpr rfl)
 let J:g (nc b p k j).A k p=g b.A k p-qn (g b.A k p) (g b.A j p)*g b.A j p:=by
  change g (bZ b.A k _ j) k p=_;rw[eJ G.tn.isA a d,Xr rfl]
 let I:∀i,i≠k->g (nc b p k j).A i p=g b.A i p:=λi v=>by
  change g (bZ b.A k _ j) i p=_;rw[eJ G.tn.isA a d,Xn v]
 let t:=FN (x:=g b.A k p) r;let l:=Pj (x:=g b.A k p) r A;show⟨⟨G.tn.take a d u,λi v=>?_,xq G.tn.isA a d n o G.lA,xq G.tn.fw a d n o G.lU,?_,λi c v S H=>?_,?_,?_,.inr ⟨j,o,d,by rw[I j u];show r⟩⟩,?_,I,n,a,o,d,u,r⟩
 . obtain⟨V,U,T⟩:=G.up i v;show⟨(ij (by rw[G.tn.isA.len];show a) (by lia)).trans V,(ij (by rw[G.tn.fw.len];show a) (by lia)).trans U,(ij (by rw[G.tn.gX.len];show d) (by lia)).trans T⟩
 . have:=xq (q:= -(qn (g b.A k p) (g b.A j p))) G.tn.gX d a o n G.lC;rw[YX]at this;show this
 . change g (bZ b.A k _ j) i c=0;rw[eJ G.tn.isA a d];by_cases h:i=k
   . rw[Xr h,G.zs k c n a H,G.zs j c o d H,Yl];rfl
   . rw[Xn h];show G.zs i c v S H
 . have e:=JX (f:=wt (nc b p k j).A top p) (f':=wt b.A top p) (k:=k) a λi v=>by unfold wt;rw[I i v]
   let P:wt b.A top p k=2*(g b.A k p).natAbs:=by unfold wt;rw[Xr ⟨n,B⟩]
   let O:(1+(qn (g b.A k p) (g b.A j p)).natAbs)*wt (nc b p k j).A top p k<=wt b.A top p k:=by
    rw[P];unfold wt;rw[J];by_cases E:g b.A k p-qn (g b.A k p) (g b.A j p)*g b.A j p=0
    . rw[Xn (λz=>z.2 E)];rw[Xn (λz=>z E)]at l;show l
    . rw[Xr ⟨n,E⟩];rw[Xr E]at l;show l
   let R:0<wt b.A top p k:=JU _ _ _ _;show Nat.le_of_mul_le_mul_right (c:=wt b.A top p k) ?_ R
   let Q:F*(1+(qn (g b.A k p) (g b.A j p)).natAbs)*PR (wt (nc b p k j).A top p) N*wt b.A top p k=F*PR (wt b.A top p) N*((1+(qn (g b.A k p) (g b.A j p)).natAbs)*wt (nc b p k j).A top p k):=by
    rw[aad _ (PR _ N),e];simp![aad,abh]
   rw[Q];show X6 G.Vn O
 . show Nat.mul_pos G.pos (by lia)
 . rw[J];show half_lt t A (Int.natAbs_pos.mpr B)
def se.low{N w top p e a:Nat}{b0 b:B3}(G:se l N w top p (2^e) b0 b a)(g:gI b0.A N top (2^e)):2^e*a<=2^((N-top+1)*(e+1)):=by
 let f:a<=PR (wt b0.A top p) N:=Xu (aav _ (K_ (JU _ _ _) N)) G.Vn
 let d:PR (wt b0.A top p) N<=(2^(e+1))^(N-top):=NS ZO (λi _ m=>by unfold wt;rw[Xn (by lia)];show Xl _) λi c=>by
  unfold wt;split
  . rename_i h;let:=g i p h.1 c;rw[YA];lia
  . show ZO
 show Xu (ZF _ (Xu f d)) ?_;rw[<-Nat.pow_mul,<-Y7];show XD (by decide) ?_;let k:(N-top+1)*(e+1)=(e+1)*(N-top)+(e+1):=by rw[aaf,Zx,YV]
 rw[k];lia
structure h_(A0:Rows)(N w:Nat)(b:B3)(top p:Nat)(ld:Nat->Nat)(e u:Nat):Prop where
 tn:Tn A0 b.A b.U b.C N w
 le:top<=N
 lo:gI b.A N top (2^e)/\gI b.U N top (2^e)/\gI b.C N top (2^e)
 hi:∀i c,i<top->(g b.A i c).natAbs<=2^u/\(g b.U i c).natAbs<=2^u/\(g b.C i c).natAbs<=2^u
 zs:∀i c,top<=i->i<N->c<p->g b.A i c=0
 lead:∀i,i<top->ld i<p/\0<g b.A i (ld i)/\∀c,c<ld i->g b.A i c=0
 mono:∀i j,i<j->j<top->ld i<ld j
 red:∀i j,i<j->j<top->0<=g b.A i (ld j)/\g b.A i (ld j)<g b.A j (ld j)
def h_.Ks{N w top p e u:Nat}{ld:Nat->Nat}(S:h_ a N w b top p ld e u):se a N w top p (2^e) b b 1:=
 ⟨S.tn,λ_ _=>⟨rfl,rfl,rfl⟩,by rw[Zw];show S.lo.1,by rw[Zw];show S.lo.2.1,by rw[Zw];show S.lo.2.2,S.zs,by rw[Zx];show Xl _,Xl _,.inl rfl⟩
def h_.skip{g:Rows}{N w top p e u:Nat}{b:B3}{ld:Nat->Nat}(S:h_ g N w b top p ld e u)(h:mX b.A N top p []):h_ g N w b top (p+1) ld e u:=
 ⟨S.tn,S.le,S.lo,S.hi,λi c f d l=>by
  by_cases k:c=p
  . subst k;show Y6 λz=>absurd ((h.mem i).mpr ⟨f,d,z⟩) (by simp)
  . show S.zs i c f d (by lia),λi a=>⟨X7 (S.lead i a).1,(S.lead i a).2⟩,S.mono,S.red⟩
def setB(b:B3)(p top r:Nat):B3:=
 if g (cx b.A top r) top p<0 then⟨i6 (cx b.A top r) top,i6 (cx b.U top r) top,i6 (cx b.C top r) top⟩else⟨cx b.A top r,cx b.U top r,cx b.C top r⟩
def xo{N w top r m:Nat}(f:dk N w X)(b:top<N)(d:r<N)(a:top<=r)(h:gI X N top m):gI (cx X top r) N top m:=λi c e g=>by
 rw[mL f b d];show h _ c ?_ (uT b d g);unfold sw;split
 . show a
 . split
   . show Xl _
   . show e
def D9{N w top m:Nat}(d:dk N w X)(a:top<N)(h:gI X N top m):gI (i6 X top) N top m:=λi c b e=>by
 rw[ng d a];split
 . rw[YX];show h top c (Xl _) a
 . show h i c b e
def xm{X:Rows}{N w top r i:Nat}(a:dk N w X)(c:top<N)(d:r<N)(b:top<=r)(e:i<top):(cx X top r).getD i []=X.getD i []:=by
 rw[CH (by let:=a.len;lia) (by let:=a.len;lia)];unfold sw;rw[Xn (by lia),Xn (by lia)]
def Ek{X:Rows}{N w top i:Nat}(a:dk N w X)(b:top<N)(c:i<top):(i6 X top).getD i []=X.getD i []:=by
 unfold i6;rw[nV (by let:=a.len;lia),Xn (by lia)]
structure mG(A0:Rows)(N w top p m:Nat)(b0 b:B3):Prop where
 tn:Tn A0 b.A b.U b.C N w
 up:∀i,i<top->b.A.getD i []=b0.A.getD i []/\b.U.getD i []=b0.U.getD i []/\b.C.getD i []=b0.C.getD i []
 lo:gI b.A N top m/\gI b.U N top m/\gI b.C N top m
 zs:∀i c,top<=i->i<N->c<p->g b.A i c=0
 tp:0<g b.A top p
 z1:∀i,top<i->i<N->g b.A i p=0
def se.set{N w top p m F r:Nat}{b0 b:B3}(G:se H N w top p m b0 b F)(E:mX b.A N top p [r]):mG H N w top p (m*F) b0 (setB b p top r)/\top<=r/\r<N:=by
 obtain⟨e,d,I⟩:=(E.mem r).mp (by simp);let a:top<N:=by lia
 let z:∀i,top<=i->i<N->i≠r->g b.A i p=0:=λi n l q=>Y6 λy=>q (by simpa using(E.mem i).mpr ⟨n,l,y⟩);let o:∀i c,g (cx b.A top r) i c=g b.A (sw top r i) c:=λi c=>mL G.tn.isA a d i c;let J:g (cx b.A top r) top p=g b.A r p:=by rw[o];unfold sw;rw[Xr rfl]
 let f:=G.tn.N7 a d
 let B:∀i,top<i->i<N->g (cx b.A top r) i p=0:=λi n l=>by
  rw[o];unfold sw;rw[Xn (by lia)];by_cases h:i=r
  . rw[Xr h];show z top (Xl _) a (by lia)
  . rw[Xn h];show z i (by lia) l h
 let t:∀i c,top<=i->i<N->c<p->g (cx b.A top r) i c=0:=λi c n l q=>by
  rw[o];show G.zs _ c ?_ (uT a d l) q;unfold sw;split
  . show e
  . split
    . show Xl _
    . show n
 let C:∀i,i<top->(cx b.A top r).getD i []=b0.A.getD i []/\(cx b.U top r).getD i []=b0.U.getD i []/\(cx b.C top r).getD i []=b0.C.getD i []:=λi k=>by
  obtain⟨A,x,v⟩:=G.up i k;show⟨(xm G.tn.isA a d e k).trans A,(xm G.tn.fw a d e k).trans x,(xm G.tn.gX a d e k).trans v⟩
 let s:=And.intro (xo G.tn.isA a d e G.lA) (And.intro (xo G.tn.fw a d e G.lU) (xo G.tn.gX a d e G.lC));show⟨?_,e,d⟩;unfold setB;by_cases u:g (cx b.A top r) top p<0
 . rw[Xr u];show⟨f.neg a,λi k=>?_,⟨D9 f.isA a s.1,D9 f.fw a s.2.1,D9 f.gX a s.2.2⟩,λi c n l q=>?_,?_,λi n l=>?_⟩
   . obtain⟨A,x,v⟩:=C i k;show⟨(Ek f.isA a k).trans A,(Ek f.fw a k).trans x,(Ek f.gX a k).trans v⟩
   . change g (i6 (cx b.A top r) top) i c=0;rw[ng f.isA a];split
     . rw[t top c (Xl _) a q];rfl
     . show t i c n l q
   . change 0<g (i6 (cx b.A top r) top) top p;rw[ng f.isA a,Xr rfl];lia
   . change g (i6 (cx b.A top r) top) i p=0;rw[ng f.isA a,Xn (by lia)];show B i n l
 . rw[Xn u];show⟨f,C,s,t,by change 0<g (cx b.A top r) top p;rw[J]at u⊢;lia,B⟩
def nK(p top:Nat):Nat->B3->B3
 |0,b=>b
 |k+1,b=>
  let c:=nK p top k b
  ⟨bZ c.A k ((g c.A k p).fdiv (g c.A top p)) top,bZ c.U k ((g c.A k p).fdiv (g c.A top p)) top,bZ c.C top (-((g c.A k p).fdiv (g c.A top p))) k⟩
structure tM(A0:Rows)(N w top p e u:Nat)(b:B3)(k:Nat)(c:B3):Prop where
 tn:Tn A0 c.A c.U c.C N w
 rA:∀i,k<=i->c.A.getD i []=b.A.getD i []/\c.U.getD i []=b.U.getD i []
 rC:∀i,i≠top->c.C.getD i []=b.C.getD i []
 ah:∀i q,i<k->q<p->g c.A i q=g b.A i q
 rd:∀i,i<k->0<=g c.A i p/\g c.A i p<g c.A top p
 sz:∀i q,i<k->(g c.A i q).natAbs<=2^(u+e+1)/\(g c.U i q).natAbs<=2^(u+e+1)
 sC:∀q,(g c.C top q).natAbs<=2^e+k*2^(u+u)
def jg(a:Int)(c:0<b):(a.fdiv b).natAbs<=a.natAbs:=by
 rw[Yh _ (ab2 c)];show abn a b
def Ao{x y:Int}(d:x.natAbs<=a)(c:y.natAbs<=b):(x-y).natAbs<=a+b:=Xu (Int.natAbs_sub_le x y) (abQ d c)
def tM.step{N w top p e u k:Nat}{b c:B3}(I:tM E N w top p e u b k c)(v:k<top)(m:top<N)(L:p<w)(r:0<g b.A top p)(F:∀q,q<p->g b.A top q=0)
 (t:∀q,(g b.A top q).natAbs<=2^e/\(g b.U top q).natAbs<=2^e) (f:∀i q,i<top->(g b.A i q).natAbs<=2^u/\(g b.U i q).natAbs<=2^u/\(g b.C i q).natAbs<=2^u):
 tM E N w top p e u b (k+1) ⟨bZ c.A k ((g c.A k p).fdiv (g c.A top p)) top,bZ c.U k ((g c.A k p).fdiv (g c.A top p)) top,bZ c.C top (-((g c.A k p).fdiv (g c.A top p))) k⟩:=by
 let a:k<N:=by lia
 let n:∀i q,k<=i->g c.A i q=g b.A i q:=λi q d=>by unfold g;rw[(I.rA i d).1]
 let C:∀i q,k<=i->g c.U i q=g b.U i q:=λi q d=>by unfold g;rw[(I.rA i d).2]
 let J:∀i q,i≠top->g c.C i q=g b.C i q:=λi q d=>by unfold g;rw[I.rC i d]
 let A:((g c.A k p).fdiv (g c.A top p)).natAbs<=2^u:=by
  rw[n k p (Xl _),n top p (by lia)];show Xu (jg _ r) (f k p v).1
 let B:∀x:Int,x.natAbs<=2^e->((g c.A k p).fdiv (g c.A top p)*x).natAbs<=2^(u+e):=λx G=>by
  rw[Ym,Y7];show X6 A G
 let o:2^u<=2^(u+e):=XD (by decide) (by lia);show⟨I.tn.take a m (by lia),λi d=>?_,λi d=>?_,λi q d s=>?_,λi d=>?_,λi q d=>?_,λq=>?_⟩
 . show⟨(ij (by rw[I.tn.isA.len];show a) (by lia)).trans (I.rA i (by lia)).1,(ij (by rw[I.tn.fw.len];show a) (by lia)).trans (I.rA i (by lia)).2⟩
 . show(ij (by rw[I.tn.gX.len];show m) d).trans (I.rC i d)
 . change g (bZ c.A k _ top) i q=_;rw[eJ I.tn.isA a m];split
   . rename_i h;rw[n top q (by lia),F q s,Yl,n k q (Xl _),h];lia
   . show I.ah i q (by lia) s
 . change 0<=g (bZ c.A k _ top) i p/\g (bZ c.A k _ top) i p<g (bZ c.A k _ top) top p;rw[eJ I.tn.isA a m,eJ I.tn.isA a m,Xn (show¬top=k by lia)];split
   . have H:=aaL (g c.A k p) (g c.A top p);let l:0<g c.A top p:=by rw[n top p (by lia)];show r
     let O:=Yv (g c.A k p) l;let M:=YG (g c.A k p) l;rw[Y_]at H;lia
   . show I.rd i (by lia)
 . change(g (bZ c.A k _ top) i q).natAbs<=_/\(g (bZ c.U k _ top) i q).natAbs<=_;rw[eJ I.tn.isA a m,eJ I.tn.fw a m];split
   . have z:=B (g c.A top q) (by rw[n top q (by lia)];show(t q).1);let y:=B (g c.U top q) (by rw[C top q (by lia)];show(t q).2);rw[n k q (Xl _),C k q (Xl _)];rw[YA,Nat.mul_two];show⟨Ao (Xu (f k q v).1 o) z,Ao (Xu (f k q v).2.1 o) y⟩
   . show I.sz i q (by lia)
 . change(g (bZ c.C top _ k) top q).natAbs<=_;rw[eJ I.tn.gX m a,Xr rfl,J k q (by lia),Zv];let z:=I.sC q
   let y:((g c.A k p).fdiv (g c.A top p)*g b.C k q).natAbs<=2^(u+u):=by
    rw[Ym,Y7];show X6 A (f k q v).2.2
   rw[aaf,Zx,<-Nat.add_assoc];show Ao z (by rw[YX];show y)
def tM.start{N w top p e u:Nat}{b:B3}(T:Tn a b.A b.U b.C N w)(h:∀q,(g b.C top q).natAbs<=2^e):tM a N w top p e u b 0 b:=
 ⟨T,λ_ _=>⟨rfl,rfl⟩,λ_ _=>rfl,λ_ _ h=>absurd h (XS _),λ_ h=>absurd h (XS _),λ_ _ h=>absurd h (XS _),λq=>by rw[abw];show h q⟩
def mG.next{N w top p e u e' u':Nat}{b0 b c:B3}{ld:Nat->Nat}(S:h_ v N w b0 top p ld e u)(s:mG v N w top p (2^e') b0 b)(t:top<N)(I:tM v N w top p e' u b top c)(n:N<=8)
 (C:u+e'+1<=u') (G:u+u+4<=u'):h_ v N w c (top+1) (p+1) (λi=>if i=top then p else ld i) e' u':=by
 let k:∀i q,i<top->g b.A i q=g b0.A i q:=λi q f=>by unfold g;rw[(s.up i f).1]
 let r:∀i q,top<=i->g c.A i q=g b.A i q:=λi q f=>by unfold g;rw[(I.rA i f).1]
 let A:∀i q,top<=i->g c.U i q=g b.U i q:=λi q f=>by unfold g;rw[(I.rA i f).2]
 let B:∀i q,i≠top->g c.C i q=g b.C i q:=λi q f=>by unfold g;rw[I.rC i f]
 let le:∀ {a x:Nat},a<=2^x->x<=u'->a<=2^u':=λh E=>Xu h (XD (by decide) E);show⟨I.tn,t,⟨λi q f n=>?_,λi q f n=>?_,λi q f n=>?_⟩,λi q f=>?_,λi q f n o=>?_,λi f=>?_,λi j m F=>?_,λi j m F=>?_⟩
 . rw[r i q (by lia)];show s.lo.1 i q (by lia) n
 . rw[A i q (by lia)];show s.lo.2.1 i q (by lia) n
 . rw[B i q (by lia)];show s.lo.2.2 i q (by lia) n
 . by_cases h:i=top
   . subst h;show⟨?_,?_,?_⟩
     . rw[r i q (Xl _)];show le (s.lo.1 i q (Xl _) t) (by lia)
     . rw[A i q (Xl _)];show le (s.lo.2.1 i q (Xl _) t) (by lia)
     . have P:=I.sC q;let O:i*2^(u+u)<=2^(u+u+3):=by rw[Y7 _ _ 3,YV];show ZF _ (by lia)
       let M:2^(u+u+3)*2<=2^u':=by rw[<-YA];show XD (by decide) G
       let L:2^e'*2<=2^u':=by rw[<-YA];show XD (by decide) (by lia)
       lia
   . have d:i<top:=by lia
     show⟨le (I.sz i q d).1 C,le (I.sz i q d).2 C,?_⟩;rw[B i q h];let:g b.C i q=g b0.C i q:=by unfold g;rw[(s.up i d).2.2]
     rw[this];show le (S.hi i q d).2.2 (by lia)
 . rw[r i q (by lia)];by_cases h:q=p
   . rw[h];show s.z1 i (by lia) n
   . show s.zs i q (by lia) n (by lia)
 . by_cases h:i=top
   . subst h;rw[Xr rfl];show⟨X_ p,?_,λq o=>?_⟩
     . rw[r i p (Xl _)];show s.tp
     . rw[r i q (Xl _)];show s.zs i q (Xl _) t o
   . have d:i<top:=by lia
     rw[Xn h];obtain⟨y,J,H⟩:=S.lead i d;show⟨X7 y,?_,λq o=>?_⟩
     . rw[I.ah i _ d y,k i _ d];show J
     . rw[I.ah i _ d (aap o y),k i _ d];show H q o
 . by_cases h:j=top
   . rw[Xr h,Xn (by lia)];show(S.lead i (by lia)).1
   . rw[Xn h,Xn (by lia)];show S.mono i j m (by lia)
 . by_cases h:j=top
   . subst h;rw[Xr rfl];show I.rd i m
   . have l:j<top:=by lia
     rw[Xn h];let:=S.red i j m l;let z:=(S.lead j l).1;rw[I.ah i _ (by lia) z,I.ah j _ l z,k i _ (by lia),k j _ l];show this
def Tn.start(e:dk N w A):Tn A A (units N) (units N) N w where
 isA:=e
 fw:=tR N
 gX:=tR N
 ua:=λi c a f=>by
  rw[<-pZ a λk=>g A k c];show aE λm b=>by rw[mB a b]
 ub:=λi j a d=>by
  rw[zD i j,<-pZ a λk=>dl j k]
  . show aE λm b=>by rw[mB a b,mB d b]
 bu:=λi j a d=>by
  rw[<-r8 a λk=>dl k j];show aE λm b=>by rw[mB b a,mB b d,Y_]
def h_.start{N w e:Nat}(f:dk N w A)(h:gI A N 0 (2^e)):h_ A N w ⟨A,units N,units N⟩ 0 0 (λ_=>0) e 0:=by
 let a:gI (units N) N 0 (2^e):=λi c _ b=>by
  by_cases d:c<N
  . rw[mB b d];unfold dl;split
    . show ZO
    . show XY _
  . unfold g;rw[kI (l:=(units N).getD i []) (by rw[dE (tR N) b];lia)];show XY _
 show⟨Tn.start f,XY _,⟨h,a,a⟩,λ_ _ h=>absurd h (XS _),λ_ _ _ _ h=>absurd h (XS _),λ_ h=>absurd h (XS _),λ_ _ _ h=>absurd h (XS _),λ_ _ _ h=>absurd h (XS _)⟩
def SU(f:Nat->Nat):Nat->Nat
 |0=>0
 |n+1=>SU f n+f n
def Od{f f':Nat->Nat}:∀ {n:Nat},(∀i,i<n->f' i<=f i)->SU f' n<=SU f n
 |0,_=>Xl _
 |n+1,h=>abQ (Od λi a=>h i (X7 a)) (h n (X_ n))
def NZ{f f':Nat->Nat}{k:Nat}(a:f' k<f k):∀ {n:Nat},k<n->(∀i,i<n->f' i<=f i)->SU f' n<SU f n
 |0,c,_=>absurd c (XS _)
 |n+1,c,h=>by
  by_cases e:k=n
  . subst e;show Nat.add_lt_add_of_le_of_lt (Od λi b=>h i (X7 b)) a
  . show Nat.add_lt_add_of_lt_of_le (NZ a (by lia) λi b=>h i (X7 b)) (h n (X_ n))
def mu(A:Rows)(N p:Nat):Nat:=SU (λi=>(g A i p).natAbs) N
inductive Si(N p:Nat):Nat->B3->Nat->B3->Prop
 |none {top:Nat} {b:B3} (h:mX b.A N top p []):Si N p top b top b
 |one {top r:Nat} {b c:B3} (h:iV N top p b c) (l:mX c.A N top p [r]):Si N p top b (top+1) (nK p top top (setB c p top r))
inductive rN(A:Rows)(N:Nat):Nat->Nat->B3->Prop
 |start:rN A N 0 0 ⟨A,units N,units N⟩
 |next {p t t':Nat} {b b':B3} (h:rN A N p t b) (c:Si N p t b t' b'):rN A N (p+1) t' b'
def Ez(N a:Nat):Nat->Nat
 |0=>a
 |t+1=>(N-t+1)*(Ez N a t+1)
def Vz(N a:Nat):Nat->Nat
 |0=>0
 |t+1=>Vz N a t+Vz N a t+Ez N a (t+1)+5
def gH(X:Rows)(n w:Nat)(v:Nat->Int):Prop:=∃z:Nat->Int,∀c,c<w->v c=S n λk=>z k*g X k c
def gH.row{n w k:Nat}(a:k<n):gH X n w (g X k):=⟨λi=>dl k i,λc _=>(pZ a λi=>g X i c).symm⟩
def gH.trans{v:Nat->Int}(h:∀k,k<m->gH Y n w (g X k))(l:gH X m w v):gH Y n w v:=by
 obtain⟨z,e⟩:=l
 let b:∀k,∃y:Nat->Int,k<m->∀c,c<w->g X k c=S n λi=>y i*g Y i c:=λk=>by
  by_cases a:k<m
  . obtain⟨y,f⟩:=h k a;show⟨y,λ_=>f⟩
  . show⟨λ_=>0,λh=>absurd h a⟩
 show⟨λi=>S m λk=>z k*Classical.choose (b k) i,λc d=>?_⟩;rw[e c d]
 let o:S m (λk=>z k*g X k c)=S m λk=>S n λi=>z k*Classical.choose (b k) i*g Y i c:=aE λk a=>by
  rw[Classical.choose_spec (b k) a c d,<-fD];show aE λi _=>(YW _ _ _).symm
 rw[o,oO];show aE λi _=>qb _ _ _
structure fb(X:Rows)(n w:Nat)(ld:Nat->Nat):Prop where
 lead:∀i,i<n->ld i<w/\0<g X i (ld i)/\∀c,c<ld i->g X i c=0
 mono:∀i j,i<j->j<n->ld i<ld j
def fb.inj{ld:Nat->Nat}(s:fb X n w ld){i j:Nat}(b:i<n)(a:j<n)(h:ld i=ld j):i=j:=by
 rcases abi i j with q|q|q
 . show absurd h (XU (s.mono i j q a))
 . show q
 . show absurd h.symm (XU (s.mono j i q b))
def fb.gone{ld:Nat->Nat}{v z:Nat->Int}(s:fb X n w ld)(m:∀c,c<w->v c=S n λk=>z k*g X k c)(r:∀c,c<q->v c=0)(k:Nat):k<n->ld k<q->z k=0:=by
 induction k using Nat.strongRecOn with
 |ind k h=>
  intro a d;obtain⟨p,o,t⟩:=s.lead k a;let e:=m (ld k) p;rw[r _ d,qD a λi b f=>?_]at e
  . show(Int.mul_eq_zero.mp e.symm).resolve_right (ZX o)
  . rcases aa7 f with l|l
    . rw[h i l b (aap (s.mono i k l a) d),Zl]
    . rw[(s.lead i b).2.2 _ (s.mono k i l b),Yl]
def zH(X:Rows)(n:Nat)(ld:Nat->Nat):Prop:=∀i j,i<j->j<n->0<=g X i (ld j)/\g X i (ld j)<g X j (ld j)
def iV.Ks{e:Rows}{N w top p m:Nat}{b0 b c:B3}(g:p<w)(h:iV N top p b c):∀ {d:Nat},se e N w top p m b0 b d->∃a,se e N w top p m b0 c a:=by
 induction h with
 |refl b=>show λG=>⟨_,G⟩
 |head s _ f=>
  intro d G;obtain⟨L,k,j,l,rfl⟩:=s;show f (G.step g l).1
def mG.mono{N w top p m e:Nat}{b0 b:B3}(s:mG f N w top p m b0 b)(h:m<=e):mG f N w top p e b0 b:=
 ⟨s.tn,s.up,⟨λi c d a=>Xu (s.lo.1 i c d a) h,λi c d a=>Xu (s.lo.2.1 i c d a) h,λi c d a=>Xu (s.lo.2.2 i c d a) h⟩,s.zs,s.tp,s.z1⟩
def mG.Xb{N w top p m:Nat}{b0 b:B3}(s:mG f N w top p m b0 b){i:Nat}(a:i<top)(q:Nat):g b.A i q=g b0.A i q/\g b.U i q=g b0.U i q/\g b.C i q=g b0.C i q:=by
 obtain⟨e,d,c⟩:=s.up i a;unfold g;rw[e,d,c];show⟨rfl,rfl,rfl⟩
def Iv{f:Nat->Int}:∀ {N:Nat},n<=N->(∀i,n<=i->i<N->f i=0)->S N f=S n f
 |0,h,_=>by rw[Nat.le_zero.mp h]
 |N+1,h,z=>by
  by_cases e:n=N+1
  . rw[e]
  . have a:n<=N:=by lia
    change S N f+f N=_;rw[z N a (X_ N),YD];show Iv a λi c b=>z i c (X7 b)
def h_.TQ{N w top e u:Nat}{c:B3}{ld:Nat->Nat}(s:h_ A N w c top w ld e u):fb c.A top w ld/\zH c.A top ld:=⟨⟨s.lead,s.mono⟩,s.red⟩
def h_.in{N w top e u:Nat}{c:B3}{ld:Nat->Nat}(s:h_ A N w c top w ld e u)(k:Nat)(b:k<top):gH A N w (g c.A k):=
 ⟨g c.U k,λq a=>s.tn.ua k q (XF b s.le) a⟩
def h_.out{N w top e u:Nat}{c:B3}{ld:Nat->Nat}(s:h_ A N w c top w ld e u)(k:Nat)(b:k<N):gH c.A top w (g A k):=by
 show⟨λi=>g c.C i k,λq a=>?_⟩
 let n:S N (λi=>g c.C i k*g c.A i q)=g A k q:=by
  let:S N (λi=>g c.C i k*g c.A i q)=S N λi=>S N λj=>g c.C i k*g c.U i j*g A j q:=aE λi f=>by
   rw[s.tn.ua i q f a,<-fD];show aE λj _=>(YW _ _ _).symm
  rw[this,oO]
  let m:S N (λj=>S N λi=>g c.C i k*g c.U i j*g A j q)=S N λj=>dl k j*g A j q:=aE λj d=>by
   rw[qb,s.tn.bu k j b d]
  rw[m,pZ b λj=>g A j q]
 rw[<-n];show Iv s.le λi l h=>by rw[s.zs i q l h a,Yl]
def fi{X:Rows}{n i q:Nat}(h:i<n):g (X.take n) i q=g X i q:=by
 unfold g;rw[Xw (l:=X.take n),Xw (l:=X),Y8 h]
def gH.Wm{u v:Nat->Int}(x:Int)(f:gH X n w u)(e:gH X n w v):gH X n w λc=>u c+x*v c:=by
 obtain⟨y,d⟩:=f;obtain⟨z,b⟩:=e;show⟨λk=>y k+x*z k,λc a=>?_⟩;change u c+x*v c=S n λk=>(y k+x*z k)*g X k c;rw[d c a,b c a,<-fD,<-jX];show aE λk _=>by rw[Int.add_mul,YW]
def gH.eq{u v:Nat->Int}(d:gH X n w u)(h:∀c,c<w->v c=u c):gH X n w v:=by
 obtain⟨y,b⟩:=d;show⟨y,λc a=>(h c a).trans (b c a)⟩
structure U9(X:Rows)(n:Nat)(Y:Rows)(m w:Nat):Prop where
 to:∀k,k<n->gH Y m w (g X k)
 of:∀k,k<m->gH X n w (g Y k)
def gH.zero{v:Nat->Int}(h:∀c,c<w->v c=0):gH X n w v:=
 ⟨λ_=>0,λc a=>by rw[h c a,lK λk _=>Zl _]⟩
def sD{X:Rows}{r:Row}{k:Nat}(b:k<=X.length)(i:Nat):(X.take k++r::X.drop k).getD i []=if i<k then X.getD i []else if i=k then r else X.getD (i-1) []:=by
 let lt:(X.take k).length=k:=by rw[Yx];lia
 rw[Xw,Xw,Xw];by_cases h:i<k
 . rw[Xr h,Xs (by rw[lt];show h),Y8 h]
 . rw[Xn h,Yg (by rw[lt];lia),lt];by_cases a:i=k
   . rw[Xr a,a,ZT];rfl
   . rw[Xn a];let:i-k=(i-1-k)+1:=by lia
     rw[this,YJ,List.getElem?_drop];congr 2;lia
structure qM(F:Rows)(w:Nat)(ld:Nat->Nat)(row:Nat->Int)(i:Nat)(o:Int)(L:Nat->Int):Prop where
 pos:0<o
 sum:gH F i w λc=>o*row c-L c
 off:∀k,k<i->L (ld k)=0
 least:∀(m:Int) (v:Nat->Int),gH F i w v->(∀k,k<i->m*row (ld k)=v (ld k))->o∣m
structure D5(F:Rows)(n w:Nat)(ld:Nat->Nat)(row:Nat->Int)(i:Nat)(L:Nat->Int):Prop where
 sum:gH F n w λc=>row c-L c
 red:∀k,k<i->0<=L (ld k)/\L (ld k)<g F k (ld k)
def D5.start{ld:Nat->Nat}{row:Nat->Int}:D5 F n w ld row 0 row:=⟨gH.zero λc _=>Int.sub_self _,λ_ h=>absurd h (XS _)⟩
def D5.step{n w i:Nat}{ld:Nat->Nat}{row L:Nat->Int}(s:fb F n w ld)(d:i<n)(f:D5 F n w ld row i L):D5 F n w ld row (i+1) λc=>L c-(L (ld i)).fdiv (g F i (ld i))*g F i c:=by
 obtain⟨p,l,m⟩:=s.lead i d;show⟨(f.sum.Wm ((L (ld i)).fdiv (g F i (ld i))) (gH.row d)).eq λc _=>by lia,λk o=>?_⟩;change 0<=L (ld k)-_*g F i (ld k)/\L (ld k)-_*g F i (ld k)<_;rcases ZC k i with h|h
 . rw[m _ (s.mono k i h d),Yl,Int.sub_zero];show f.red k h
 . have:k=i:=abE (abg o) h;subst this;let e:=Int.fmod_add_mul_fdiv (L (ld k)) (g F k (ld k));let a:=Yv (L (ld k)) l;let b:=YG (L (ld k)) l;rw[Y_]at e;lia
def CW{K m:Nat}:∀ {n:Nat} {M:Fn},n<=K->(∀r c,r<n->c<n->(M r c).natAbs<=m)->(D n M).natAbs<=(K*m)^n
 |0,_,_,_=>by simp[D]
 |n+1,M,d,h=>by
  rw[eF]
  let key:∀j,j<n+1->(sg j*M 0 j*D n λr c=>M (r+1) (sk j c)).natAbs<=m*(K*m)^n:=λj e=>by
   let a:=CW (K:=K) (m:=m) (n:=n) (M:=λr c=>M (r+1) (sk j c)) (by lia) λr c g f=>h (r+1) (sk j c) (by lia) (m_ f);let b:=h 0 j (by lia) e;let s:(sg j).natAbs=1:=by unfold sg;split<;>rfl
   rw[Ym,Ym,s,Zx];show X6 b a
  show Xu (HK key) ?_;rw[YA,YV ((K*m)^n),aad];show YK _ d
def pick{t N:Nat}{U B:Fn}(h:∀k l,k<t->l<t->S N (λi=>U k i*B i l)=dl k l):∃I:Nat->Nat,(∀k,k<t->I k<N)/\D t (λk l=>B (I k) l)≠0:=by
 apply Y6;intro no
 let q:∀s,s<=t->∀I:Nat->Nat,(∀k,k<t->s<=k->I k<N)->D t (λk l=>if k<s then dl k l else B (I k) l)=0:=by
  intro s;induction s with
  |zero=>
   intro _ I f;show Y6 λz=>no ⟨I,λk b=>f k b (XY _),z⟩
  |succ s m=>
   intro w I f
   let e:D t (λk l=>if k<s+1 then dl k l else B (I k) l)=D t (upd (λk l=>if k<s then dl k l else B (I k) l) s λl=>S N λj=>U s j*B j l):=d5 λk l b g=>by
    unfold upd;by_cases a:k=s
    . subst a;rw[Xr rfl,Xr (X_ _)];show(h k l b g).symm
    . rw[Xn a];change _=if k<s then dl k l else B (I k) l
      by_cases d:k<s
      . rw[Xr (by lia),Xr d]
      . rw[Xn (by lia),Xn d]
   rw[e,(vE t).yj (by lia)];show lK λj p=>?_
   let v:=m (by lia) (λk=>if k=s then j else I k) λk b n=>by
    by_cases a:k=s
    . rw[Xr a];show p
    . rw[Xn a];show f k b (by lia)
   let u:D t (upd (λk l=>if k<s then dl k l else B (I k) l) s (B j))=D t (λk l=>if k<s then dl k l else B (if k=s then j else I k) l):=d5 λk l b g=>by
    unfold upd;by_cases a:k=s
    . subst a;rw[Xr rfl,Xn (YL _),Xr rfl]
    . rw[Xn a,Xn a]
   rw[u,v,Yl]
 let z:=q t (Xl _) (λ_=>0) λk a d=>absurd a (Nat.not_lt.mpr d);rw[d5 (M':=dl) λr c o x=>Xr o,zR]at z;show absurd z (by decide)
def D6:∀ {n:Nat} {f:Nat->Int},(∀i,i<n->0<f i)->0<Pr n f
 |0,_,_=>show(0:Int)<1 by decide
 |n+1,f,h=>Int.mul_pos (D6 λi a=>h i (X7 a)) (h n (X_ n))
def NV:∀ {n:Nat} {f:Nat->Int},(∀i,i<n->0<f i)->∀k,k<n->f k<=Pr n f
 |n+1,f,h,k,hk=>by
  let p:=D6 λi b=>h i (X7 b);let q:=h n (X_ n);change f k<=Pr n f*f n;by_cases e:k=n
  . subst e;let:=Int.mul_le_mul_of_nonneg_right (show(1:Int)<=Pr k f from p) (ab2 q);lia
  . have a:=NV (λi b=>h i (X7 b)) k (by lia);let:=Zb (show(1:Int)<=f n from q) (ab2 p);lia
def yU{w x:Int}(a:w≠0)(h:(w*x).natAbs<=m):x.natAbs<=m:=by
 rw[Ym]at h;show Xu (abJ _ (by lia)) h
def IX{b i j:Nat}(h:1<=b)(l:i<=j):(9*b)^i<=(9*b)^j:=XD (by lia) l
def Na{A F U B:Fn}{N w t b:Nat}{ld:Nat->Nat}(H:t<=8)(P:1<=b)(G:∀i c,i<N->c<w->(A i c).natAbs<=b)(n:∀i c,i<N->c<w->A i c=S t λk=>B i k*F k c)(E:∀k l,k<t->l<t->S N (λi=>U k i*B i l)=dl k l)(lead:∀i,i<t->ld i<w/\0<F i (ld i)/\∀c,c<ld i->F i c=0)(mono:∀i j,i<j->j<t->ld i<ld j)(y:∀i j,i<j->j<t->0<=F i (ld j)/\F i (ld j)<F j (ld j)):
 Pr t (λi=>F i (ld i))<=((9*b)^8:Nat)/\∀k c,k<t->c<w->(F k c).natAbs<=8*((9*b)^9*(9*b)^8):=by
 obtain⟨I,s,J⟩:=pick E;let L:D t (λk l=>F k (ld l))=Pr t λi=>F i (ld i):=VU λr c g o h=>(lead r g).2.2 _ (mono c r h g);let pos:0<Pr t λi=>F i (ld i):=D6 λi x=>(lead i x).2.1
 let W:D t (λk l=>A (I k) (ld l))=D t (λk l=>B (I k) l)*D t λk l=>F k (ld l):=by
  rw[<-N5];show d5 λk l m e=>n _ _ (s k m) (lead l e).1
 let O:(D t (λk l=>A (I k) (ld l))).natAbs<=(9*b)^t:=CW (K:=9) (by lia) λr c g o=>G _ _ (s r g) (lead c o).1;rw[W,L]at O;let bP:(Pr t λi=>F i (ld i)).natAbs<=(9*b)^8:=Xu (yU J O) (IX P H);show⟨by lia,λk c m o=>?_⟩
 let Z:∀l,l<t->(F k (ld l)).natAbs<=(9*b)^8:=λl e=>by
  let p:=NV (f:=λi=>F i (ld i)) (λi x=>(lead i x).2.1) l e;rcases abi k l with h|h|h
  . have:=y k l h e;let Q:F l (ld l)<=Pr t λi=>F i (ld i):=p;lia
  . subst h;let q:=(lead k m).2.1;let Q:F k (ld k)<=Pr t λi=>F i (ld i):=p;lia
  . rw[(lead k m).2.2 _ (mono l k h m)];show XY _
 let M:=Uo (λl k=>F k (ld l)) t (λk=>F k c) k;rw[Sa m]at M;let V:D t (λl k=>F k (ld l))=Pr t λi=>F i (ld i):=by rw[<-L];show DV t λk l=>F k (ld l)
 rw[V]at M
 let bB:∀l,l<t->(D t (λk l=>B (I k) l)*bt (λl k=>F k (ld l)) t (λk=>F k c) l).natAbs<=(9*b)^9:=λl e=>by
  let T:D (t+1) (λi k=>if i=t then dl t k else if k=t then 0 else B (I i) k)=D t λk l=>B (I k) l:=by
   rw[C3 λc _=>Xr rfl];show d5 λr c g o=>by rw[Xn (by lia),Xn (by lia)]
  let R:D (t+1) (upd (λi r=>if r<t then A (I i) (ld r)else A (I i) c) t (dl l))=D t (λk l=>B (I k) l)*bt (λl k=>F k (ld l)) t (λk=>F k c) l:=by
   unfold bt;rw[<-T,<-N5];show d5 λi r x g=>?_;by_cases h:i=t
   . subst h;rw[cN];let:(S (i+1) λk=>(if i=i then dl i k else if k=i then 0 else B (I i) k)*upd (λa r=>if r<i then F a (ld r)else F a c) i (dl l) k r)=S (i+1) λk=>dl i k*upd (λa r=>if r<i then F a (ld r)else F a c) i (dl l) k r:=aE λk _=>by rw[Xr rfl]
     rw[this,pZ (X_ i),cN]
   . have v:i<t:=by lia
     rw[aD h];change _=(S t λk=>(if i=t then dl t k else if k=t then 0 else B (I i) k)*upd (λa r=>if r<t then F a (ld r)else F a c) t (dl l) k r)+(if i=t then dl t t else if t=t then 0 else B (I i) t)*upd (λa r=>if r<t then F a (ld r)else F a c) t (dl l) t r;let z:(if i=t then dl t t else if t=t then 0 else B (I i) t)*upd (λa r=>if r<t then F a (ld r)else F a c) t (dl l) t r=0:=by rw[Xn h,Xr rfl,Zl]
     rw[z,YD]
     let X:∀k,k<t->(if i=t then dl t k else if k=t then 0 else B (I i) k)*upd (λa r=>if r<t then F a (ld r)else F a c) t (dl l) k r=B (I i) k*(if r<t then F k (ld r)else F k c):=λk m=>by
      rw[Xn h,Xn (by lia),aD (by lia)]
     rw[aE X];by_cases d:r<t
     . rw[Xr d,n _ _ (s i v) (lead r d).1];show aE λk _=>by rw[Xr d]
     . rw[Xn d,n _ _ (s i v) o];show aE λk _=>by rw[Xn d]
  rw[<-R];show Xu (CW (K:=9) (by lia) λr q g hq=>?_) (IX P (show t+1<=9 by lia));by_cases h:r=t
  . subst h;rw[cN];unfold dl;split<;>lia
  . rw[aD h];let u:r<t:=by lia
    split
    . rename_i C;show G _ _ (s r u) (lead q C).1
    . show G _ _ (s r u) o
 let Y:D t (λk l=>B (I k) l)*(Pr t λi=>F i (ld i))*F k c= -S t λl=>(D t (λk l=>B (I k) l)*bt (λl k=>F k (ld l)) t (λk=>F k c) l)*F k (ld l):=by
  let:(S t λl=>(D t (λk l=>B (I k) l)*bt (λl k=>F k (ld l)) t (λk=>F k c) l)*F k (ld l))=D t (λk l=>B (I k) l)*S t λl=>bt (λl k=>F k (ld l)) t (λk=>F k c) l*F k (ld l):=by
   rw[<-fD];show aE λl _=>YW _ _ _
  rw[this,YW,<-Int.mul_neg];congr 1;lia
 show yU (w:=D t (λk l=>B (I k) l)*(Pr t λi=>F i (ld i))) (Za J (ZX pos)) ?_;rw[Y,YX];show Xu (HK λl e=>?_) (YK _ H);rw[Ym];show X6 (bB l e) (Z l e)
def h_.back{N w top e u:Nat}{c:B3}{ld:Nat->Nat}(H:h_ a N w c top w ld e u){i q:Nat}(d:i<N)(b:q<w):g a i q=S top λk=>g c.C k i*g c.A k q:=by
 let T:=H.tn
 let p:S N (λk=>g c.C k i*g c.A k q)=g a i q:=by
  let:S N (λk=>g c.C k i*g c.A k q)=S N λk=>S N λm=>g c.C k i*g c.U k m*g a m q:=aE λk o=>by
   rw[T.ua k q o b,<-fD];show aE λm _=>(YW _ _ _).symm
  rw[this,oO];let:(S N λm=>S N λk=>g c.C k i*g c.U k m*g a m q)=S N λm=>dl i m*g a m q:=aE λm l=>by rw[qb,T.bu i m d l]
  rw[this,pZ d]
 let cut:∀n,top<=n->n<=N->S n (λk=>g c.C k i*g c.A k q)=S top λk=>g c.C k i*g c.A k q:=λn=>by
  induction n with
  |zero=>intro h _;rw[Nat.le_zero.mp h]
  |succ n f=>
   intro h r;by_cases e:top=n+1
   . rw[e]
   . change S n _+g c.C n i*g c.A n q=_;rw[f (by lia) (by lia),H.zs n q (by lia) (by lia) b,Yl,YD]
 rw[<-p,cut N H.le (Xl _)]
def h_.small{N w top e u b:Nat}{c:B3}{ld:Nat->Nat}(H:h_ a N w c top w ld e u)(n:N<=8)(p:1<=b)(o:∀i c,i<N->c<w->(g a i c).natAbs<=b):
 Pr top (λi=>g c.A i (ld i))<=((9*b)^8:Nat)/\∀k q,k<top->q<w->(g c.A k q).natAbs<=8*((9*b)^9*(9*b)^8):=
 Na (A:=g a) (F:=g c.A) (U:=g c.U) (B:=λi k=>g c.C k i) (Xu H.le n) p o (λi q m d=>H.back m d) (λk l h f=>H.tn.ub k l (XF h H.le) (XF f H.le)) H.lead H.mono H.red
def c9(F:Rows)(i:Nat):Nat:=(F.getD i []).findIdx (λx=>x != 0)
def yP:∀ {r:Row} {l:Nat},(∀c,c<l->r.getD c 0=0)->r.getD l 0≠0->r.findIdx (λx=>x != 0)=l
 | [],l,_,h=>(h rfl).elim
 |x::r,0,_,h=>by
  let e:(x != 0)=true:=aaR.mpr h;rw[List.findIdx_cons,e];rfl
 |x::r,l+1,a,h=>by
  let b:(x != 0)=false:=bne_eq_false_iff_eq.mpr (a 0 (Nat.zero_lt_succ _));rw[List.findIdx_cons,b,yP (r:=r) (l:=l) (λc d=>a (c+1) (abx d)) h];rfl
def fb.c9{ld:Nat->Nat}(s:fb F n w ld){i:Nat}(a:i<n):Mx.c9 F i=ld i:=by
 obtain⟨_,c,b⟩:=s.lead i a;show yP b (ZX c)
def fb.VO{ld:Nat->Nat}(s:fb F n w ld):fb F n w (Mx.c9 F):=
 ⟨λi b=>by rw[s.c9 b];show s.lead i b,λi j h a=>by rw[s.c9 a,s.c9 (aap h a)];show s.mono i j h a⟩
def qA(F:Rows)(L:Row)(i:Nat):Int:=(L.getD (c9 F i) 0).fdiv (g F i (c9 F i))
def eS(F:Rows)(r:Row):Nat->Row
 |0=>r
 |i+1=>gm (eS F r i) (-(qA F (eS F r i) i)) (F.getD i [])
def p9(F:Rows)(r:Row)(n:Nat):Row:=(List.range n).map λi=>qA F (eS F r i) i
section
variable {F:Rows}{r:Row}{m w:Nat}(isF:dk m w F)(lr:r.length=w)
include isF lr
theorem pK:∀ {i:Nat},i<=m->(eS F r i).length=w
 |0,_=>lr
 |i+1,h=>by
  unfold eS;rw[nZ (by rw[pK (by lia),isF.row (by lia)])];show pK (by lia)
theorem C8{i:Nat}(a:i<m)(c:Nat):(eS F r (i+1)).getD c 0=(eS F r i).getD c 0-qA F (eS F r i) i*g F i c:=by
 conv=>lhs;unfold eS
 rw[sv (by rw[pK isF lr (by lia),isF.row a]),Zv];rfl
theorem FF:∀ {i:Nat},i<=m->∀c,r.getD c 0=(eS F r i).getD c 0+S i λj=>qA F (eS F r j) j*g F j c
 |0,_,c=>(YD _).symm
 |i+1,h,c=>by
  let e:=FF (i:=i) (by lia) c;rw[C8 isF lr (by lia)];change _=_+(S i _+qA F (eS F r i) i*g F i c);lia
theorem Ar(s:fb F m w (c9 F)):∀ {i:Nat},i<=m->D5 F m w (c9 F) (λc=>r.getD c 0) i (λc=>(eS F r i).getD c 0)
 |0,_=>D5.start
 |i+1,h=>by
  let:=(Ar s (i:=i) (by lia)).step s h
  let e:(λc=>(eS F r (i+1)).getD c 0)=λc=>(eS F r i).getD c 0-((eS F r i).getD (c9 F i) 0).fdiv (g F i (c9 F i))*g F i c:=by
   funext c;rw[C8 isF lr h];rfl
  rw[e];show this
theorem vT{f e:Nat}(s:fb F m w (c9 F))(n:∀k c,k<m->c<w->(g F k c).natAbs<=2^f)(l:∀c,c<w->(r.getD c 0).natAbs<=2^e):∀ {i:Nat},i<=m->∀c,c<w->((eS F r i).getD c 0).natAbs<=2^(e+i*(f+1))
 |0,_,c,a=>by rw[abw];show l c a
 |i+1,h,c,a=>by
  let d:=vT s n l (i:=i) (by lia);obtain⟨t,o,_⟩:=s.lead i h;let q:=Xu (jg ((eS F r i).getD (c9 F i) 0) o) (d _ t);rw[C8 isF lr h]
  let p:(qA F (eS F r i) i*g F i c).natAbs<=2^(e+i*(f+1))*2^f:=by
   rw[Ym];show X6 q (n i c h a)
  let b:=d c a
  let u:2^(e+(i+1)*(f+1))=2^(e+i*(f+1))*2^f*2:=by
   rw[show e+(i+1)*(f+1)=e+i*(f+1)+f+1 by rw[YU];lia,YA,Y7]
  let v:2^(e+i*(f+1))<=2^(e+i*(f+1))*2^f:=aav _ (ZQ (by decide));rw[u];lia
end
def LV{N w top e u:Nat}{c:B3}{ld:Nat->Nat}(H:h_ b N w c top w ld e u){r a:Row}(k:a.length=top)(m:∀q,q<w->r.getD q 0=S top λj=>a.getD j 0*g c.A j q)(d:q<w):(S N λn=>(fL a (c.U.take top) (List.replicate N 0)).getD n 0*g b n q)=r.getD q 0:=by
 let T:=H.tn;let f:(c.U.take top).length=top:=by rw[Yx,T.fw.len];show aak H.le
 let s:∀n,(fL a (c.U.take top) (List.replicate N 0)).getD n 0=S top λj=>a.getD j 0*g c.U j n:=λn=>by
  rw[xY (n:=N) n (by simp) (λr o=>T.fw.nq r (aab o)) (by rw[f,k]),d7,ZW,f];show aE λj h=>?_;unfold g;rw[aN (l:=c.U.take top) (by lia),List.getElem_take,aN (l:=c.U) (by let:=T.fw.len;let:=H.le;lia)]
 let p:(S N λn=>(fL a (c.U.take top) (List.replicate N 0)).getD n 0*g b n q)=S N λn=>S top λj=>a.getD j 0*(g c.U j n*g b n q):=aE λn _=>by
  rw[s,<-qb];show aE λj _=>YW _ _ _
 rw[p,oO,m q d];show aE λj h=>?_;rw[fD,<-T.ua j q (XF h H.le) d]
def SQ:Nat->(Nat->Rat)->Rat
 |0,_=>0
 |n+1,f=>SQ n f+f n
def tH{f h:Nat->Rat}(e:∀i,i<n->f i=h i):SQ n f=SQ n h:=by
 induction n with
 |zero=>rfl
 |succ n a=>unfold SQ;rw[a λi b=>e i (by lia),e n (by lia)]
def zy{f:Nat->Rat}(e:∀i,i<n->f i=0):SQ n f=0:=by
 induction n with
 |zero=>rfl
 |succ n a=>unfold SQ;rw[a λi b=>e i (by lia),e n (by lia)];grind
def Js(n:Nat)(f h:Nat->Rat):SQ n (λi=>f i+h i)=SQ n f+SQ n h:=by
 induction n with
 |zero=>unfold SQ;grind
 |succ n a=>unfold SQ;rw[a];grind
def QQ(n:Nat)(x:Rat)(f:Nat->Rat):SQ n (λi=>x*f i)=x*SQ n f:=by
 induction n with
 |zero=>unfold SQ;grind
 |succ n a=>unfold SQ;rw[a];grind
def Jb{n k:Nat}(d:k<n){f:Nat->Rat}(h:∀i,i<n->i≠k->f i=0):SQ n f=f k:=by
 induction n with
 |zero=>lia
 |succ n a=>
  unfold SQ;by_cases e:k=n
  . subst e;rw[zy λi c=>h i (by lia) (by lia)];grind
  . rw[a (by lia) λi c b=>h i (by lia) b,h n (by lia) (by lia)];grind
def Ri{n k:Nat}(d:k<n){f h:Nat->Rat}(e:∀i,i<n->i≠k->h i=f i):SQ n h=SQ n f+(h k-f k):=by
 induction n with
 |zero=>lia
 |succ n a=>
  unfold SQ;by_cases q:k=n
  . subst q;rw[tH (f:=h) (h:=f) λi c=>e i (by lia) (by lia)];grind
  . rw[a (by lia) λi c b=>e i (by lia) b,e n (by lia) (by lia)];grind
def Wh(x:Rat):Prop:=∃z:Int,x=(z:Rat)
def Wh.zero:Wh 0:=⟨0,rfl⟩
def Wh.add(h:Wh x)(k:Wh y):Wh (x+y):=by
 obtain⟨a,rfl⟩:=h;obtain⟨b,rfl⟩:=k;show⟨a+b,(abF a b).symm⟩
def Wh.mul(h:Wh x)(c:Int):Wh ((c:Rat)*x):=by
 obtain⟨a,rfl⟩:=h;show⟨c*a,(abG c a).symm⟩
def Wh.neg(h:Wh x):Wh (-x):=by
 obtain⟨a,rfl⟩:=h;show⟨-a,(Rat.intCast_neg a).symm⟩
def dq(a:List Rat)(w:Nat)(v:Nat->Int):Rat:=SQ w λc=>a.getD c 0*(v c:Rat)
def Ei(a:List Rat)(w n:Nat)(x:Nat->Int)(f:Nat->Nat->Int):dq a w (λc=>S n λk=>x k*f k c)=SQ n λk=>(x k:Rat)*dq a w (f k):=by
 induction n with
 |zero=>show zy λc _=>by change _*((0:Int):Rat)=0;grind
 |succ n b=>
  have:dq a w (λc=>S (n+1) λk=>x k*f k c)=dq a w (λc=>S n λk=>x k*f k c)+(x n:Rat)*dq a w (f n):=by
   unfold dq;rw[<-QQ,<-Js];show tH λc _=>?_;change _*(((S n λk=>x k*f k c)+x n*f n c:Int):Rat)=_;rw[abF,abG];grind
  rw[this,b];rfl
def Sf(a:List Rat)(w:Nat)(u v:Nat->Int):dq a w (λc=>u c+v c)=dq a w u+dq a w v:=by
 unfold dq;rw[<-Js];show tH λc _=>by rw[abF];grind
def xt{u v:Nat->Int}(h:∀c,c<w->u c=v c):dq a w u=dq a w v:=tH λc b=>by rw[h c b]
def Ho{f:Nat->Rat}(h:∀i,i<n->Wh (f i)):Wh (SQ n f):=by
 induction n with
 |zero=>show Wh.zero
 |succ n a=>show(a λi b=>h i (by lia)).add (h n (by lia))
def kl{a:List Rat}{k:Nat}(b:k<a.length)(c:Nat):(a.set k x).getD c 0=if c=k then x else a.getD c 0:=by
 rw[Xw,Xw];by_cases h:c=k
 . subst h;rw[Xx b,Xr rfl];rfl
 . rw[Xq (Xp h),Xn h]
def RB{a:List Rat}{w k:Nat}(e:a.length=w)(d:k<w)(v:Nat->Int):dq (a.set k x) w v=dq a w v+(x-a.getD k 0)*(v k:Rat):=by
 unfold dq;rw[Ri d (f:=λc=>a.getD c 0*(v c:Rat)) λc _ b=>by rw[kl (by lia),Xn b]];rw[kl (by lia),Xr rfl];grind
def KZ(F:Rows)(w l:Nat)(a:List Rat)(k:Nat):List Rat:=if c9 F k<l then a.set (c9 F k) ((0-dq a w (g F k))/(g F k (c9 F k):Rat))else a
def pf(F:Rows)(m w l:Nat)(a:List Rat):Nat->List Rat
 |0=>a
 |i+1=>KZ F w l (pf F m w l a i) (m-1-i)
def lI(w l:Nat)(b:Int):List Rat:=(List.replicate w 0).set l (Rat.divInt 1 b)
def Q1(w c:Nat):(List.replicate w (0:Rat)).getD c 0=0:=by
 rw[Xw,aat];split<;>rfl
structure qo(F:Rows)(m w l:Nat)(p:Rat)(i:Nat)(ps:List Rat):Prop where
 len:ps.length=w
 nil:∀c,c≠l->(∀k,m-i<=k->k<m->c9 F k≠c)->ps.getD c 0=0
 hi:∀c,l<c->ps.getD c 0=0
 at_:ps.getD l 0=p
 off:∀k,m-i<=k->k<m->c9 F k<l->dq ps w (g F k)=0
def qo.start(b:Int)(e:l<w):qo F m w l (Rat.divInt 1 b) 0 (lI w l b):=by
 let a:l<(List.replicate w (0:Rat)).length:=by simpa using e
 show⟨by unfold lI;simp,λc d _=>?_,λc d=>?_,?_,λk g f=>by lia⟩
 . unfold lI;rw[kl a,Xn d,Q1]
 . unfold lI;rw[kl a,Xn (by lia),Q1]
 . unfold lI;rw[kl a,Xr rfl]
def qo.step{m w l i:Nat}(s:fb F m w (c9 F))(C:i<m)(P:qo F m w l p i d):qo F m w l p (i+1) (KZ F w l d (m-1-i)):=by
 generalize B:m-1-i=k0;let f:k0<m:=by lia
 obtain⟨v,A,y⟩:=s.lead k0 f;unfold KZ;by_cases h:c9 F k0<l
 . rw[Xr h]
   let x:d.getD (c9 F k0) 0=0:=P.nil _ (by lia) λk q b e=>by
    let:=s.mono k0 k (by lia) b;lia
   let r:(g F k0 (c9 F k0):Rat)≠0:=λz=>by
    let:g F k0 (c9 F k0)=0:=aaX.mp z;lia
   let a:c9 F k0<d.length:=by rw[P.len];show v
   show⟨by rw[XA];show P.len,λc n o=>?_,λc n=>?_,?_,λk q b u=>?_⟩
   . rw[kl a,Xn (Xp (o k0 (by lia) f))];show P.nil c n λk q b=>o k (by lia) b
   . rw[kl a,Xn (by lia)];show P.hi c n
   . rw[kl a,Xn (by lia)];show P.at_
   . rw[RB P.len v,x];by_cases e:k=k0
     . subst e;let:(0-dq d w (g F k))/(g F k (c9 F k):Rat)*(g F k (c9 F k):Rat)=0-dq d w (g F k):=Rat.div_mul_cancel r;grind
     . have t:m-i<=k:=by lia
       rw[P.off k t b u,(s.lead k b).2.2 _ (s.mono k0 k (by lia) b)];change _+_*((0:Int):Rat)=0;grind
 . rw[Xn h];show⟨P.len,λc n o=>P.nil c n λk q b=>o k (by lia) b,P.hi,P.at_,λk q b u=>?_⟩;by_cases e:k=k0
   . subst e;lia
   . show P.off k (by lia) b u
def qo.all(b:Int)(s:fb F m w (c9 F))(a:l<w):∀ {i:Nat},i<=m->qo F m w l (Rat.divInt 1 b) i (pf F m w l (lI w l b) i)
 |0,_=>qo.start b a
 |i+1,h=>(qo.all b s a (i:=i) (by lia)).step s h
def Gq(F:Rows)(m l:Nat)(x b:Int):Prop:=(∃k,k<m/\c9 F k=l/\b=g F k l)\/((∀k,k<m->c9 F k≠l)/\b=2*(x.natAbs:Int))
def Gq.pos(s:fb F m w (c9 F))(h:Gq F m l x b)(c:x≠0):0<b:=by
 rcases h with⟨k,a,e,rfl⟩|⟨n,rfl⟩
 . have:=(s.lead k a).2.1;rw[e]at this;show this
 . lia
def Ex(a:b≠0)(x:Int):Rat.divInt 1 b*(x:Rat)=(x:Rat)/(b:Rat):=by
 rw[Rat.divInt_eq_div];grind
def QF{x b:Int}(k:0<x.natAbs)(f:(x.natAbs:Int)<b):¬Wh ((x:Rat)/(b:Rat)):=by
 rintro⟨z,e⟩
 let d:(b:Rat)≠0:=λq=>by
  let:b=0:=aaX.mp q;lia
 let c:(x:Rat)=(z:Rat)*(b:Rat):=by rw[<-e];show(Rat.div_mul_cancel d).symm
 rw[<-abG]at c;let a:x=z*b:=aaX.mp c;let g:z≠0:=λq=>by rw[q,Zl]at a;lia
 let:(z*b).natAbs=z.natAbs*b.natAbs:=Ym _ _;let h:1*b.natAbs<=z.natAbs*b.natAbs:=YK _ (by lia);rw[a]at f;lia
def qo.whole{R:Row}(s:fb F m w (c9 F))(u:l<w)(x:Gq F m l (R.getD l 0) b)(E:R.getD l 0≠0)(P:qo F m w l (Rat.divInt 1 b) m a){k:Nat}(d:k<m):Wh (dq a w (g F k)):=by
 obtain⟨A,r,p⟩:=s.lead k d;rcases abi (c9 F k) l with h|h|h
 . rw[P.off k (by lia) d h];show Wh.zero
 . have e:dq a w (g F k)=a.getD l 0*(g F k l:Rat):=Jb u λc v t=>by
    rcases aa7 t with q|q
    . rw[p c (by lia)];change _*((0:Int):Rat)=0;grind
    . rw[P.hi c q];grind
   let o:b=g F k l:=by
    rcases x with⟨B,f,z,rfl⟩|⟨n,_⟩
    . rw[s.inj d f (h.trans z.symm)]
    . show absurd h (n k d)
   rw[e,P.at_,o];let C:0<g F k l:=by rw[<-h];show r
   rw[Ex (by lia)]
   let:(g F k l:Rat)≠0:=λq=>by
    let:g F k l=0:=aaX.mp q;lia
   let y:(g F k l:Rat)/(g F k l:Rat)=1:=by rw[Rat.div_def];show Rat.mul_inv_cancel _ this
   rw[y];show⟨1,rfl⟩
 . have e:dq a w (g F k)=0:=zy λc v=>by
    rcases ZC l c with q|q
    . rw[P.hi c q];grind
    . rw[p c (by lia)];change _*((0:Int):Rat)=0;grind
   rw[e];show Wh.zero
def qo.not{R:Row}(s:fb F m w (c9 F))(p:l<w)(f:Gq F m l (R.getD l 0) b)(t:R.getD l 0≠0)(h:∀c,c<l->R.getD c 0=0)(d:∀k,k<m->0<=R.getD (c9 F k) 0/\R.getD (c9 F k) 0<g F k (c9 F k))(P:qo F m w l (Rat.divInt 1 b) m a):¬Wh (dq a w λc=>R.getD c 0):=by
 let v:=f.pos s t
 let e:dq a w (λc=>R.getD c 0)=a.getD l 0*((R.getD l 0:Int):Rat):=Jb p λc u o=>by
  rcases aa7 o with q|q
  . change _*((R.getD c 0:Int):Rat)=0;rw[h c q];change _*((0:Int):Rat)=0;grind
  . rw[P.hi c q];grind
 rw[e,P.at_,Ex (by lia)];show QF (by lia) ?_;rcases f with⟨k,r,e,rfl⟩|⟨n,rfl⟩
 . have:=d k r;rw[e]at this;lia
 . lia
def Qf(n:Nat)(f:Nat->Rat):SQ (n+1) f=f 0+SQ n λi=>f (i+1):=by
 induction n with
 |zero=>unfold SQ SQ;grind
 |succ n a=>
  have:SQ (n+1+1) f=SQ (n+1) f+f (n+1):=rfl;rw[this,a];let:SQ (n+1) (λi=>f (i+1))=SQ n (λi=>f (i+1))+f (n+1):=rfl;rw[this];grind
def nC:Rat->List Rat->Row->Rat
 |t,p::ps,n::r=>nC (t+p*(n:Rat)) ps r
 |t,_,_=>t
def K4:∀(a:List Rat) (r:Row) (t:Rat) {w:Nat},a.length=w->r.length=w->nC t a r=t+dq a w λc=>r.getD c 0
 | [],[],t,w,h,_=>by
   subst h;unfold nC;change t=t+0;grind
 | [],_::_,t,w,d,b=>by subst d;cases b
 |_::_,[],t,w,d,b=>by subst b;cases d
 |p::a,n::r,t,w,d,b=>by
  subst d;unfold nC;rw[K4 a r _ rfl (Nat.succ.inj b)];unfold dq;rw[XH,Qf]
  let e:(λi=>(p::a).getD (i+1) 0*(((n::r).getD (i+1) 0:Int):Rat))=λi=>a.getD i 0*((r.getD i 0:Int):Rat):=by
   funext i;simp
  rw[e];change _=t+(p*(n:Rat)+_);grind
structure Sz(q:Rat)(m:Nat):Prop where
 num:q.num.natAbs<=2^m
 den:q.den<=2^m
def Sz.mono(h:Sz q m)(l:m<=n):Sz q n:=⟨Xu h.num (XD (by decide) l),Xu h.den (XD (by decide) l)⟩
def Sz.int{n:Int}(h:n.natAbs<=2^m):Sz (n:Rat) m:=⟨h,ZQ (by decide)⟩
def Sz.of{t b:Int}(a:b≠0)(f:t.natAbs<=2^m)(c:b.natAbs<=2^m):Sz (Rat.divInt t b) m:=by
 let d:1<=b.gcd t:=by
  let:b.gcd t≠0:=λz=>a (Int.gcd_eq_zero_iff.mp z).1;lia
 constructor
 . rw[Rat.num_divInt];let:((b.sign*t)/((b.gcd t:Nat):Int)).natAbs<=(b.sign*t).natAbs:=abn _ _
   let e:(b.sign*t).natAbs<=t.natAbs:=by
    rw[Ym];let:b.sign.natAbs<=1:=by rw[Int.natAbs_sign];split<;>lia
    calc b.sign.natAbs*t.natAbs<=1*t.natAbs:=YK _ this
     _=t.natAbs:=Zx _
   lia
 . rw[Rat.den_divInt,Xn a];show Xu (Nat.div_le_self _ _) c
def jn{x y:Int}(d:x.natAbs<=2^a)(c:y.natAbs<=2^b):(x*y).natAbs<=2^(a+b):=by
 rw[Ym,Y7];show X6 d c
def den_nz(q:Rat):((q.den:Nat):Int)≠0:=by let:=q.den_nz;lia
def p_(q:Rat):q=Rat.divInt q.num ((q.den:Nat):Int):=(Rat.num_divInt_den q).symm
def add_eq(p q:Rat):p+q=Rat.divInt (p.num*((q.den:Nat):Int)+q.num*((p.den:Nat):Int)) (((p.den:Nat):Int)*((q.den:Nat):Int)):=by
 conv=>lhs;rw[p_ p,p_ q]
 rw[Rat.divInt_add_divInt _ _ (den_nz p) (den_nz q)]
def sub_eq(p q:Rat):p-q=Rat.divInt (p.num*((q.den:Nat):Int)-q.num*((p.den:Nat):Int)) (((p.den:Nat):Int)*((q.den:Nat):Int)):=by
 conv=>lhs;rw[p_ p,p_ q]
 rw[Rat.divInt_sub_divInt _ _ (den_nz p) (den_nz q)]
def mul_eq(p q:Rat):p*q=Rat.divInt (p.num*q.num) (((p.den:Nat):Int)*((q.den:Nat):Int)):=by
 conv=>lhs;rw[p_ p,p_ q]
 rw[abR]
def div_eq(p q:Rat):p/q=Rat.divInt (p.num*((q.den:Nat):Int)) (((p.den:Nat):Int)*q.num):=by
 rw[Rat.div_def,Rat.inv_def];conv=>lhs;rw[p_ p]
 rw[abR]
def Sz.uS{q:Rat}(h:Sz q m):(((q.den:Nat):Int)).natAbs<=2^m:=h.den
def Sz.add(d:Sz p a)(c:Sz q b):Sz (p+q) (a+b+1):=by
 rw[add_eq];let g:=jn d.num c.uS;let f:=jn c.num d.uS;let e:=jn d.uS c.uS;rw[Nat.add_comm b a]at f;show Sz.of (Za (den_nz p) (den_nz q)) (by rw[YA];lia) (Xu e (XD (by decide) (by lia)))
def Sz.neg(a:Sz q b):Sz (0-q) b:=by
 let e:(0:Rat)-q= -q:=by grind
 rw[e];show⟨by rw[show(-q).num= -q.num from rfl,YX];show a.num,a.den⟩
def Sz.mul(d:Sz p a)(c:Sz q b):Sz (p*q) (a+b):=by
 rw[mul_eq];show Sz.of (Za (den_nz p) (den_nz q)) (jn d.num c.num) (jn d.uS c.uS)
def Sz.div{p q:Rat}(d:Sz p a)(c:Sz q b)(e:q.num≠0):Sz (p/q) (a+b):=by
 rw[div_eq];show Sz.of (Za (den_nz p) e) (jn d.num c.uS) (jn d.uS c.num)
def Pb:List Rat->Nat->Prop
 | [],_=>True
 |q::qs,t=>∃a b,Sz q a/\Pb qs b/\a+b<=t
def Pb.mono:∀ {c:List Rat} {s t:Nat},Pb c s->s<=t->Pb c t
 | [],_,_,_,_=>trivial
 |_::_,_,_,⟨a,b,f,e,d⟩,l=>⟨a,b,f,e,Xu d l⟩
def Pb.set(e:Sz x a):∀ {d:List Rat} {t k:Nat},Pb d t->Pb (d.set k x) (t+a)
 | [],_,_,_=>trivial
 |q::qs,t,0,⟨g,b,f,c,h⟩=>⟨a,b,e,c,by lia⟩
 |q::qs,t,k+1,⟨g,b,f,c,h⟩=>⟨g,b+a,f,c.set e,by lia⟩
def Pb.rep:∀n:Nat,Pb (List.replicate n 0) 0
 |0=>trivial
 |n+1=>⟨0,0,⟨by decide,by decide⟩,Pb.rep n,Xl _⟩
def Pb.nC:∀ {d:List Rat} {r:Row} {s e t:Nat} {x:Rat},Sz x s->Pb d t->(∀n∈r,n.natAbs<=2^e)->Sz (nC x d r) (s+t+d.length*(e+1))
 | [],r,s,e,t,x,c,_,_=>by unfold Mx.nC;show c.mono (by lia)
 |_::_,[],s,e,t,x,c,_,_=>by unfold Mx.nC;show c.mono (by lia)
 |p::d,n::r,s,e,t,x,c,⟨a,b,m,l,o⟩,f=>by
  unfold Mx.nC;let h:=c.add (m.mul (Sz.int (f n XT)));show(Pb.nC h l λk g=>f k (XM _ g)).mono ?_;rw[XH,YU];lia
structure nH(A0:Rows)(N w:Nat)(b:B3)(top p:Nat)(ld:Nat->Nat)(e u v:Nat):Prop where
 tn:Tn A0 b.A b.U b.C N w
 le:top<=N
 lo:gI b.A N top (2^e)/\gI b.U N top (2^e)/\gI b.C N top (2^e)
 hi:∀i c,i<top->(g b.A i c).natAbs<=2^u/\(g b.U i c).natAbs<=2^u/\(g b.C i c).natAbs<=2^v
 zs:∀i c,top<=i->i<N->c<p->g b.A i c=0
 lead:∀i,i<top->ld i<p/\0<g b.A i (ld i)/\∀c,c<ld i->g b.A i c=0
 mono:∀i j,i<j->j<top->ld i<ld j
 red:∀i j,i<j->j<top->0<=g b.A i (ld j)/\g b.A i (ld j)<g b.A j (ld j)
def nH.Ks{N w top p e u v:Nat}{ld:Nat->Nat}(S:nH a N w b top p ld e u v):se a N w top p (2^e) b b 1:=
 ⟨S.tn,λ_ _=>⟨rfl,rfl,rfl⟩,by rw[Zw];show S.lo.1,by rw[Zw];show S.lo.2.1,by rw[Zw];show S.lo.2.2,S.zs,by rw[Zx];show Xl _,Xl _,.inl rfl⟩
def nH.skip{g:Rows}{N w top p e u v:Nat}{b:B3}{ld:Nat->Nat}(S:nH g N w b top p ld e u v)(h:mX b.A N top p []):nH g N w b top (p+1) ld e u v:=
 ⟨S.tn,S.le,S.lo,S.hi,λi c f d l=>by
  by_cases k:c=p
  . subst k;show Y6 λz=>absurd ((h.mem i).mpr ⟨f,d,z⟩) (by simp)
  . show S.zs i c f d (by lia),λi a=>⟨X7 (S.lead i a).1,(S.lead i a).2⟩,S.mono,S.red⟩
structure qJ(A0:Rows)(N w top p e u v:Nat)(b:B3)(k:Nat)(c:B3):Prop where
 tn:Tn A0 c.A c.U c.C N w
 rA:∀i,k<=i->c.A.getD i []=b.A.getD i []/\c.U.getD i []=b.U.getD i []
 rC:∀i,i≠top->c.C.getD i []=b.C.getD i []
 ah:∀i q,i<k->q<p->g c.A i q=g b.A i q
 rd:∀i,i<k->0<=g c.A i p/\g c.A i p<g c.A top p
 sz:∀i q,i<k->(g c.A i q).natAbs<=2^(u+e+1)/\(g c.U i q).natAbs<=2^(u+e+1)
 sC:∀q,(g c.C top q).natAbs<=2^e+k*2^(u+v)
def qJ.step{N w top p e u v k:Nat}{b c:B3}(I:qJ B N w top p e u v b k c)(t:k<top)(m:top<N)(M:p<w)(o:0<g b.A top p)(E:∀q,q<p->g b.A top q=0)
 (s:∀q,(g b.A top q).natAbs<=2^e/\(g b.U top q).natAbs<=2^e) (f:∀i q,i<top->(g b.A i q).natAbs<=2^u/\(g b.U i q).natAbs<=2^u/\(g b.C i q).natAbs<=2^v):
 qJ B N w top p e u v b (k+1) ⟨bZ c.A k ((g c.A k p).fdiv (g c.A top p)) top,bZ c.U k ((g c.A k p).fdiv (g c.A top p)) top,bZ c.C top (-((g c.A k p).fdiv (g c.A top p))) k⟩:=by
 let a:k<N:=by lia
 let n:∀i q,k<=i->g c.A i q=g b.A i q:=λi q d=>by unfold g;rw[(I.rA i d).1]
 let A:∀i q,k<=i->g c.U i q=g b.U i q:=λi q d=>by unfold g;rw[(I.rA i d).2]
 let H:∀i q,i≠top->g c.C i q=g b.C i q:=λi q d=>by unfold g;rw[I.rC i d]
 let y:((g c.A k p).fdiv (g c.A top p)).natAbs<=2^u:=by
  rw[n k p (Xl _),n top p (by lia)];show Xu (jg _ o) (f k p t).1
 let z:∀x:Int,x.natAbs<=2^e->((g c.A k p).fdiv (g c.A top p)*x).natAbs<=2^(u+e):=λx F=>by
  rw[Ym,Y7];show X6 y F
 let C:2^u<=2^(u+e):=XD (by decide) (by lia);show⟨I.tn.take a m (by lia),λi d=>?_,λi d=>?_,λi q d r=>?_,λi d=>?_,λi q d=>?_,λq=>?_⟩
 . show⟨(ij (by rw[I.tn.isA.len];show a) (by lia)).trans (I.rA i (by lia)).1,(ij (by rw[I.tn.fw.len];show a) (by lia)).trans (I.rA i (by lia)).2⟩
 . show(ij (by rw[I.tn.gX.len];show m) d).trans (I.rC i d)
 . change g (bZ c.A k _ top) i q=_;rw[eJ I.tn.isA a m];split
   . rename_i h;rw[n top q (by lia),E q r,Yl,n k q (Xl _),h];lia
   . show I.ah i q (by lia) r
 . change 0<=g (bZ c.A k _ top) i p/\g (bZ c.A k _ top) i p<g (bZ c.A k _ top) top p;rw[eJ I.tn.isA a m,eJ I.tn.isA a m,Xn (show¬top=k by lia)];split
   . have G:=aaL (g c.A k p) (g c.A top p);let l:0<g c.A top p:=by rw[n top p (by lia)];show o
     let P:=Yv (g c.A k p) l;let O:=YG (g c.A k p) l;rw[Y_]at G;lia
   . show I.rd i (by lia)
 . change(g (bZ c.A k _ top) i q).natAbs<=_/\(g (bZ c.U k _ top) i q).natAbs<=_;rw[eJ I.tn.isA a m,eJ I.tn.fw a m];split
   . have L:=z (g c.A top q) (by rw[n top q (by lia)];show(s q).1);let J:=z (g c.U top q) (by rw[A top q (by lia)];show(s q).2);rw[n k q (Xl _),A k q (Xl _)];let R:=(f k q t).1;let Q:=(f k q t).2.1;rw[YA];lia
   . show I.sz i q (by lia)
 . change(g (bZ c.C top _ k) top q).natAbs<=_;rw[eJ I.tn.gX m a,Xr rfl,H k q (by lia),Zv];let L:=I.sC q
   let J:((g c.A k p).fdiv (g c.A top p)*g b.C k q).natAbs<=2^(u+v):=by
    rw[Ym,Y7];show X6 y (f k q t).2.2
   rw[aaf,Zx];lia
def qJ.start{N w top p e u v:Nat}{b:B3}(T:Tn a b.A b.U b.C N w)(h:∀q,(g b.C top q).natAbs<=2^e):qJ a N w top p e u v b 0 b:=
 ⟨T,λ_ _=>⟨rfl,rfl⟩,λ_ _=>rfl,λ_ _ h=>absurd h (XS _),λ_ h=>absurd h (XS _),λ_ _ h=>absurd h (XS _),λq=>by rw[abw];show h q⟩
def mG.Iz{N w top p e u v e' u' v':Nat}{b0 b c:B3}{ld:Nat->Nat}(S:nH y N w b0 top p ld e u v)(s:mG y N w top p (2^e') b0 b)(t:top<N)(I:qJ y N w top p e' u v b top c)(n:N<=8)
 (E:u+e'+1<=u') (J:u+v+4<=v') (H:e'+1<=v'):nH y N w c (top+1) (p+1) (λi=>if i=top then p else ld i) e' u' v':=by
 let k:∀i q,i<top->g b.A i q=g b0.A i q:=λi q f=>by unfold g;rw[(s.up i f).1]
 let r:∀i q,top<=i->g c.A i q=g b.A i q:=λi q f=>by unfold g;rw[(I.rA i f).1]
 let B:∀i q,top<=i->g c.U i q=g b.U i q:=λi q f=>by unfold g;rw[(I.rA i f).2]
 let C:∀i q,i≠top->g c.C i q=g b.C i q:=λi q f=>by unfold g;rw[I.rC i f]
 let le:∀ {a x:Nat},a<=2^x->x<=u'->a<=2^u':=λh F=>Xu h (XD (by decide) F);show⟨I.tn,t,⟨λi q f n=>?_,λi q f n=>?_,λi q f n=>?_⟩,λi q f=>?_,λi q f n o=>?_,λi f=>?_,λi j m G=>?_,λi j m G=>?_⟩
 . rw[r i q (by lia)];show s.lo.1 i q (by lia) n
 . rw[B i q (by lia)];show s.lo.2.1 i q (by lia) n
 . rw[C i q (by lia)];show s.lo.2.2 i q (by lia) n
 . by_cases h:i=top
   . subst h;show⟨?_,?_,?_⟩
     . rw[r i q (Xl _)];show le (s.lo.1 i q (Xl _) t) (by lia)
     . rw[B i q (Xl _)];show le (s.lo.2.1 i q (Xl _) t) (by lia)
     . have R:=I.sC q;let Q:i*2^(u+v)<=2^(u+v+3):=by rw[Y7 _ _ 3,YV];show ZF _ (by lia)
       let P:2^(u+v+3)*2<=2^v':=by rw[<-YA];show XD (by decide) J
       let O:2^e'*2<=2^v':=by rw[<-YA];show XD (by decide) H
       lia
   . have d:i<top:=by lia
     show⟨le (I.sz i q d).1 E,le (I.sz i q d).2 E,?_⟩;rw[C i q h];let:g b.C i q=g b0.C i q:=by unfold g;rw[(s.up i d).2.2]
     rw[this];show Xu (S.hi i q d).2.2 (XD (by decide) (by lia))
 . rw[r i q (by lia)];by_cases h:q=p
   . rw[h];show s.z1 i (by lia) n
   . show s.zs i q (by lia) n (by lia)
 . by_cases h:i=top
   . subst h;rw[Xr rfl];show⟨X_ p,?_,λq o=>?_⟩
     . rw[r i p (Xl _)];show s.tp
     . rw[r i q (Xl _)];show s.zs i q (Xl _) t o
   . have d:i<top:=by lia
     rw[Xn h];obtain⟨z,M,L⟩:=S.lead i d;show⟨X7 z,?_,λq o=>?_⟩
     . rw[I.ah i _ d z,k i _ d];show M
     . rw[I.ah i _ d (aap o z),k i _ d];show L q o
 . by_cases h:j=top
   . rw[Xr h,Xn (by lia)];show(S.lead i (by lia)).1
   . rw[Xn h,Xn (by lia)];show S.mono i j m (by lia)
 . by_cases h:j=top
   . subst h;rw[Xr rfl];show I.rd i m
   . have l:j<top:=by lia
     rw[Xn h];let:=S.red i j m l;let A:=(S.lead j l).1;rw[I.ah i _ (by lia) A,I.ah j _ l A,k i _ (by lia),k j _ l];show this
def nH.start{N w e:Nat}(a:dk N w A)(h:gI A N 0 (2^e)):nH A N w ⟨A,units N,units N⟩ 0 0 (λ_=>0) e 0 0:=by
 let S:=h_.start a h;show⟨S.tn,S.le,S.lo,S.hi,S.zs,S.lead,S.mono,S.red⟩
def Uz(N a:Nat):Nat->Nat
 |0=>0
 |t+1=>Uz N a t+Ez N a (t+1)+1
def Cz(N a:Nat):Nat->Nat
 |0=>0
 |t+1=>Uz N a t+Cz N a t+Ez N a (t+1)+4
def nH.one{N w t p e u v r:Nat}{b c:B3}{ld:Nat->Nat}(S:nH f N w b t p ld e u v)(g:p<w)(h:iV N t p b c)(l:mX c.A N t p [r]):
 mG f N w t p (2^((N-t+1)*(e+1))) b (setB c p t r)/\t<N/\∀k,k<=t->qJ f N w t p ((N-t+1)*(e+1)) u v (setB c p t r) k (nK p t k (setB c p t r)):=by
 obtain⟨E,G⟩:=h.Ks g S.Ks;obtain⟨s,z,y⟩:=G.set l;let a:=s.mono (G.low S.lo.1);let d:t<N:=Nat.lt_of_le_of_lt z y;show⟨a,d,λk=>?_⟩;induction k with
 |zero=>show λ_=>qJ.start a.tn λq=>a.lo.2.2 t q (Xl _) d
 |succ k o=>
  intro m;show(o (YH m)).step m d g a.tp (λq x=>a.zs t q (Xl _) d x) (λq=>⟨a.lo.1 t q (Xl _) d,a.lo.2.1 t q (Xl _) d⟩) λi q n=>?_;obtain⟨C,B,A⟩:=a.Xb n q;rw[C,B,A];show S.hi i q n
def rN.Wx(o:dk N w A)(d:gI A N 0 (2^a))(n:N<=8)(h:rN A N p t b):p<=w->∃ld,nH A N w b t p ld (Ez N a t) (Uz N a t) (Cz N a t):=by
 induction h with
 |start=>show λ_=>⟨_,nH.start o d⟩
 |next _ c k=>
  intro e;obtain⟨ld,S⟩:=k (YH e);cases c with
  |none l=>show⟨ld,S.skip l⟩
  |one g l=>
   obtain⟨f,m,I⟩:=S.one e g l;show⟨_,mG.Iz (e':=Ez N a (_+1)) (u':=Uz N a (_+1)) (v':=Cz N a (_+1)) S f m (I _ (Xl _)) n (by change _<=Uz N a _+Ez N a (_+1)+1;lia) (by change _<=Uz N a _+Cz N a _+Ez N a (_+1)+4;lia) (by change _<=Uz N a _+Cz N a _+Ez N a (_+1)+4;lia)⟩
def Fu(a:Nat)(f:Nat->Int):∀b,S (a+b) f=S a f+S b λi=>f (a+i)
 |0=>(YD _).symm
 |b+1=>by
  change S (a+b) f+f (a+b)=S a f+(S b (λi=>f (a+i))+f (a+b));rw[Fu a f b,abZ]
def CU{X:Rows}{m i q:Nat}:g (X.drop m) i q=g X (m+i) q:=by
 let e:(X.drop m).getD i []=X.getD (m+i) []:=by rw[Xw,List.getElem?_drop,Xw]
 unfold g;rw[e]
def h_.kernel{N w top e u:Nat}{c:B3}{ld:Nat->Nat}(H:h_ A N w c top w ld e u){x:Nat->Int}:(∀q,q<w->(S N λn=>x n*g A n q)=0)↔gH (c.U.drop top) (N-top) N x:=by
 let le:=H.le;constructor
 . intro h
   letI y:Nat->Int:=λi=>S N λk=>x k*g c.C i k
   let l:∀j,j<N->x j=S N λi=>y i*g c.U i j:=λj f=>by
    let:(S N λi=>y i*g c.U i j)=S N λi=>S N λk=>x k*(g c.C i k*g c.U i j):=aE λi _=>by
     change(S N λk=>x k*g c.C i k)*g c.U i j=_;rw[<-qb];show aE λk _=>YW _ _ _
    rw[this,oO];let C:(S N λk=>S N λi=>x k*(g c.C i k*g c.U i j))=S N λk=>x k*dl k j:=aE λk s=>by rw[fD,H.tn.bu k j s f]
    rw[C];show(r8 f x).symm
   let z:∀i,i<top->y i=0:=λi a=>by
    show H.TQ.1.gone (v:=λ_=>0) (z:=y) (q:=w) (λq b=>?_) (λ_ _=>rfl) i a (H.lead i a).1
    let p:(S N λn=>x n*g A n q)=S N λi=>y i*g c.A i q:=by
     let E:(S N λn=>x n*g A n q)=S N λn=>S N λi=>y i*(g c.U i n*g A n q):=aE λn m=>by
      rw[l n m,<-qb];show aE λi _=>YW _ _ _
     rw[E,oO];show aE λi a=>by rw[fD,H.tn.ua i q a b]
    rw[h q b]at p;rw[p];show Iv le λi B t=>by rw[H.zs i q B t b,Yl]
   show⟨λi=>y (top+i),λj f=>?_⟩;let o:=Fu top (λi=>y i*g c.U i j) (N-top);rw[Nat.add_sub_cancel' le]at o;rw[l j f,o,lK λi a=>by rw[z i a,Zl],ZW];show aE λi _=>by rw[CU]
 . rintro⟨z,r⟩ q b
   let l:(S N λn=>x n*g A n q)=S N λn=>S (N-top) λi=>z i*(g c.U (top+i) n*g A n q):=aE λn m=>by
    rw[r n m,<-qb];show aE λi _=>by rw[CU,YW]
   rw[l,oO];show lK λi a=>?_;let d:top+i<N:=by lia
   rw[fD,<-H.tn.ua (top+i) q d b,H.zs (top+i) q (by lia) d b,Yl]
def rN.Wu(h:rN A N p t c):t=0->c=⟨A,units N,units N⟩:=by
 induction h with
 |start=>show λ_=>rfl
 |next _ c b=>
  intro a;cases c with
  |none l=>show b a
  |one g l=>cases a
def SV:∀N,N<9->∀t,t<N+1->Ez N 28 t<=50000000/\Vz N 28 t<=60000000:=by decide+kernel
def zi(N m:Nat):Nat:=if m=0 then 0 else Ez N 28 m
def NL:∀N,N<9->∀m,m<N+1->∀t,t<N-m+1->(Ez (N-m) (zi N m) t<=50000000/\Vz (N-m) (zi N m) t<=60000000)/\Vz N 28 m+8000+t*(Uz (N-m) (zi N m) t+1)<=130000000/\zi N m+t*(Uz (N-m) (zi N m) t+1)<=130000000:=by decide+kernel
end Mx
namespace Pl
structure SO{α:Type}(lt:α->α->Bool):Prop where
 sf:∀a,lt a a=false
 tr:∀a b c,lt a b=true->lt b c=true->lt a c=true
 Fw:∀a b,lt a b=false->lt b a=false->a=b
section
variable {α:Type}{lt:α->α->Bool}
def SO.DU(h:SO lt)(q:lt a b=true):lt b a=false:=by
 cases e:lt b a with
 |false=>rfl
 |true=>have:=h.tr _ _ _ q e;rw[h.sf]at this;cases this
def SO.le(h:SO lt)(p:lt b a=false)(q:lt c b=false):lt c a=false:=by
 cases e:lt c a with
 |false=>rfl
 |true=>
  cases d:lt b c with
  |true=>have:=h.tr _ _ _ d e;rw[p]at this;cases this
  |false=>have:=h.Fw _ _ q d;subst this;rw[p]at e;cases e
def SO.Uw(h:SO lt)(p:lt a b=true)(q:lt c b=false):lt c a=false:=h.le (h.DU p) q
end
def sA{α β:Type}[DecidableEq α](d:α->α->Bool)(c:β->β->Bool)(a b:α×β):Bool:=if a.1=b.1 then c a.2 b.2 else d a.1 b.1
def vI{α β:Type}[DecidableEq α]{k:α->α->Bool}{h:β->β->Bool}(g:SO k)(f:SO h):SO (sA k h) where
 sf:=λa=>by unfold sA;rw[Xr rfl];show f.sf _
 tr:=λa b c p q=>by
  unfold sA at*;by_cases d:a.1=b.1
  . by_cases e:b.1=c.1
    . rw[Xr d]at p;rw[Xr e]at q;rw[Xr (d.trans e)];show f.tr _ _ _ p q
    . rw[Xn e]at q;rw[Xn (by rw[d];show e),d];show q
  . rw[Xn d]at p;by_cases e:b.1=c.1
    . rw[Xn (by rw[<-e];show d),<-e];show p
    . rw[Xn e]at q;let r:=g.tr _ _ _ p q;rw[Xn (λz=>by rw[z,g.sf]at r;cases r)];show r
 Fw:=λa b p q=>by
  unfold sA at*;by_cases d:a.1=b.1
  . rw[Xr d]at p;rw[Xr d.symm]at q;show Prod.ext d (f.Fw _ _ p q)
  . rw[Xn d]at p;rw[Xn (Xp d)]at q;show absurd (g.Fw _ _ p q) d
def ltI(a b:Int):Bool:=decide (a<b)
def EF:SO ltI where
 sf:=λa=>XG (by lia)
 tr:=λa b c p q=>XQ (by let:=aaB p;let:=aaB q;lia)
 Fw:=λa b p q=>by let:=ZP p;let:=ZP q;lia
def h8:List Int->List Int->Bool
 | [],[]=>false
 | [],_::_=>true
 |_::_,[]=>false
 |x::xs,y::ys=>if x=y then h8 xs ys else decide (x<y)
def vG:∀a,h8 a a=false
 | []=>rfl
 |x::xs=>by unfold h8;rw[Xr rfl];show vG xs
def Kz:∀a b c,h8 a b=true->h8 b c=true->h8 a c=true
 | [],[],_,p,_=>by cases p
 | [],_::_,[],_,q=>by cases q
 | [],_::_,_::_,_,_=>rfl
 |_::_,[],_,p,_=>by cases p
 |_::_,_::_,[],_,q=>by cases q
 |x::xs,y::ys,z::zs,p,q=>by
  unfold h8 at*;by_cases e:x=y
  . by_cases d:y=z
    . rw[Xr e]at p;rw[Xr d]at q;rw[Xr (e.trans d)];show Kz _ _ _ p q
    . rw[Xn d]at q;rw[Xn (by rw[e];show d),e];show q
  . rw[Xn e]at p;let p:=aaB p;by_cases d:y=z
    . rw[Xn (by lia)];show XQ (by lia)
    . rw[Xn d]at q;let q:=aaB q;rw[Xn (by lia)];show XQ (by lia)
def Gu:∀a b,h8 a b=false->h8 b a=false->a=b
 | [],[],_,_=>rfl
 | [],_::_,p,_=>by cases p
 |_::_,[],_,q=>by cases q
 |x::xs,y::ys,p,q=>by
  unfold h8 at*;by_cases c:x=y
  . rw[Xr c]at p;rw[Xr c.symm]at q;rw[c,Gu _ _ p q]
  . rw[Xn c]at p;rw[Xn (Xp c)]at q;let:=ZP p;let:=ZP q
    lia
def sE:SO h8:=⟨vG,Kz,Gu⟩
abbrev Ky:=Int×List Int×Int×List Int
abbrev mK:Ky->Ky->Bool:=sA ltI (sA h8 (sA ltI h8))
def oz:SO mK:=vI EF (vI sE (vI EF sE))
def C0:∀(n:Nat) (x:List Int),h8 x (x.take n)=false
 |0,[]=>rfl
 |0,_::_=>rfl
 |_+1,[]=>rfl
 |n+1,x::xs=>by rw[List.take_succ_cons];unfold h8;rw[Xr rfl];show C0 n xs
section
variable {α:Type}[DecidableEq α]{lt:α->α->Bool}{d:α}
def gs{l:List α}{i j:Nat}:(l.set i x).getD j d=if i=j/\i<l.length then x else l.getD j d:=by
 rw[Xw,List.getElem?_set,Xw];by_cases h:i=j
 . subst h;by_cases a:i<l.length
   . simp[a]
   . simp[a]
 . simp[h]
def jt{l:List α}{i j:Nat}(h:i≠j):(l.set i x).getD j d=l.getD j d:=by rw[gs,Xn λz=>h z.1]
def vQ{l:List α}{i:Nat}(h:i<l.length):(l.set i x).getD i d=x:=by rw[gs,Xr ⟨rfl,h⟩]
def Heap(lt:α->α->Bool)(d:α)(h:List α):Prop:=∀i,0<i->i<h.length->lt (h.getD i d) (h.getD ((i-1)/2) d)=false
def Heap.least(a:SO lt){h:List α}(c:Heap lt d h):∀i,i<h.length->lt (h.getD i d) (h.getD 0 d)=false:=λi=>by
 induction i using Nat.strongRecOn with
 |ind i b=>
  intro e;by_cases f:i=0
  . subst f;show a.sf _
  . show a.le (b ((i-1)/2) (by lia) (by lia)) (c i (by lia) e)
def swap_perm{l:List α}(f:p<l.length)(c:q<l.length)(b:p≠q):((l.set p (l.getD q d)).set q x).Perm (l.set p x):=by
 show List.perm_iff_count.mpr λa=>?_;let g:q<(l.set p (l.getD q d)).length:=by rw[XA];show c
 rw[abS g,abS f,abS f];rw[List.getElem_set_ne b];let e:l[q]=l.getD q d:=by rw[Xw,Xv c];rfl
 rw[e]
 let h:(if l[p]==a then 1 else 0)<=List.count a l:=by
  split
  . rename_i z;let:l[p]=a:=by simpa using z
    rw[<-this];show List.count_pos_iff.mpr (Yy _)
  . lia
 generalize(if l[p]==a then 1 else 0)=u at*;generalize(if l.getD q d==a then 1 else 0)=v;generalize(if x==a then 1 else 0)=w;lia
structure Up(lt:α->α->Bool)(d:α)(L:List α)(p:Nat)(x:α):Prop where
 lp:p<L.length
 u:∀i,0<i->i<L.length->i≠p->lt ((L.set p x).getD i d) ((L.set p x).getD ((i-1)/2) d)=false
 v:0<p->∀i,0<i->i<L.length->(i-1)/2=p->lt ((L.set p x).getD i d) ((L.set p x).getD ((p-1)/2) d)=false
def Up.start{h:List α}(c:Heap lt d h):Up lt d (h++[x]) h.length x:=by
 let e:(h++[x]).set h.length x=h++[x]:=by simp
 let g:∀i,i<h.length->(h++[x]).getD i d=h.getD i d:=λi a=>by
  rw[Xw,Xs a,Xw]
 show⟨by simp,λi b a k=>?_,λf i b a l=>?_⟩
 . have a:i<h.length:=by simp at a;lia
   rw[e,g i a,g _ (by lia)];show c i b a
 . simp at a;lia
def Up.done{L:List α}(U:Up lt d L p x)(h:p=0\/lt x (L.getD ((p-1)/2) d)=false):Heap lt d (L.set p x):=λi b a=>by
 rw[XA]at a;by_cases e:i=p
 . subst e;rcases h with h|h
   . lia
   . rw[vQ a,jt (by lia)];show h
 . show U.u i b a e
def Up.step(k:SO lt){L:List α}(U:Up lt d L p x)(y:0<p)(h:lt x (L.getD ((p-1)/2) d)=true):Up lt d (L.set p (L.getD ((p-1)/2) d)) ((p-1)/2) x:=by
 let z:=U.lp;let A:(p-1)/2<p:=by lia
 generalize s:(p-1)/2=q at*;let r:q<(L.set p (L.getD q d)).length:=by rw[XA];lia
 let f:∀j,j≠p->j≠q->((L.set p (L.getD q d)).set q x).getD j d=(L.set p x).getD j d:=λj c E=>by rw[jt (Xp E),jt (Xp c),jt (Xp c)]
 let l:((L.set p (L.getD q d)).set q x).getD p d=L.getD q d:=by rw[jt (by lia),vQ z]
 let t:((L.set p (L.getD q d)).set q x).getD q d=x:=vQ r;let m:∀j,j≠p->(L.set p x).getD j d=L.getD j d:=λj c=>jt (Xp c);show⟨r,λi b a B=>?_,λw i b a C=>?_⟩
 . rw[XA]at a;by_cases e:i=p
   . subst e;rw[l,s,t];show k.DU h
   . rw[f i e B];let u:=U.u i b a e;by_cases o:(i-1)/2=q
     . rw[o,t];rw[o,m q (by lia)]at u;show k.Uw h u
     . by_cases n:(i-1)/2=p
       . rw[n,l];let v:=U.v y i b a n;rw[s,m q (by lia)]at v;show v
       . rw[f _ n o];show u
 . rw[XA]at a;let g:=U.u q w (by lia) (by lia);rw[f ((q-1)/2) (by lia) (by lia)];by_cases e:i=p
   . subst e;rw[l];rw[m q (by lia)]at g;show g
   . rw[f i e (by lia)];let u:=U.u i b a e;rw[C]at u;show k.le g u
structure Dn(lt:α->α->Bool)(d:α)(L:List α)(p:Nat)(x:α):Prop where
 lp:p<L.length
 u:∀i,0<i->i<L.length->i≠p->(i-1)/2≠p->lt ((L.set p x).getD i d) ((L.set p x).getD ((i-1)/2) d)=false
 v:0<p->∀i,0<i->i<L.length->(i-1)/2=p->lt ((L.set p x).getD i d) ((L.set p x).getD ((p-1)/2) d)=false
 w:0<p->lt x ((L.set p x).getD ((p-1)/2) d)=false
def Dn.start{h:List α}(c:Heap lt d h)(e:0<h.dropLast.length):Dn lt d h.dropLast 0 x:=by
 let g:∀i,i<h.dropLast.length->h.dropLast.getD i d=h.getD i d:=λi a=>by
  rw[Xw,List.getElem?_dropLast,Xr (by rw[Z0]at a;show a),Xw]
 show⟨e,λi b a f k=>?_,λz=>by lia,λz=>by lia⟩;rw[jt (by lia),jt (by lia),g i a,g _ (by lia)];show c i b (by rw[Z0]at a;lia)
def Dn.done(f:SO lt){L:List α}(U:Dn lt d L p x)(h:∀i,0<i->i<L.length->(i-1)/2=p->lt (L.getD i d) x=false):Heap lt d (L.set p x):=λi b a=>by
 rw[XA]at a;by_cases e:i=p
 . subst e;rw[vQ a];show U.w b
 . by_cases c:(i-1)/2=p
   . rw[c,vQ U.lp,jt (Xp e)];show h i b a c
   . show U.u i b a e c
def Dn.step(r:SO lt){L:List α}(U:Dn lt d L p x)(b0:0<b)(A:b<L.length)(n:(b-1)/2=p)(z:∀i,0<i->i<L.length->(i-1)/2=p->lt (L.getD i d) (L.getD b d)=false)(h:lt (L.getD b d) x=true):Dn lt d (L.set p (L.getD b d)) b x:=by
 let s:=U.lp;let w:p<b:=by lia
 let t:b<(L.set p (L.getD b d)).length:=by rw[XA];lia
 let g:∀j,j≠p->j≠b->((L.set p (L.getD b d)).set b x).getD j d=(L.set p x).getD j d:=λj o B=>by rw[jt (Xp B),jt (Xp o),jt (Xp o)]
 let f:((L.set p (L.getD b d)).set b x).getD p d=L.getD b d:=by rw[jt (by lia),vQ s]
 let q:(L.set p x).getD b d=L.getD b d:=jt (by lia);show⟨t,λi c a y l=>?_,λ_ i c a m=>?_,λ_=>?_⟩
 . rw[XA]at a;by_cases e:i=p
   . subst e;rw[f,g ((i-1)/2) (by lia) (by lia)];let v:=U.v c b b0 A n;rw[q]at v;show v
   . rw[g i e y];by_cases k:(i-1)/2=p
     . rw[k,f,jt (Xp e)];show z i c a k
     . rw[g _ k l];show U.u i c a e k
 . rw[XA]at a;rw[n,f,g i (by lia) (by lia)];let u:=U.u i c a (by lia) (by lia);rw[m,q]at u;show u
 . rw[n,f];show r.DU h
end
end Pl
namespace Pl
open Mx (bN gm g S Rows)
def ix:List Int->List Int->List Int->Int
 |a::ns,l::ls,h::hs=>min (a*l) (a*h)+ix ns ls hs
 |_,_,_=>0
def l_:List Int->List Int->List Int->Int
 |a::ns,l::ls,h::hs=>max (a*l) (a*h)+l_ ns ls hs
 |_,_,_=>0
def FV(a:List Int):bN a []=0:=by cases a<;>rfl
def uP:∀(p:Nat) (R x:List Int),bN R x=bN R (x.take p)+bN (R.drop p) (x.drop p)
 |0,R,x=>by simp[FV]
 |_+1,[],x=>by simp;rfl
 |_+1,_::_,[]=>by simp[FV]
 |p+1,a::R,y::x=>by
  let b:=uP p R x;change a*y+bN R x=(a*y+bN R (x.take p))+bN (R.drop p) (x.drop p);lia
def Bx:List Int->List Int->List Int->Prop
 |l::ls,h::hs,x::xs=>(l<=x/\x<=h)/\Bx ls hs xs
 | [],[],[]=>True
 |_,_,_=>False
def CK:∀ {l h x:List Int} (a:List Int),Bx l h x->a.length=x.length->ix a l h<=bN a x/\bN a x<=l_ a l h
 | [],[],[],[],_,_=>⟨aa2 _,aa2 _⟩
 |l::ls,h::hs,x::xs,a::as,⟨q,r⟩,e=>by
  let d:=CK as r (by simpa using e);change min (a*l) (a*h)+ix as ls hs<=a*x+bN as xs/\a*x+bN as xs<=max (a*l) (a*h)+l_ as ls hs
  let k:min (a*l) (a*h)<=a*x/\a*x<=max (a*l) (a*h):=by
   rcases Int.le_total 0 a with z|z
   . have c:=Zb q.1 z;let b:=Zb q.2 z;lia
   . have c:=aaY z q.1;let b:=aaY z q.2;lia
  lia
def yv:∀ {l h x:List Int},Bx l h x->l.length=x.length/\h.length=x.length
 | [],[],[],_=>⟨rfl,rfl⟩
 |_::_,_::_,_::_,⟨_,r⟩=>by let:=yv r;simp[this]
def zA:∀ {l h x:List Int} (p:Nat),Bx l h x->Bx (l.drop p) (h.drop p) (x.drop p)
 |_,_,_,0,r=>r
 | [],[],[],_+1,_=>trivial
 |_::_,_::_,_::_,p+1,⟨_,r⟩=>zA p r
 | [],_::_,[],_+1,r=>r.elim
 | [],_::_,_::_,_+1,r=>r.elim
 | [],[],_::_,_+1,r=>r.elim
 |_::_,[],[],_+1,r=>r.elim
 |_::_,[],_::_,_+1,r=>r.elim
 |_::_,_::_,[],_+1,r=>r.elim
def Hi:∀ {l h x:List Int},Bx l h x->∀c,c<x.length->l.getD c 0<=x.getD c 0/\x.getD c 0<=h.getD c 0
 | [],[],[],_,_,a=>by cases a
 |_::_,_::_,_::_,⟨q,_⟩,0,_=>q
 |_::_,_::_,_::_,⟨_,r⟩,c+1,a=>by simpa using Hi r c (by simpa using a)
def N_:∀ {l h x:List Int},l.length=x.length->h.length=x.length->(∀c,c<x.length->l.getD c 0<=x.getD c 0/\x.getD c 0<=h.getD c 0)->Bx l h x
 | [],[],[],_,_,_=>trivial
 | [],_::_,_,b,a,_=>absurd (b.trans a.symm) (by simp)
 |_::_,[],_,b,a,_=>absurd (b.trans a.symm) (by simp)
 |l::ls,h::hs,x::xs,b,a,k=>⟨by simpa using k 0 (by simp),N_ (by simpa using b) (by simpa using a) λc d=>by simpa using k (c+1) (by simpa using d)⟩
structure Tk where
 n:Nat
 m:Nat
 w:Nat
 c:List Int
 R:Rows
 d:List Int
 l:List Int
 h:List Int
 F:Rows
 ld:Nat->Nat
structure Tk.Ok(T:Tk):Prop where
 lc:T.c.length=T.n
 lR:Mx.dk T.w T.n T.R
 Jn:T.d.length=T.w
 ll:T.l.length=T.n
 lh:T.h.length=T.n
 lF:Mx.dk T.m T.n T.F
 st:Mx.fb T.F T.m T.n T.ld
section
variable {T:Tk}
def Tk.eU(T:Tk)(t:Nat):Nat:=if t<T.m then T.ld t else T.n
def Tk.cut(T:Tk)(t:Nat)(a:List Int):Int:=ix (a.drop (T.eU t)) (T.l.drop (T.eU t)) (T.h.drop (T.eU t))
def Tk.L9(T:Tk)(t:Nat)(a:List Int):Int:=l_ (a.drop (T.eU t)) (T.l.drop (T.eU t)) (T.h.drop (T.eU t))
def Tk.low(T:Tk)(t j:Nat):Int:=T.d.getD j 0-T.L9 t (T.R.getD j [])
def Tk.high(T:Tk)(t j:Nat):Int:=T.d.getD j 0-T.cut t (T.R.getD j [])
def Tk.cost(T:Tk)(t:Nat)(row:List Int):Int:=bN T.c (row.take (T.eU t))+T.cut t T.c
def Tk.key(T:Tk)(t:Nat)(row:List Int):Ky:=(T.cost t row,row.take (T.eU t),(t:Int),row)
structure Tk.Open(T:Tk)(t:Nat)(row:List Int):Prop where
 box:∀c,c<T.eU t->T.l.getD c 0<=row.getD c 0/\row.getD c 0<=T.h.getD c 0
 eqs:∀j,j<T.w->T.low t j<=bN (T.R.getD j []) (row.take (T.eU t))/\bN (T.R.getD j []) (row.take (T.eU t))<=T.high t j
structure Tk.jw(T:Tk)(x:List Int):Prop where
 box:Bx T.l T.h x
 eqs:∀j,j<T.w->bN (T.R.getD j []) x=T.d.getD j 0
def Tk.lZ(T:Tk)(t:Nat)(row x:List Int):Prop:=x.length=T.n/\∃z:Nat->Int,∀c,c<T.n->x.getD c 0=row.getD c 0+S (T.m-t) λk=>z k*g T.F (t+k) c
def Tk.Ok.yM(o:T.Ok)(t:Nat):T.eU t<=T.n:=by
 unfold Tk.eU;split
 . rename_i h;show YH (o.st.lead t h).1
 . show Xl _
def Tk.lZ.same(o:T.Ok){row x:List Int}(u:T.lZ t row x)(f:t<=T.m):∀c,c<T.eU t->x.getD c 0=row.getD c 0:=λc d=>by
 obtain⟨_,z,b⟩:=u;rw[b c (XF d (o.yM t)),Mx.lK (λk g=>?_),YD];let a:t+k<T.m:=by lia
 let l:T.eU t=T.ld t:=Xr (by lia)
 let h:T.ld t<=T.ld (t+k):=by
  by_cases e:k=0
  . subst e;show Xl _
  . show YH (o.st.mono t (t+k) (by lia) a)
 rw[(o.st.lead (t+k) a).2.2 c (by lia),Yl]
def Tk.lZ.take(o:T.Ok){row x:List Int}(u:T.lZ t row x)(c:t<=T.m)(b:row.length=T.n):x.take (T.eU t)=row.take (T.eU t):=by
 let d:=o.yM t;show Mx.zM (n:=T.eU t) (by rw[Yx,u.1];lia) (by rw[Yx,b];lia) λj a=>?_;let e:=u.same o c j a;rw[Xw,Y8 a,Xw (l:=row.take _),Y8 a,<-Xw,<-Xw];show e
def Tk.lZ.Vu(o:T.Ok){row x:List Int}(u:T.lZ t row x)(b:t<=T.m)(f:row.length=T.n)(s:T.jw x):T.Open t row:=by
 let a:=u.1;show⟨λc e=>?_,λj d=>?_⟩
 . rw[<-u.same o b c e];show Hi s.box c (by rw[a];show XF e (o.yM t))
 . rw[<-u.take o b f];let g:(T.R.getD j []).length=T.n:=o.lR.row d;let k:=CK ((T.R.getD j []).drop (T.eU t)) (zA (T.eU t) s.box) (by rw[YC,YC,g,a]);let h:=uP (T.eU t) (T.R.getD j []) x;rw[s.eqs j d]at h;unfold Tk.low Tk.high Tk.cut Tk.L9;lia
def Tk.lZ.V8(o:T.Ok){row x:List Int}(u:T.lZ t row x)(b:t<=T.m)(a:row.length=T.n)(s:T.jw x):T.cost t row<=bN T.c x:=by
 let d:=CK (T.c.drop (T.eU t)) (zA (T.eU t) s.box) (by rw[YC,YC,o.lc,u.1]);let c:=uP (T.eU t) T.c x;unfold Tk.cost Tk.cut;rw[<-u.take o b a];lia
def Tk.jm(T:Tk)(t:Nat)(row:List Int):Int:= -((row.getD (T.ld t) 0-T.l.getD (T.ld t) 0).fdiv (g T.F t (T.ld t)))
def Tk.lst(T:Tk)(t:Nat)(row:List Int):Int:=(T.h.getD (T.ld t) 0-row.getD (T.ld t) 0).fdiv (g T.F t (T.ld t))
def Tk.lZ.next(o:T.Ok){row x:List Int}(u:T.lZ t row x)(e:t<T.m)(l:row.length=T.n)(s:T.jw x):∃z:Int,T.jm t row<=z/\z<=T.lst t row/\T.lZ (t+1) (gm row z (T.F.getD t [])) x:=by
 obtain⟨h,z,p⟩:=u;obtain⟨n,d,v⟩:=o.st.lead t e;let m:=o.lF.row e
 let a:∀c,c<T.n->x.getD c 0=(row.getD c 0+z 0*g T.F t c)+S (T.m-(t+1)) λk=>z (k+1)*g T.F (t+1+k) c:=λc b=>by
  rw[p c b,show T.m-t=(T.m-(t+1))+1 by lia,Mx.yX,abZ];congr 2;show Mx.aE λk _=>by rw[show t+(k+1)=t+1+k by lia]
 let q:x.getD (T.ld t) 0=row.getD (T.ld t) 0+z 0*g T.F t (T.ld t):=by
  rw[a _ n,Mx.lK (λk w=>?_),YD];let f:t+1+k<T.m:=by lia
  rw[(o.st.lead (t+1+k) f).2.2 _ (o.st.mono t (t+1+k) (by lia) f),Yl]
 let r:=Hi s.box (T.ld t) (by lia);rw[q]at r;show⟨z 0,?_,?_,h,λk=>z (k+1),λc b=>?_⟩
 . unfold Tk.jm
   let: -(z 0)<=(row.getD (T.ld t) 0-T.l.getD (T.ld t) 0).fdiv (g T.F t (T.ld t)):=by
    rw[Yh _ (by lia)];show(aaD d).mpr ?_;rw[Zv];lia
   lia
 . unfold Tk.lst;rw[Yh _ (by lia)];show(aaD d).mpr (by lia)
 . rw[Mx.sv (by rw[m];show l)];show a c b
def Tk.Open.sol(o:T.Ok){row:List Int}(h:T.Open T.m row)(d:row.length=T.n):T.jw row:=by
 let f:T.eU T.m=T.n:=Xn (by lia);show⟨N_ (by rw[o.ll,d]) (by rw[o.lh,d]) λc k=>h.box c (by rw[f,<-d];show k),λj g=>?_⟩;let e:=h.eqs j g;let n:(T.R.getD j []).length=T.n:=o.lR.row g;unfold Tk.low Tk.high Tk.cut Tk.L9 at e;rw[f,Yu (by lia),Y2 (by lia)]at e;let m:∀a b,ix [] a b=0:=λa b=>by unfold ix;rfl
 let l:∀a b,l_ [] a b=0:=λa b=>by unfold l_;rfl
 rw[m,l]at e;lia
abbrev ltB:Int×List Int->Int×List Int->Bool:=sA ltI h8
def vM:SO ltB:=vI EF sE
structure Tk.Wt(T:Tk)(A:List Int->Prop)(H:List Ky):Prop where
 good:∀k∈H,∃t row,t<=T.m/\k=T.key t row/\row.length=T.n/\T.Open t row
 Xa:∀x,T.jw x->A x->∃t row,T.key t row∈H/\t<=T.m/\row.length=T.n/\T.lZ t row x
def Sk(h:mK a b=false):a.1>=b.1/\(a.1=b.1->h8 a.2.1 b.2.1=false):=by
 unfold mK sA at h;by_cases e:a.1=b.1
 . rw[Xr e]at h;show⟨by lia,λ_=>?_⟩;by_cases c:a.2.1=b.2.1
   . rw[c];show vG _
   . rw[Xn c]at h;show h
 . rw[Xn e]at h;let:=ZP h;show⟨by lia,λz=>absurd z e⟩
def Tk.Wt.best(o:T.Ok)(h:T.Wt A H){row:List Int}(n:∀k∈H,mK k (T.key T.m row)=false)(y:row.length=T.n):∀x,T.jw x->A x->ltB (bN T.c x,x) (bN T.c row,row)=false:=λx s a=>by
 obtain⟨t,r,p,g,l,u⟩:=h.Xa x s a;obtain⟨f,c⟩:=Sk (n _ p);let m:T.eU T.m=T.n:=Xn (by lia)
 let w:T.cost T.m row=bN T.c row:=by
  let q:∀a b,ix [] a b=0:=λa b=>by unfold ix;rfl
  unfold Tk.cost Tk.cut;rw[m,Yu (by lia),Y2 (by rw[o.lc];lia),q,YD]
 let v:row.take (T.eU T.m)=row:=Yu (by lia);let d:=u.V8 o g l s;let tk:=u.take o g l;unfold Tk.key at f c;dsimp only at f c;rw[w]at f c;rw[v,<-tk]at c;unfold ltB sA;dsimp only;by_cases e:bN T.c x=bN T.c row
 . rw[Xr e];show sE.le (c (by lia)) (C0 _ x)
 . rw[Xn e];show XG (by lia)
end
end Pl
namespace Pl
def exts(F:List (List Int))(a:Int)(n:Nat):List (List Int):=F.flatMap λr=>(List.range n).map λ(i:Nat)=>r++[a+(i:Int)]
def oY:List Int->List Int->List (List Int)->List (List Int)
 |l::ls,h::hs,F=>oY ls hs (exts F l (h+1-l).toNat)
 |_,_,F=>F
def sQ:x∈exts F a n↔∃r∈F,∃i,i<n/\x=r++[a+(i:Int)]:=by
 unfold exts;rw[List.mem_flatMap];constructor
 . rintro⟨r,b,h⟩;obtain⟨i,c,rfl⟩:=X5.mp h;show⟨r,b,i,YM.mp c,rfl⟩
 . rintro⟨r,b,i,c,rfl⟩;show⟨r,b,X5.mpr ⟨i,YM.mpr c,rfl⟩⟩
def FH:∀(b c:List Int) (F:List (List Int)) (x:List Int),b.length=c.length->(x∈oY b c F↔∃r∈F,∃y,Bx b c y/\x=r++y)
 | [],[],F,x,_=>by
   change x∈F↔_;constructor
   . show λh=>⟨x,h,[],trivial,by simp⟩
   . rintro⟨r,d,y,a,rfl⟩;cases y with
     |nil=>simpa using d
     |cons=>show a.elim
 | [],_::_,_,_,e=>by simp at e
 |_::_,[],_,_,e=>by simp at e
 |l::b,h::c,F,x,e=>by
  change x∈oY b c (exts F l (h+1-l).toNat)↔_;rw[FH b c _ x (by simpa using e)];constructor
  . rintro⟨r,d,y,a,rfl⟩;obtain⟨g,f,i,k,rfl⟩:=sQ.mp d;show⟨g,f,(l+(i:Int))::y,⟨by lia,a⟩,by simp⟩
  . rintro⟨r,d,y,a,rfl⟩;cases y with
    |nil=>show a.elim
    |cons z y=>
     obtain⟨⟨n,m⟩,a⟩:=a;show⟨r++[l+(((z-l).toNat:Nat):Int)],sQ.mpr ⟨r,d,(z-l).toNat,by lia,rfl⟩,y,a,by rw[show l+(((z-l).toNat:Nat):Int)=z by lia];simp⟩
def FI:∀ {a b:List Int} (s t:List Int),a.length=b.length->h8 a b=true->h8 (a++s) (b++t)=true
 | [],[],_,_,_,h=>by cases h
 | [],_::_,_,_,e,_=>by simp at e
 |_::_,[],_,_,e,_=>by simp at e
 |x::a,y::b,s,t,e,h=>by
  change(if x=y then h8 (a++s) (b++t)else decide (x<y))=true;let h:(if x=y then h8 a b else decide (x<y))=true:=h;by_cases z:x=y
  . rw[Xr z]at h⊢;show FI s t (by simpa using e) h
  . rw[Xn z]at h⊢;show h
def CS:∀(a:List Int) {x y:Int},x<y->h8 (a++[x]) (a++[y])=true
 | [],x,y,h=>by
   change(if x=y then h8 [] []else decide (x<y))=true;rw[Xn (by lia)];show XQ h
 |z::a,x,y,h=>by
  change(if z=z then h8 (a++[x]) (a++[y])else decide (z<z))=true;rw[Xr rfl];show CS a h
structure CA(F:List (List Int))(p:Nat):Prop where
 len:∀r∈F,r.length=p
 up:F.Pairwise λa b=>h8 a b=true
def CA.exts(h:CA F p):CA (exts F a n) (p+1) where
 len:=λx c=>by
  obtain⟨r,b,i,_,rfl⟩:=sQ.mp c;simp[h.len r b]
 up:=by
  unfold Pl.exts;show List.pairwise_flatMap.mpr ⟨λr b=>?_,?_⟩
  . show aaA.mpr (abK.imp λ{i j} g=>?_);show CS r (by lia)
  . show List.Pairwise.imp_of_mem (λ{r s} b f d x c y e=>?_) h.up;obtain⟨i,_,rfl⟩:=X5.mp c;obtain⟨j,_,rfl⟩:=X5.mp e;show FI _ _ (by rw[h.len r b,h.len s f]) d
def CB:∀(a b:List Int) (F:List (List Int)) (p:Nat),CA F p->∃q,CA (oY a b F) q
 |l::a,h::b,F,p,r=>CB a b _ (p+1) r.exts
 | [],[],_,p,r=>⟨p,r⟩
 | [],_::_,_,p,r=>⟨p,r⟩
 |_::_,[],_,p,r=>⟨p,r⟩
def CM{F:List (List Int)}:(exts F a n).length=F.length*n:=by
 unfold exts;induction F with
 |nil=>simp
 |cons r F b=>rw[List.flatMap_cons,Yn,b,Xk,ZS,XH,YU];lia
def iS(P:List (List Int))(ok:List Int->Prop)(c:List Int):Option (Int×List Int)->Prop
 |none=>∀x∈P,¬ok x
 |some (k,x)=>x∈P/\ok x/\k=Mx.bN c x/\∀y∈P,ok y->ltB (Mx.bN c y,y) (k,x)=false
def iS.skip(h:iS P ok c v)(d:¬ok x):iS (P++[x]) ok c v:=by
 cases v with
 |none=>
  intro y a;rcases XZ.mp a with z|z
  . show h y z
  . rw[XW.mp z];show d
 |some v=>
  obtain⟨k,g,f,e⟩:=h;show⟨YB _ k,g,f,λy a b=>?_⟩;rcases XZ.mp a with z|z
  . show e y z b
  . rw[XW.mp z]at b;show absurd b d
def iS.first(h:iS P ok c none)(b:ok x):iS (P++[x]) ok c (some (Mx.bN c x,x)):=by
 show⟨XI _ (XW.mpr rfl),b,rfl,λy a d=>?_⟩;rcases XZ.mp a with z|z
 . show absurd d (h y z)
 . rw[XW.mp z];show vM.sf _
def iS.less{k:Int}(h:iS P ok c (some (k,y)))(d:ok x)(g:Mx.bN c x<k):iS (P++[x]) ok c (some (Mx.bN c x,x)):=by
 obtain⟨n,m,l,f⟩:=h;show⟨XI _ (XW.mpr rfl),d,rfl,λz a e=>?_⟩;rcases XZ.mp a with w|w
 . show vM.le (b:=(k,y)) ?_ (f z w e);unfold ltB sA;dsimp only;rw[Xn (by lia)];show XG (by lia)
 . rw[XW.mp w];show vM.sf _
def iS.keep{k:Int}(h:iS P ok c (some (k,y)))(b:∀z∈P,h8 z x=true)(n:¬Mx.bN c x<k):iS (P++[x]) ok c (some (k,y)):=by
 obtain⟨a,m,l,g⟩:=h;show⟨YB _ a,m,l,λz d f=>?_⟩;rcases XZ.mp d with w|w
 . show g z w f
 . rw[XW.mp w];unfold ltB sA;dsimp only;by_cases e:Mx.bN c x=k
   . rw[Xr e];show sE.DU (b y a)
   . rw[Xn e];show XG (by lia)
end Pl
namespace Prog
open PySem L2 L3
open PySem.Spec hiding items?
open PyProof.Rows hiding St
def dZ{i j:Int}(b: -(2^64)<i)(a:i<2^64):IntMulOk i j:= .of_left (intBits_le_64 b a)
def Gv{i j:Int}(b: -(2^64)<j)(a:j<2^64):IntMulOk i j:= .of_right (intBits_le_64 b a)
def isInt:D->Bool
 | .int _=>true
 |_=>false
abbrev ao(r:List Int):List D:=r.map D.int
abbrev aw(r:List Int):D:= .tup (ao r)
abbrev bS(r:List Int):D:= .lst (ao r)
abbrev dP(A:List (List Int)):D:= .tup (A.map aw)
abbrev Cg(A:List (List Int)):D:= .lst (A.map bS)
def cV(st:ag):List D->List (List Int)->Prop
 | [],[]=>True
 |d::ds,r::rs=>items? st d=some (ao r)/\cV st ds rs
 |_,_=>False
structure j4(st:ag)(d:D)(A:List (List Int)):Prop where
 ex:∃ds,items? st d=some ds/\cV st ds A
def cV.len{st:ag}:∀ {a:List D} {A:List (List Int)},cV st a A->a.length=A.length
 | [],[],_=>rfl
 |_::_,_::_,h=>by simp[cV.len h.2]
def cV.tup{st:ag}:∀ {A:List (List Int)},cV st (A.map aw) A
 | []=>trivial
 |_::_=>⟨rfl,cV.tup⟩
def cV.lst{st:ag}:∀ {A:List (List Int)},cV st (A.map bS) A
 | []=>trivial
 |_::_=>⟨rfl,cV.lst⟩
def cV.get{st:ag}:∀ {a:List D} {A:List (List Int)} {i:Nat} {d:D},cV st a A->a[i]?=some d->∃r,A[i]?=some r/\items? st d=some (ao r)
 |_::_,r::_,0,_,h,e=>by simp at e;subst e;show⟨r,rfl,h.1⟩
 |_::_,_::_,i+1,d,h,e=>by
  obtain⟨r,c,b⟩:=cV.get (i:=i) (d:=d) h.2 (by simpa using e);show⟨r,by simpa using c,b⟩
def vK{st:ag}:j4 st (dP A) A:=⟨_,rfl,cV.tup⟩
def Oq{st:ag}:j4 st (Cg A) A:=⟨_,rfl,cV.lst⟩
structure Ext(st st':ag):Prop where
 len:st.length<=st'.length
 same:∀m,m<st.length->st'[m]?=st[m]?
def Ext.trans{st d c:ag}(a:Ext st d)(b:Ext d c):Ext st c:=⟨Xu a.len b.len,λm h=>(b.same m (XF h a.len)).trans (a.same m h)⟩
def Ext.push{st:ag}{c:List Cell}:Ext st (st++c):=⟨by simp,λm h=>Xs h⟩
def Ext.set{st:ag}{b:ag}(a:Ext b st)(h:b.length<=n):Ext b (st.set n c):=⟨by rw[XA];show a.len,λm d=>by rw[Xq (by lia)];show a.same m d⟩
def Ext.items{st a:ag}(x:Ext st a)(e:items? st d=some b):items? a d=some b:=by
 cases d with
 |ref n=>
  unfold items? at e⊢;simp only at e⊢;cases q:st[n]? with
  |none=>rw[q]at e;cases e
  |some c=>
   have f:=(Xm.mp q).1;rw[x.same n f];show e
 |_=>show e
def pJ{r:List Int}{k:Nat}(h:k<r.length):eP (ao r) (k:Int)=some (.int (r.getD k 0)):=by
 show gc ?_;rw[XB,Xv h,Mx.aN h];rfl
def getD_mem{r:List Int}{k:Nat}(h:k<r.length):r.getD k 0∈r:=by rw[Mx.aN h];show Yy _
def cV.at{st:ag}{A:List (List Int)}{k:Nat}(h:cV st a A)(b:k<A.length):∃d,eP a (k:Int)=some d/\items? st d=some (ao (A.getD k [])):=by
 let g:=h.len;let e:a[k]?=some a[k]:=Xv (by lia);obtain⟨r,c,f⟩:=h.get e;show⟨a[k],gc e,?_⟩;rw[Mx.aN b];rw[Xv b]at c;cases c;show f
def ints_app:ao r++[D.int x]=ao (r++[x]):=by simp[ao]
def Ef(h:d∈fg (ao r) (ao s)):∃a b,a∈r/\b∈s/\d= .tup [.int a,.int b]:=by
 obtain⟨n,k,e⟩:=X8.mp h;let l:(fg (ao r) (ao s))[n]?=some d:=by rw[Xv k,e]
 obtain⟨x,y,ex,c,rfl⟩:=mv l;rw[XB]at ex c;cases g:r[n]? with
 |none=>rw[g]at ex;cases ex
 |some a=>
  cases f:s[n]? with
  |none=>rw[f]at c;cases c
  |some b=>
   rw[g]at ex;rw[f]at c;cases ex;cases c;show⟨a,b,XO g,XO f,rfl⟩
def LD(n:Nat):(List.replicate n [D.int 0]).flatten=ao (List.replicate n 0):=by
 induction n with
 |zero=>rfl
 |succ n a=>rw[Yp,YO,a];rfl
def J8:fg (x::a) (y::ys)= .tup [x,y]::fg a ys:=rfl
def Gm:(ao r).all (pl n)=true:=by
 show Yi.mpr λd a=>?_;obtain⟨i,_,rfl⟩:=X5.mp a;cases n<;>rfl
def aH:Addr:=186
def dj:Addr:=271
def aR:Addr:=332
def bX:Addr:=388
def bK:Addr:=447
abbrev gY(b:Bool):Cell:=Cell.tab 166 ⟨84,32,84,66⟩ "Bench.live_rows.<locals>.<lambda>" b
abbrev Tr:List (Addr×Pos×Str):=[(166,⟨84,32,84,66⟩,"Bench.live_rows.<locals>.<lambda>")]
def Nf{a:Int}(h:a.natAbs<2^m):Builtin.Int.intBits a<=m:=by
 unfold Builtin.Int.intBits;by_cases b:a.natAbs=0
 . have:a=0:=by lia
   subst this;simp
 . have:=(Nat.log2_lt b).mpr h;split<;>lia
def fo{a b:Int}(d:a.natAbs<=2^m)(c:b.natAbs<=2^n)(h:m+n<=130000000):IntMulOk a b:=by
 let q:∀ {x:Int} {k:Nat},x.natAbs<=2^k->Builtin.Int.intBits x<=k+1:=λ{x k} h=>Nf (Nat.lt_of_le_of_lt h (Nat.pow_lt_pow_right (by decide) (X_ k)));let g:=q d;let f:=q c;let e:(2:Nat)^27=134217728:=by decide
 let z:Builtin.Int.intTooBig (Builtin.Int.intBits a+Builtin.Int.intBits b)=false:=by
  unfold Builtin.Int.intTooBig bitsLine;show XG (by lia)
 unfold IntMulOk;rw[z];simp
def xk:bV:=λc st K=>∃a b,c=[.int a,.int b]/\K (.int ((Nat.gcd a.natAbs b.natAbs:Nat):Int)) st
def EC:List Str:=["one","other","great","small","rest"]
def LX:DS:=(ay (aL 2 (ck uF (ae (aa 0) ai)))
 (ay (aL 3 (ck uF (ae (aa 1) ai)))
 (ay (m6 (aV (aj nB (aa 3) (dC (.int 0)))) (ay (aL 4 (aj mF (aa 2) (aa 3)))
 (ay (aL 2 (aa 3))
 (aL 3 (aa 4)))))
 (aU (aa 2)))))
def L5(a b:Nat):(a:Int).fmod (b:Int)=((a%b:Nat):Int):=by
 rw[Int.fmod_eq_emod_of_nonneg _ (aaq b)];show(Int.natCast_emod a b).symm
abbrev Xh(S:bV)(n:Nat)(P:DS)(N:List Str):Prop:=∀ds st K,S ds st K->ds.length=n/\P {nx:=λ_ st'=>K .au st',rt:=K} (aI N ds) st
def IT:Xh xk 2 LX EC:=by
 rintro e st K ⟨a,b,rfl,k⟩;show⟨rfl,?_⟩;show yA (yA ?_);show⟨λm σ c=>∃(g s:Nat) (r:Option D),σ=[some (.int a),some (.int b),some (.int g),some (.int s),r]/\c=st/\Nat.gcd g s=Nat.gcd a.natAbs b.natAbs/\s=m,⟨b.natAbs,a.natAbs,b.natAbs,none,?_,rfl,rfl,rfl⟩,?_⟩
 . rfl
 . rintro m σ c ⟨g,s,r,rfl,rfl,d,rfl⟩;show ne2 (λh=>du ?_) λh=>?_
   . show qt h ⟨g%s,Nat.mod_lt _ (by lia),s,g%s,some (.int ((g%s:Nat):Int)),?_,rfl,?_,rfl⟩
     . rw[L5];rfl
     . rw[ab3,<-Nat.gcd_rec,ab3];show d
   . have:s=0:=by lia
     subst this;rw[Nat.gcd_zero_right]at d;subst d;show k
abbrev lV(q:Rat):D:= .tup [.int q.num,.int ((q.den:Nat):Int)]
def qk:bV:=λa st K=>∃(t b:Int),a=[.int t,.int b]/\b≠0/\K (lV (Rat.divInt t b)) st
def Lh:List Str:=["top","bottom","shrink"]
def SS:DS:=(ay (aL 2 (aB xk (ae (aa 0) (ae (aa 1) ai))))
 (ay (di (aV (aj qQ (aa 1) (dC (.int 0)))) (aL 2 (qV lD (aa 2))) cJ)
 (aU (dA (ae (aj ki (aa 0) (aa 2)) (ae (aj ki (aa 1) (aa 2)) ai))))))
def vA{g t:Int}(a:g≠0)(h:g∣t):t.fdiv (-g)=(-1*t).fdiv g:=by
 obtain⟨c,rfl⟩:=h
 let d:(g*c).fdiv (-g)= -c:=by
  let:g*c=(-g)*(-c):=by rw[Int.neg_mul_neg]
  rw[this,aby _ (by lia)]
 let b:(-1*(g*c)).fdiv g= -c:=by
  let: -1*(g*c)=g*(-c):=by rw[Zv,Zu,Int.mul_neg]
  rw[this,aby _ a]
 rw[d,b]
def Lg(t b:Int):((Nat.gcd t.natAbs b.natAbs:Nat):Int)∣t:=Int.ofNat_dvd_left.mpr (Nat.gcd_dvd_left _ _)
def Kv(t b:Int):((Nat.gcd t.natAbs b.natAbs:Nat):Int)∣b:=Int.ofNat_dvd_left.mpr (Nat.gcd_dvd_right _ _)
def OH{t b:Int}(d:b≠0):D.tup [.int (((if b<0 then(-1:Int)else 1)*t).fdiv ((Nat.gcd t.natAbs b.natAbs:Nat):Int)),.int (((if b<0 then(-1:Int)else 1)*b).fdiv ((Nat.gcd t.natAbs b.natAbs:Nat):Int))]=lV (Rat.divInt t b):=by
 unfold lV;let c:(b.gcd t:Nat)=Nat.gcd t.natAbs b.natAbs:=by unfold Int.gcd;rw[ab3]
 let a:(if b<0 then(-1:Int)else 1)=b.sign:=by
  rcases Int.lt_trichotomy b 0 with h|h|h
  . rw[Xr h,Int.sign_eq_neg_one_of_neg h]
  . show absurd h d
  . rw[Xn (by lia),Int.sign_eq_one_of_pos h]
 let f:(Rat.divInt t b).num=((if b<0 then(-1:Int)else 1)*t).fdiv ((Nat.gcd t.natAbs b.natAbs:Nat):Int):=by
  rw[Rat.num_divInt,a,c,Yh _ (aaq _)]
 let e:(((Rat.divInt t b).den:Nat):Int)=((if b<0 then(-1:Int)else 1)*b).fdiv ((Nat.gcd t.natAbs b.natAbs:Nat):Int):=by
  rw[Rat.den_divInt,Xn d,a,c,Yh _ (aaq _),Int.natCast_ediv];congr 1;rw[Int.sign_mul_self]
 rw[f,e]
def Pz:Xh qk 2 SS Lh:=by
 rintro e st K ⟨t,b,rfl,d,k⟩;show⟨rfl,?_⟩;show⟨t,b,rfl,?_⟩
 let c:Nat.gcd t.natAbs b.natAbs≠0:=λz=>by
  let:=Nat.eq_zero_of_gcd_eq_zero_right z;lia
 let a:((Nat.gcd t.natAbs b.natAbs:Nat):Int)≠0:=by lia
 rw[<-OH d]at k;show KO (λh=>du ?_) λh=>?_
 . rw[Xr h,<-vA a (Lg t b),<-vA a (Kv t b)]at k;show ko (jf (by lia) (jf (by lia) ⟨Xo rfl,k⟩))
 . rw[Xn (by lia),Zu,Zu]at k;show jf a (jf a ⟨Xo rfl,k⟩)
structure Fq(st:ag)(d:D)(q:Rat)(m:Nat):Prop where
 aq:items? st d=some [.int q.num,.int ((q.den:Nat):Int)]
 sz:Mx.Sz q m
def Fq.b{st:ag}{q:Rat}(h:Fq st d q m):(((q.den:Nat):Int)).natAbs<=2^m:=h.sz.den
def Fq.of{st:ag}(h:Mx.Sz q m):Fq st (lV q) q m:=⟨rfl,h⟩
def Di:bV:=λc st K=>∃x y p q a b,c=[x,y]/\Fq st x p a/\Fq st y q b/\a+b<=130000000/\K (lV (p+q)) st
def Lx:List Str:=["one","other"]
def QS:DS:=(aU (aB qk (ae (aj cQ (aj cR (aj aJ (aa 0) (dC (.int 0))) (aj aJ (aa 1) (dC (.int 1)))) (aj cR (aj aJ (aa 1) (dC (.int 0))) (aj aJ (aa 0) (dC (.int 1))))) (ae (aj cR (aj aJ (aa 0) (dC (.int 1))) (aj aJ (aa 1) (dC (.int 1)))) ai))))
def OZ:Xh Di 2 QS Lx:=by
 rintro d st K ⟨x,y,p,q,a,b,rfl,X,Y,h,k⟩;show⟨rfl,?_⟩;let c:b+a<=130000000:=by lia
 rw[Mx.add_eq]at k;show az X.aq rfl (az Y.aq rfl (cY (fo X.sz.num Y.b h) (az Y.aq rfl (az X.aq rfl (cY (fo Y.sz.num X.b c) (dm (az X.aq rfl (az Y.aq rfl (cY (fo X.b Y.b h) ⟨_,_,rfl,Za (Mx.den_nz p) (Mx.den_nz q),k⟩)))))))))
def zW:bV:=λc st K=>∃x y p q a b,c=[x,y]/\Fq st x p a/\Fq st y q b/\a+b<=130000000/\K (lV (p-q)) st
def F5:List Str:=["one","other"]
def Pq:DS:=(aU (aB qk (ae (aj jP (aj cR (aj aJ (aa 0) (dC (.int 0))) (aj aJ (aa 1) (dC (.int 1)))) (aj cR (aj aJ (aa 1) (dC (.int 0))) (aj aJ (aa 0) (dC (.int 1))))) (ae (aj cR (aj aJ (aa 0) (dC (.int 1))) (aj aJ (aa 1) (dC (.int 1)))) ai))))
def LN:Xh zW 2 Pq F5:=by
 rintro d st K ⟨x,y,p,q,a,b,rfl,X,Y,h,k⟩;show⟨rfl,?_⟩;let c:b+a<=130000000:=by lia
 rw[Mx.sub_eq]at k;show az X.aq rfl (az Y.aq rfl (cY (fo X.sz.num Y.b h) (az Y.aq rfl (az X.aq rfl (cY (fo Y.sz.num X.b c) (ib (az X.aq rfl (az Y.aq rfl (cY (fo X.b Y.b h) ⟨_,_,rfl,Za (Mx.den_nz p) (Mx.den_nz q),k⟩)))))))))
def zL:bV:=λc st K=>∃x y p q a b,c=[x,y]/\Fq st x p a/\Fq st y q b/\a+b<=130000000/\K (lV (p*q)) st
def FU:List Str:=["one","other"]
def Pc:DS:=(aU (aB qk (ae (aj cR (aj aJ (aa 0) (dC (.int 0))) (aj aJ (aa 1) (dC (.int 0)))) (ae (aj cR (aj aJ (aa 0) (dC (.int 1))) (aj aJ (aa 1) (dC (.int 1)))) ai))))
def Mw:Xh zL 2 Pc FU:=by
 rintro c st K ⟨x,y,p,q,a,b,rfl,X,Y,h,k⟩;show⟨rfl,?_⟩;rw[Mx.mul_eq]at k;show az X.aq rfl (az Y.aq rfl (cY (fo X.sz.num Y.sz.num h) (az X.aq rfl (az Y.aq rfl (cY (fo X.b Y.b h) ⟨_,_,rfl,Za (Mx.den_nz p) (Mx.den_nz q),k⟩)))))
def Es:bV:=λc st K=>∃x y p q a b,c=[x,y]/\Fq st x p a/\Fq st y q b/\a+b<=130000000/\q.num≠0/\K (lV (p/q)) st
def Ko:List Str:=["one","other"]
def S7:DS:=(aU (aB qk (ae (aj cR (aj aJ (aa 0) (dC (.int 0))) (aj aJ (aa 1) (dC (.int 1)))) (ae (aj cR (aj aJ (aa 0) (dC (.int 1))) (aj aJ (aa 1) (dC (.int 0)))) ai))))
def Pg:Xh Es 2 S7 Ko:=by
 rintro d st K ⟨x,y,p,q,a,b,rfl,X,Y,h,c,k⟩;show⟨rfl,?_⟩;rw[Mx.div_eq]at k;show az X.aq rfl (az Y.aq rfl (cY (fo X.sz.num Y.b h) (az X.aq rfl (az Y.aq rfl (cY (fo X.b Y.sz.num h) ⟨_,_,rfl,Za (Mx.den_nz p) c,k⟩)))))
def nU:bV:=λa st K=>∃n:Int,a=[.int n]/\K (lV (n:Rat)) st
def Fv:List Str:=["n"]
def OP:DS:=(aU (dA (ae (aa 0) (ae (dC (.int 1)) ai))))
def Ml:Xh nU 1 OP Fv:=by
 rintro a st K ⟨n,rfl,k⟩;show⟨rfl,Xo rfl,k⟩
def qL:bV:=λa st K=>∃(d:D) (A:List (List Int)),a=[d]/\j4 st d A/\A.length<=1000/\K (dP A) st
def AE:List Str:=["rows"]
def JH:DS:=(aU (ck dN (ae (dX (fC (aa 0)) [none] (cB 0) cT (ck dN (ae (aa 0) ai))) ai)))
def js{st:ag}{K:List D->ag->Prop}{A:List (List Int)}(f:List Int->D)(t:ok st)(w:cV st s A)(v:∀d r,r∈A->items? st d=some (ao r)->∀u,u (f r) st->∃l,n d m=some l/\o l st u)(k:K (A.map f) st):eQ n cT o ok m s [] st K:=by
 show iz (λrest c b=>∃(e a:List (List Int)),st=b/\e++a=A/\cV st rest a/\c=e.map f) ?_ ?_ _ _ _ ⟨[],A,rfl,rfl,w,rfl⟩
 . rintro c b ⟨e,a,rfl,g,h,rfl⟩;match a,h with
   | [],_=>
     rw[YZ]at g;subst g;show⟨t,k⟩
 . rintro d rest c b ⟨e,a,rfl,g,h,rfl⟩ next
   match a,h with
   |r::a,h=>
    obtain⟨l,x,q⟩:=v d r (by rw[<-g];simp) h.1 (λy p=>eQ n cT o ok m rest (e.map f++[y]) p K) (next _ _ ⟨e++[r],a,rfl,by rw[<-g];simp,h.2,by simp⟩);show⟨t,l,x,q⟩
def Hg:Xh qL 1 JH AE:=by
 rintro l st K ⟨d,A,rfl,⟨m,f,a⟩,b,k⟩;show⟨rfl,?_⟩;show ze f λok g=>⟨cL (by rw[a.len];show b),?_⟩
 show js aw g a (λe r h c n q=>⟨_,rfl,dz c q⟩) ?_;show dz rfl k
def mN:bV:=λa st K=>∃x y t r s,a=[x,.int t,y]/\items? st x=some (ao r)/\items? st y=some (ao s)/\r.length<=1000/\(∀b∈s,IntMulOk t b)/\K (bS (Mx.gm r t s)) st
def FC:List Str:=["row","times","other"]
def Oy:DS:=(aU (dX (o9 (ae (aa 0) (ae (aa 2) ai))) [none,none,some 1] (gT 0 1) cT (aj cQ (aa 0) (aj cR (aa 2) (aa 1)))))
def A6:∀(r s:List Int),(fg (ao r) (ao s)).map (λd=>match d with| .tup [.int a,.int b]=> .int (a+t*b)|_=> .au)=ao (Mx.gm r t s)
 | [],_=>rfl
 |_::_,[]=>rfl
 |a::r,b::s=>by
  let:=A6 (t:=t) r s;unfold fg Mx.gm at this⊢;simp![ao,Ye,List.zip_cons_cons,List.zipWith_cons_cons]at this⊢;rw[this]
def L_:Xh mN 3 Oy FC:=by
 rintro p st K ⟨x,y,t,r,s,rfl,e,c,n,f,k⟩;show⟨rfl,?_⟩;show mZ e c λok m=>⟨cL (by rw[gn];simp;lia),?_⟩
 show comp_map (g:=λd=>match d with| .tup [.int a,.int b]=> .int (a+t*b)|_=> .au) (m st e c) _ (λd h u q=>?_) ?_
 . obtain⟨a,b,o,l,rfl⟩:=Ef h;show⟨_,rfl,cY (f b l) (dm q)⟩
 . rw[A6];show k
def xv:bV:=λc st K=>∃(x y:D) (n:Nat) (a:List Int) (A:List (List Int)),c=[x,y,.int n]/\items? st x=some (ao a)/\j4 st y A/\(∀r∈A,r.length=n)/\n<=1000/\(∀w∈a,∀r∈A,∀b∈r,IntMulOk w b)/\K (aw (Mx.fL a A (List.replicate n 0))) st
def EE:List Str:=["weights","rows","wide","total","weight","row"]
def M5:DS:=(ay (aL 3 (aj cR (tN (ae (dC (.int 0)) ai)) (aa 2)))
 (ay (iy (o9 (ae (aa 0) (ae (aa 1) ai))) (gT 4 5) (aL 3 (aB mN (ae (aa 3) (ae (aa 4) (ae (aa 5) ai))))))
 (aU (ck dN (ae (aa 3) ai)))))
def Ld:Xh xv 3 M5 EE:=by
 rintro Q st K ⟨x,y,n,s,A,rfl,C,⟨O,B,L⟩,I,P,M,k⟩;show⟨rfl,?_⟩;show WK (Xo rfl) (P8 ⟨by lia,by lia,cL (by simp;lia)⟩ ?_);rw[XX,LD];show mZ C B λok H=>?_
 show gD (λrest σ z=>∃(u t:Option D) (a:List Int) (f:List D) (m:List (List Int)) (c:List Int),st=z/\rest=fg (ao a) f/\cV st f m/\σ=[some x,some y,some (.int n),some (bS c),u,t]/\c.length=n/\(∀r∈m,r∈A)/\(∀w∈a,w∈s)/\Mx.fL a m c=Mx.fL s A (List.replicate n 0)) ?_ ?_ _ _ _
  ⟨none,none,s,O,A,List.replicate n 0,rfl,rfl,L,rfl,by simp,λ_ h=>h,λ_ h=>h,rfl⟩
 . rintro σ v ⟨u,t,a,f,m,c,rfl,l,g,rfl,G,_,_,p⟩;show⟨H _ C B,dz rfl ?_⟩
   let:Mx.fL a m c=c:=by
    match a,f,m,g,l with
    | [],_,_,_,_=>unfold Mx.fL;rfl
    |_::_,[],[],_,_=>unfold Mx.fL;rfl
    |_::_,_::_,_::_,_,l=>cases l
   rw[this]at p;rw[p];show k
 . rintro d rest σ v ⟨u,t,a,f,m,c,rfl,l,g,rfl,G,F,o,p⟩ next
   match a,f,m,g,l with
   |w::a,e::f,r::m,g,l=>
    simp![ao,Ye,J8,aaV]at l;obtain⟨rfl,rfl⟩:=l;show⟨H _ C B,_,rfl,?_⟩;let J:=I r (F r XT);show⟨_,_,_,c,r,rfl,rfl,g.1,by lia,λb N=>M w (o w XT) r (F r XT) b N,?_⟩;show next _ _ ⟨_,_,a,f,m,Mx.gm c w r,rfl,rfl,g.2,rfl,by rw[Mx.nZ (by lia)];show G,λq E=>F q (XM _ E),λq E=>o q (XM _ E),?_⟩
    rw[<-p];rfl
   | [],_,_,_,l=>cases l
   |_::_,[],[],_,l=>cases l
def xB:bV:=λa st K=>∃(d:D) (A:List (List Int)) (j:Nat),a=[d,.int j]/\j4 st d A/\(∀r∈A,j<r.length)/\A.length<=1000/\K (aw (Mx.sJ A j)) st
def Cu:List Str:=["rows","place"]
def Ms:DS:=(aU (ck dN (ae (dX (fC (aa 0)) [none,some 1] (cB 0) cT (aj aJ (aa 0) (aa 1))) ai)))
def Kf{st:ag}{K:List D->ag->Prop}{A:List (List Int)}(f:List Int->D)(t:ok st)(w:cV st s A)(v:∀d r,r∈A->items? st d=some (ao r)->∀u,u (f r) st->∃l,n d m=some l/\o l st u)(k:K (A.map f) st):eQ n cT o ok m s [] st K:=by
 show iz (λrest c b=>∃(e a:List (List Int)),st=b/\e++a=A/\cV st rest a/\c=e.map f) ?_ ?_ _ _ _ ⟨[],A,rfl,rfl,w,rfl⟩
 . rintro c b ⟨e,a,rfl,g,h,rfl⟩;match a,h with
   | [],_=>
     rw[YZ]at g;subst g;show⟨t,k⟩
 . rintro d rest c b ⟨e,a,rfl,g,h,rfl⟩ next
   match a,h with
   |r::a,h=>
    obtain⟨l,x,q⟩:=v d r (by rw[<-g];simp) h.1 (λy p=>eQ n cT o ok m rest (e.map f++[y]) p K) (next _ _ ⟨e++[r],a,rfl,by rw[<-g];simp,h.2,by simp⟩);show⟨t,l,x,q⟩
def Kw(A:List (List Int))(j:Nat):A.map (λr=>D.int (r.getD j 0))=ao (Mx.sJ A j):=by unfold Mx.sJ ao;rw[Yk];rfl
def Lo:Xh xB 2 Ms Cu:=by
 rintro m st K ⟨d,A,j,rfl,⟨n,h,a⟩,f,c,k⟩;show⟨rfl,?_⟩;show ze h λok l=>⟨cL (by rw[a.len];show c),?_⟩
 show Kf (λr=> .int (r.getD j 0)) l a (λe r b g o q=>⟨_,rfl,az g (pJ (f r b)) q⟩) ?_;rw[Kw];show dz rfl k
def md:bV:=λa st K=>∃(d:D) (A:List (List Int)) (n:Nat),a=[d,.int n]/\j4 st d A/\(∀r∈A,r.length=n)/\A.length<=1000/\n<=1000/\K (dP (Mx.i_ A n)) st
def tV:List Str:=["rows","wide"]
def BO:DS:=(aU (ck dN (ae (dX (gE (ae (aa 1) ai)) [none,some 0] (cB 0) cT (aB xB (ae (aa 1) (ae (aa 0) ai)))) ai)))
def Nh(A:List (List Int))(n:Nat):(List.range n).map (λj=>aw (Mx.sJ A j))=(Mx.i_ A n).map aw:=by unfold Mx.i_;rw[Yk];rfl
def Af:Xh md 2 BO tV:=by
 rintro h st K ⟨d,A,n,rfl,f,a,c,g,k⟩;show⟨rfl,?_⟩;show jH ⟨by lia,by lia⟩ ⟨cL (by rw[iq];lia),?_⟩;rw[XX];show tT (λj=>aw (Mx.sJ A j)) n (λi e l q=>⟨_,rfl,d,A,i,rfl,f,λr b=>by rw[a r b];show e,c,q⟩) ?_;rw[Nh];show dz rfl k
def sW:bV:=λa st K=>∃(n i:Nat),a=[.int n,.int i]/\n<=1000/\K (aw (Mx.mT n i)) st
def yF:List Str:=["n","place"]
def Iq:DS:=(aU (ck dN (ae (dX (gE (ae (aa 0) ai)) [none,some 1] (cB 0) cT (JN (aV (aj jx (aa 0) (aa 1))) (dC (.int 1)) (dC (.int 0)))) ai)))
def EL:Xh sW 2 Iq yF:=by
 rintro c st K ⟨n,i,rfl,a,k⟩;show⟨rfl,?_⟩;show jH ⟨by lia,by lia⟩ ⟨cL (by rw[iq];lia),?_⟩;rw[XX];show tT (λj=> .int (Mx.dl j i)) n (λj b d q=>⟨_,rfl,?_⟩) ?_
 . show eq2 (λh=>du ?_) λh=>?_
   . have:j=i:=by lia
     subst this;rw[Mx.fJ]at q;show q
   . rw[Mx.f9 (by lia)]at q;show q
 . have:(List.range n).map (λj=>D.int (Mx.dl j i))=ao (Mx.mT n i):=by unfold Mx.mT ao;rw[Yk];rfl
   rw[this];show dz rfl k
def og:bV:=λa st K=>∃(n:Nat),a=[.int n]/\n<=1000/\K (dP (Mx.units n)) st
def wC:List Str:=["n"]
def E7:DS:=(aU (ck dN (ae (dX (gE (ae (aa 0) ai)) [none,some 0] (cB 0) cT (aB sW (ae (aa 1) (ae (aa 0) ai)))) ai)))
def D3:Xh og 1 E7 wC:=by
 rintro c st K ⟨n,rfl,a,k⟩;show⟨rfl,?_⟩;show jH ⟨by lia,by lia⟩ ⟨cL (by rw[iq];lia),?_⟩;rw[XX];show tT (λi=>aw (Mx.mT n i)) n (λi b d q=>⟨_,rfl,n,i,rfl,a,q⟩) ?_;let:(List.range n).map (λi=>aw (Mx.mT n i))=(Mx.units n).map aw:=by unfold Mx.units;rw[Yk];rfl
 rw[this];show dz rfl k
def vZ:bV:=λc st K=>∃(x y:D) (r s:List Int),c=[x,y]/\items? st x=some (ao r)/\items? st y=some (ao s)/\r.length<=1000/\(∀a∈r,∀b∈s,IntMulOk a b)/\K (.int (Mx.bN r s)) st
def Og:List Str:=["one","other"]
def TK:DS:=(aU (ck uJ (ae (dX (o9 (ae (aa 0) (ae (aa 1) ai))) [none,none] (gT 0 1) cT (aj cR (aa 0) (aa 1))) ai)))
def FK:∀(r s:List Int),∃ns:List Int,(fg (ao r) (ao s)).map (λd=>match d with| .tup [.int a,.int b]=> .int (a*b)|_=> .au)=ao ns/\ns.sum=Mx.bN r s
 | [],_=>⟨[],rfl,rfl⟩
 |_::_,[]=>⟨[],rfl,rfl⟩
 |a::r,b::s=>by
  obtain⟨ns,f,c⟩:=FK r s;show⟨a*b::ns,?_,?_⟩
  . have e:fg (ao (a::r)) (ao (b::s))= .tup [.int a,.int b]::fg (ao r) (ao s):=rfl;rw[e,Ye,f];rfl
  . rw[ZJ,c];rfl
def Lb:Xh vZ 2 TK Og:=by
 rintro v st K ⟨x,y,r,s,rfl,e,c,u,f,k⟩;show⟨rfl,?_⟩;show mZ e c λok p=>⟨cL (by rw[gn];simp;lia),?_⟩
 obtain⟨t,o,n⟩:=FK r s;show comp_map (g:=λd=>match d with| .tup [.int a,.int b]=> .int (a*b)|_=> .au) (p st e c) _ (λd h w q=>?_) ?_
 . obtain⟨a,b,m,l,rfl⟩:=Ef h;show⟨_,rfl,cY (f a m b l) q⟩
 . rw[o];show CO (ints_map _) ?_;rw[n];show k
def kW:List Int->Nat->Option Nat
 | [],_=>none
 |x::xs,i=>if x=0 then kW xs (i+1)else some i
def qc(r:List Int):Option Nat:=kW r 0
def jd(r:List Int):D:=match qc r with
 |some k=> .int (k:Int)
 |none=> .au
def ir:bV:=λa st K=>∃(d:D) (r:List Int),a=[d]/\items? st d=some (ao r)/\K (jd r) st
def Bm:List Str:=["row","place","number"]
def Lf:DS:=(ay (iy (Hv (ae (aa 0) ai)) (gT 1 2) (di (aV (aj nB (aa 2) (dC (.int 0)))) (aU (aa 1)) cJ))
 (aU (dC .au)))
def GX:Xh ir 1 Lf Bm:=by
 rintro m st K ⟨d,r,rfl,g,k⟩;show⟨rfl,?_⟩;show Pe g λok l=>?_;show gD (λrest σ b=>b=st/\∃(f e:Option D) (s:List Int) (i:Nat),σ=[some d,f,e]/\rest=l7 i (ao s)/\kW r 0=kW s i) ?_ ?_ _ _ _ ⟨rfl,none,none,r,0,rfl,rfl,rfl⟩
 . rintro σ b ⟨rfl,f,e,s,i,rfl,a,c⟩;match s,a with
   | [],_=>
     show⟨l _ g,?_⟩;let:jd r= .au:=by unfold jd qc;rw[c];rfl
     rw[this]at k;show k
 . rintro x rest σ b ⟨rfl,f,e,s,i,rfl,a,c⟩ next
   match s,a,c with
   |y::s,a,c=>
    simp![ao,Ye,l7,aaV]at a;obtain⟨rfl,rfl⟩:=a;show⟨l _ g,_,rfl,?_⟩;show ne2 (λh=>du ?_) λh=>?_
    . have:jd r= .int (i:Int):=by unfold jd qc;rw[c];unfold kW;rw[Xn h]
      rw[this]at k;show k
    . show next _ _ ⟨rfl,_,_,s,i+1,rfl,rfl,?_⟩
      rw[c];unfold kW;rw[Xr h];cases s<;>rfl
   | [],a,_=>cases a
def DP:∀(r:List Int) (i l:Nat),(∀c,c<l->r.getD c 0=0)->r.getD l 0≠0->kW r i=some (i+l)
 | [],_,_,_,h=>(h rfl).elim
 |x::r,i,0,_,h=>by
  unfold kW;rw[Xn (show¬x=0 from h)];rfl
 |x::r,i,l+1,a,h=>by
  unfold kW;rw[Xr (show x=0 from a 0 (Nat.zero_lt_succ _)),DP r (i+1) l (λc b=>a (c+1) (abx b)) h,Nat.add_right_comm];rfl
def ym:∀(r:List Int) (i:Nat),kW r i=none->∀c,r.getD c 0=0
 | [],_,_,_=>rfl
 |x::r,i,h,c=>by
  unfold kW at h;split at h
  . cases c with
    |zero=>assumption
    |succ c=>show ym r (i+1) h c
  . cases h
def A8{r:List Int}(h:∀c,c<l->r.getD c 0=0)(h':r.getD l 0≠0):qc r=some l:=by
 let:=DP r 0 l h h';rw[aao]at this;show this
def kh:bV:=λa st K=>∃(t d:Int),a=[.int t,.int d]/\d≠0/\K (.int (Mx.qn t d)) st
def ox:List Str:=["top","bottom"]
def vx:DS:=(aU (aj ki (aj cQ (aj cR (dC (.int 2)) (aa 0)) (aa 1)) (aj cR (dC (.int 2)) (aa 1))))
def uc:Xh kh 2 vx ox:=by
 rintro b st K ⟨t,d,rfl,a,k⟩;show⟨rfl,cY (dZ (by decide) (by decide)) (dm (cY (dZ (by decide) (by decide)) (jf (by lia) k)))⟩
def lJ:bV:=λa st K=>∃(n k o:Nat) (A:List (List Int)),a=[.ref n,.int k,.int o]/\st[n]?=some (.lst (A.map bS))/\k<A.length/\o<A.length/\K (.ref st.length) (st++[.lst ((Mx.cx A k o).map bS)])
def wG:List Str:=["rows","k","other","order"]
def E4:DS:=(ay (aL 3 (ck uN (ae (aa 0) ai)))
 (ay (d9 (aa 3) (aa 1) (aj aJ (aa 0) (aa 2)))
 (ay (d9 (aa 3) (aa 2) (aj aJ (aa 0) (aa 1)))
 (aU (aa 3)))))
def eV{A:List (List Int)}{j:Nat}(h:j<A.length):eP (A.map bS) (j:Int)=some (bS (A.getD j [])):=by
 show gc ?_;rw[XB,Xv h,Mx.aN h];rfl
def iX{m k:Nat}(h:k<m):ke m (k:Int)=some k:=by
 let:=RP (i:=(k:Int)) (m:=m) (by lia) (by lia);rw[XX]at this;show this
def jL{A:List (List Int)}{k:Nat}:(A.map bS).set k (bS r)=(A.set k r).map bS:=by rw[ZD]
def EB:Xh lJ 3 E4 wG:=by
 rintro q st K ⟨n,k,o,A,rfl,e,d,b,f⟩;show⟨rfl,?_⟩;let c:n<st.length:=(Xm.mp e).1;show MD (aO e) ?_;let p:(st++[Cell.lst (A.map bS)])[n]?=some (.lst (A.map bS)):=by rw[Xs c];show e
 let m:(st++[Cell.lst (A.map bS)])[st.length]?=some (.lst (A.map bS)):=by simp
 show az (aO p) (eV b) (gK m (by rw[Xk];show iX d) ?_);rw[jL]
 let g:(st++[Cell.lst (A.map bS)]).set st.length (.lst ((A.set k (A.getD o [])).map bS))=st++[Cell.lst ((A.set k (A.getD o [])).map bS)]:=by
  rw[abT _ _ (Xl _),ZT];rfl
 rw[g];let l:(st++[Cell.lst ((A.set k (A.getD o [])).map bS)])[n]?=some (.lst (A.map bS)):=by rw[Xs c];show e
 let h:(st++[Cell.lst ((A.set k (A.getD o [])).map bS)])[st.length]?=some (.lst ((A.set k (A.getD o [])).map bS)):=by simp
 show az (aO l) (eV d) (gK h (by rw[Xk,XA];show iX b) ?_);rw[jL]
 let a:(st++[Cell.lst ((A.set k (A.getD o [])).map bS)]).set st.length (.lst (((A.set k (A.getD o [])).set o (A.getD k [])).map bS))=st++[Cell.lst ((Mx.cx A k o).map bS)]:=by
  rw[abT _ _ (Xl _),ZT];rfl
 rw[a];show f
def oP:bV:=λa st K=>∃(d:D) (r:List Int),a=[d]/\items? st d=some (ao r)/\r.length<=1000/\K (bS (r.map λx=> -x)) st
def AX:List Str:=["row"]
def K9:DS:=(aU (dX (fC (aa 0)) [none] (cB 0) cT (qV lD (aa 0))))
def HQ:Xh oP 1 K9 AX:=by
 rintro l st K ⟨d,r,rfl,f,c,k⟩;show⟨rfl,?_⟩;show ze f λok h=>⟨cL (by unfold ao;rw[Xk];show c),?_⟩
 show comp_map (g:=λx=>match x with| .int a=> .int (-a)|_=> .au) h _ (λx b m q=>?_) ?_
 . unfold ao at b;obtain⟨a,_,rfl⟩:=X5.mp b;show⟨_,rfl,ko q⟩
 . have e:(ao r).map (λx=>match x with| .int a=> .int (-a)|_=> .au)=ao (r.map λx=> -x):=by unfold ao;rw[Yk,Yk];rfl
   rw[e];show k
structure Bn(st:ag)(b xb xu xc:Nat)(A U C:List (List Int)):Prop where
 eb:st[b]?=some (Cell.ins aH [("body",.ref xb),("turn",.ref xu),("back_columns",.ref xc)])
 e1:st[xb]?=some (Cell.lst (A.map bS))
 e2:st[xu]?=some (Cell.lst (U.map bS))
 e3:st[xc]?=some (Cell.lst (C.map bS))
 n1:xb≠xu
 n2:xb≠xc
 n3:xu≠xc
def ni{st:ag}{b x:Nat}{C:Addr}{fs:List (Str×D)}{c:List D}(a:st[b]?=some (Cell.ins C fs))(d:st[x]?=some (Cell.lst c)):b≠x:=λz=>by rw[z,d]at a;cases a
def mw:bV:=λc st K=>∃(b N:Nat) (d:D) (A:List (List Int)),c=[.ref b,d]/\st[b]?=some (.ins aH [])/\j4 st d A/\A.length=N/\N<=8/\∀a,Bn a b st.length (st.length+1) (st.length+2) A (Mx.units N) (Mx.units N)->a.length=st.length+3->(∀m,m<st.length->m≠b->a[m]?=st[m]?)->K .au a
def mr:List Str:=["self","rows"]
def xF:DS:=(ay (fy aH "body" (aa 0) (oK (fC (aa 1)) [none] (cB 0) cT (ck kH (ae (aa 0) ai))))
 (ay (fy aH "turn" (aa 0) (oK (fC (aB og (ae (ck dY (ae (aa 1) ai)) ai))) [none] (cB 0) cT (ck kH (ae (aa 0) ai))))
 (fy aH "back_columns" (aa 0) (oK (fC (aB og (ae (ck dY (ae (aa 1) ai)) ai))) [none] (cB 0) cT (ck kH (ae (aa 0) ai))))))
def tU(f:Str)(v:D):∀fs:List (Str×D),(putD f v fs).length<=fs.length+1
 | []=>by simp[putD]
 |(g,x)::r=>by
  unfold putD;split
  . simp
  . have:=tU f v r;simp![XH];lia
def qj{st:ag}{A:List (List Int)}:cV st (A.map aw) A:=cV.tup
def AK(n:Nat):(Mx.units n).length=n:=by unfold Mx.units;simp
def we:Xh mw 2 xF mr:=by
 rintro ds st K ⟨b,N,d,A,rfl,B,T,Y,Z,k⟩;show⟨rfl,?_⟩;let S:b<st.length:=(Xm.mp B).1;obtain⟨L,g,G⟩:=T.ex;let R:=G.len;let lst:∀(e:D) (r:List Int),True:=λ_ _=>trivial;show ze g λok X=>⟨cL (by lia),?_⟩
 show js bS X G (λe r I u O q=>⟨_,rfl,kK u q⟩) ?_;let z:(st++[Cell.lst (A.map bS)])[b]?=some (.ins aH []):=by rw[Xs S];show B
 show dD z (by decide) ?_;generalize l:(st++[Cell.lst (A.map bS)]).set b (.ins aH (putD "body" (.ref st.length) []))=st1;let H:st1.length=st.length+1:=by rw[<-l];simp
 let J:∀m,m<st.length->m≠b->st1[m]?=st[m]?:=λm t f=>by rw[<-l,Xq (Xp f),Xs t]
 let M:st1[b]?=some (.ins aH (putD "body" (.ref st.length) [])):=by rw[<-l,Xx (by simp;lia)]
 let P:st1[st.length]?=some (.lst (A.map bS)):=by rw[<-l,Xq (by lia)];simp
 clear l
 let w:∃v,items? st1 d=some v/\v.length=N:=by
  cases d with
  |ref n=>
   by_cases o:n=b
   . subst o;unfold items? at g;simp![B]at g;cases g
   . have x:n<st.length:=by
      unfold items? at g;simp only at g;cases q:st[n]? with
      |none=>rw[q]at g;cases g
      |some c=>show(Xm.mp q).1
     show⟨L,?_,by lia⟩;unfold items? at g⊢;simp only at g⊢;rw[J n x o];show g
  |_=>show⟨L,g,by lia⟩
 obtain⟨C,a,p⟩:=w;show cK a ?_;rw[p];show⟨N,rfl,by lia,?_⟩;show jJ ⟨cL (by rw[Xk,AK];lia),?_⟩;show js bS trivial qj (λe r I u O q=>⟨_,rfl,kK u q⟩) ?_;let W:(st1++[Cell.lst ((Mx.units N).map bS)])[b]?=some (.ins aH (putD "body" (.ref st.length) [])):=by rw[Xs (by lia)];show M
 show dD W (by let:=tU "body" (.ref st.length) [];simp![Zo]at this;lia) ?_;generalize h:(st1++[Cell.lst ((Mx.units N).map bS)]).set b (.ins aH (putD "turn" (.ref st1.length) (putD "body" (.ref st.length) [])))=st2;let Q:st2.length=st.length+2:=by rw[<-h];simp;lia
 let y:∀m,m<st1.length->m≠b->st2[m]?=st1[m]?:=λm t f=>by rw[<-h,Xq (Xp f),Xs t]
 let E:st2[b]?=some (.ins aH (putD "turn" (.ref st1.length) (putD "body" (.ref st.length) []))):=by rw[<-h,Xx (by simp;lia)]
 let F:st2[st1.length]?=some (.lst ((Mx.units N).map bS)):=by rw[<-h,Xq (by lia)];simp
 clear h
 let s:items? st2 d=some C:=by
  cases d with
  |ref n=>
   by_cases o:n=b
   . subst o;unfold items? at a;simp![M]at a;cases a
   . have x:n<st1.length:=by
      unfold items? at a;simp only at a;cases q:st1[n]? with
      |none=>rw[q]at a;cases a
      |some c=>show(Xm.mp q).1
     unfold items? at a⊢;simp only at a⊢;rw[y n x o];show a
  |_=>show a
 show cK s ?_;rw[p];show⟨N,rfl,by lia,?_⟩;show jJ ⟨cL (by rw[Xk,AK];lia),?_⟩;show js bS trivial qj (λe r I u O q=>⟨_,rfl,kK u q⟩) ?_;let V:(st2++[Cell.lst ((Mx.units N).map bS)])[b]?=some (.ins aH (putD "turn" (.ref st1.length) (putD "body" (.ref st.length) []))):=by rw[Xs (by lia)];show E
 show dD V (by let U:=tU "body" (.ref st.length) [];let h2:=tU "turn" (.ref st1.length) (putD "body" (.ref st.length) []);simp![Zo]at U;lia) ?_;show k _ ⟨?_,?_,?_,?_,by lia,by lia,by lia⟩ (by simp;lia) λm t f=>?_
 . rw[Xx (by simp;lia),H,Q];rfl
 . rw[Xq (by lia),Xs (by lia),y _ (by lia) (by lia)];show P
 . rw[Xq (by lia),Xs (by lia)];rw[H]at F;show F
 . rw[Xq (by lia)];rw[show st.length+2=st2.length by lia];simp
 . rw[Xq (Xp f),Xs (by lia),y m (by lia) f,J m t f]
def mY:bV:=λf st K=>∃(b e c d N w k j:Nat) (A U C:List (List Int)) (q:Int),f=[.ref b,.int k,.int q,.int j]/\Bn st b e c d A U C/\Mx.dk N w A/\Mx.dk N N U/\Mx.dk N N C/\k<N/\j<N/\N<=8/\w<=9/\(∀x∈A.getD j [],IntMulOk (-q) x)/\(∀x∈U.getD j [],IntMulOk (-q) x)/\(∀x∈C.getD k [],IntMulOk q x)/\
 ∀a,Bn a b e c d (Mx.bZ A k q j) (Mx.bZ U k q j) (Mx.bZ C j (-q) k)->a.length=st.length->(∀m,m≠e->m≠c->m≠d->a[m]?=st[m]?)->K .au a
def qx:List Str:=["self","k","times","other"]
def D8:DS:=(ay (d9 (bO aH "body" (aa 0)) (aa 1) (aB mN (ae (aj aJ (bO aH "body" (aa 0)) (aa 1)) (ae (qV lD (aa 2)) (ae (aj aJ (bO aH "body" (aa 0)) (aa 3)) ai)))))
 (ay (d9 (bO aH "turn" (aa 0)) (aa 1) (aB mN (ae (aj aJ (bO aH "turn" (aa 0)) (aa 1)) (ae (qV lD (aa 2)) (ae (aj aJ (bO aH "turn" (aa 0)) (aa 3)) ai)))))
 (d9 (bO aH "back_columns" (aa 0)) (aa 3) (aB mN (ae (aj aJ (bO aH "back_columns" (aa 0)) (aa 3)) (ae (aa 2) (ae (aj aJ (bO aH "back_columns" (aa 0)) (aa 1)) ai)))))))
def BF:Xh mY 4 D8 qx:=by
 rintro ds st K ⟨b,g,f,y,N,w,k,j,A,U,C,q,rfl,B,G,E,F,n,z,hN,hw,P,M,O,X⟩;show⟨rfl,?_⟩;let W:=G.len;let T:=E.len;let V:=F.len;let rA:=Mx.dE G n;let rU:=Mx.dE E n;let Z:=Mx.dE F z;let x:=ni B.eb B.e1;let v:=ni B.eb B.e2;let u:=ni B.eb B.e3;let r:=B.n1;let p:=B.n2;let o:=B.n3;show aM B.eb rfl (az (aO B.e1) (eV (by lia)) (ko (aM B.eb rfl (az (aO B.e1) (eV (by lia)) ?_))));show⟨_,_,-q,A.getD k [],A.getD j [],rfl,rfl,rfl,by lia,P,?_⟩;show aM B.eb rfl (gK B.e1 (by rw[Xk,W];show iX n) ?_);rw[jL];let l:∀m,m≠g->(st.set g (.lst ((A.set k (Mx.gm (A.getD k []) (-q) (A.getD j []))).map bS)))[m]?=st[m]?:=λm s=>Xq (Xp s);let I:(st.set g (.lst ((A.set k (Mx.gm (A.getD k []) (-q) (A.getD j []))).map bS)))[g]?=some (.lst ((Mx.bZ A k q j).map bS)):=Xx (Xm.mp B.e1).1;let L:(st.set g (.lst ((A.set k (Mx.gm (A.getD k []) (-q) (A.getD j []))).map bS))).length=st.length:=XA;generalize st.set g (.lst ((A.set k (Mx.gm (A.getD k []) (-q) (A.getD j []))).map bS))=st1 at l I L⊢;let c:=(l b x).trans B.eb;let e:=(l f (Xp r)).trans B.e2;let t:=(l y (Xp p)).trans B.e3;show aM c rfl (az (aO e) (eV (by lia)) (ko (aM c rfl (az (aO e) (eV (by lia)) ?_))));show⟨_,_,-q,U.getD k [],U.getD j [],rfl,rfl,rfl,by lia,M,?_⟩;show aM c rfl (gK e (by rw[Xk,T];show iX n) ?_);rw[jL];let h:∀m,m≠f->(st1.set f (.lst ((U.set k (Mx.gm (U.getD k []) (-q) (U.getD j []))).map bS)))[m]?=st1[m]?:=λm s=>Xq (Xp s);let H:(st1.set f (.lst ((U.set k (Mx.gm (U.getD k []) (-q) (U.getD j []))).map bS)))[f]?=some (.lst ((Mx.bZ U k q j).map bS)):=Xx (Xm.mp e).1;let J:(st1.set f (.lst ((U.set k (Mx.gm (U.getD k []) (-q) (U.getD j []))).map bS))).length=st1.length:=XA;generalize st1.set f (.lst ((U.set k (Mx.gm (U.getD k []) (-q) (U.getD j []))).map bS))=st2 at h H J⊢;let a:=(h b v).trans c;let d:=(h y (Xp o)).trans t;show aM a rfl (az (aO d) (eV (by lia)) (aM a rfl (az (aO d) (eV (by lia)) ?_)));show⟨_,_,q,C.getD j [],C.getD k [],rfl,rfl,rfl,by lia,O,?_⟩;show aM a rfl (gK d (by rw[Xk,V];show iX z) ?_);rw[jL];let Y:C.set j (Mx.gm (C.getD j []) q (C.getD k []))=Mx.bZ C j (-q) k:=by unfold Mx.bZ;rw[Int.neg_neg]
 rw[Y];show X _ ⟨?_,?_,?_,?_,r,p,o⟩ (by rw[XA];lia) λm S R Q=>?_
 . rw[Xq (Xp u)];show a
 . rw[Xq (Xp p),h _ r];show I
 . rw[Xq (Xp o)];show H
 . show Xx (Xm.mp d).1
 . rw[Xq (Xp Q),h m R,l m S]
def mD:bV:=λf st K=>∃(b e c d N w k o:Nat) (A U C:List (List Int)),f=[.ref b,.int k,.int o]/\Bn st b e c d A U C/\Mx.dk N w A/\Mx.dk N N U/\Mx.dk N N C/\k<N/\o<N/\
 ∀a,Bn a b st.length (st.length+1) (st.length+2) (Mx.cx A k o) (Mx.cx U k o) (Mx.cx C k o)->a.length=st.length+3->(∀m,m<st.length->m≠b->a[m]?=st[m]?)->K .au a
def mI:List Str:=["self","k","other"]
def xU:DS:=(ay (fy aH "body" (aa 0) (aB lJ (ae (bO aH "body" (aa 0)) (ae (aa 1) (ae (aa 2) ai)))))
 (ay (fy aH "turn" (aa 0) (aB lJ (ae (bO aH "turn" (aa 0)) (ae (aa 1) (ae (aa 2) ai)))))
 (fy aH "back_columns" (aa 0) (aB lJ (ae (bO aH "back_columns" (aa 0)) (ae (aa 1) (ae (aa 2) ai)))))))
def wa:Xh mD 3 xU mI:=by
 rintro T st K ⟨b,p,g,a,N,w,k,o,A,U,C,rfl,B,L,I,J,S,R,E⟩;show⟨rfl,?_⟩;let Q:=L.len;let O:=I.len;let P:=J.len;let M:=ni B.eb B.e1;let s:=ni B.eb B.e2;let n:=ni B.eb B.e3;let H:b<st.length:=(Xm.mp B.eb).1;let F:g<st.length:=(Xm.mp B.e2).1;let G:a<st.length:=(Xm.mp B.e3).1;show aM B.eb rfl ?_;show⟨p,k,o,A,rfl,B.e1,by lia,by lia,?_⟩;let d:(st++[Cell.lst ((Mx.cx A k o).map bS)])[b]?=some (.ins aH [("body",.ref p),("turn",.ref g),("back_columns",.ref a)]):=by rw[Xs H];show B.eb
 show dD d (by simp) ?_;let h:putD "body" (.ref st.length) [("body",.ref p),("turn",.ref g),("back_columns",.ref a)]=([("body",.ref st.length),("turn",.ref g),("back_columns",.ref a)]:List (Str×D)):=rfl;rw[h];generalize f:(st++[Cell.lst ((Mx.cx A k o).map bS)]).set b (.ins aH [("body",.ref st.length),("turn",.ref g),("back_columns",.ref a)])=st1;let u:st1.length=st.length+1:=by rw[<-f];simp
 let r:∀m,m<st.length->m≠b->st1[m]?=st[m]?:=λm l c=>by rw[<-f,Xq (Xp c),Xs l]
 let x:st1[b]?=some (.ins aH [("body",.ref st.length),("turn",.ref g),("back_columns",.ref a)]):=by rw[<-f,Xx (by simp;lia)]
 let y:st1[st.length]?=some (.lst ((Mx.cx A k o).map bS)):=by rw[<-f,Xq (by lia)];simp
 clear f d;show aM x rfl ?_;show⟨g,k,o,U,rfl,(r g F (Xp s)).trans B.e2,by lia,by lia,?_⟩;let d:(st1++[Cell.lst ((Mx.cx U k o).map bS)])[b]?=some (.ins aH [("body",.ref st.length),("turn",.ref g),("back_columns",.ref a)]):=by rw[Xs (by lia)];show x
 show dD d (by simp) ?_;let h:putD "turn" (.ref st1.length) [("body",.ref st.length),("turn",.ref g),("back_columns",.ref a)]=([("body",.ref st.length),("turn",.ref st1.length),("back_columns",.ref a)]:List (Str×D)):=rfl;rw[h];generalize e:(st1++[Cell.lst ((Mx.cx U k o).map bS)]).set b (.ins aH [("body",.ref st.length),("turn",.ref st1.length),("back_columns",.ref a)])=st2;let z:st2.length=st.length+2:=by rw[<-e];simp;lia
 let q:∀m,m<st1.length->m≠b->st2[m]?=st1[m]?:=λm l c=>by rw[<-e,Xq (Xp c),Xs l]
 let v:st2[b]?=some (.ins aH [("body",.ref st.length),("turn",.ref st1.length),("back_columns",.ref a)]):=by rw[<-e,Xx (by simp;lia)]
 let t:st2[st1.length]?=some (.lst ((Mx.cx U k o).map bS)):=by rw[<-e,Xq (by lia)];simp
 clear e d;show aM v rfl ?_;show⟨a,k,o,C,rfl,((q a (by lia) (Xp n)).trans (r a G (Xp n))).trans B.e3,by lia,by lia,?_⟩;let d:(st2++[Cell.lst ((Mx.cx C k o).map bS)])[b]?=some (.ins aH [("body",.ref st.length),("turn",.ref st1.length),("back_columns",.ref a)]):=by rw[Xs (by lia)];show v
 show dD d (by simp) ?_;let h:putD "back_columns" (.ref st2.length) [("body",.ref st.length),("turn",.ref st1.length),("back_columns",.ref a)]=([("body",.ref st.length),("turn",.ref st1.length),("back_columns",.ref st2.length)]:List (Str×D)):=rfl;rw[h];show E _ ⟨?_,?_,?_,?_,by lia,by lia,by lia⟩ (by simp;lia) λm l c=>?_
 . rw[Xx (by simp;lia),u,z]
 . rw[Xq (by lia),Xs (by lia),q _ (by lia) (by lia)];show y
 . rw[Xq (by lia),Xs (by lia)];rw[u]at t;show t
 . rw[Xq (by lia)];rw[show st.length+2=st2.length by lia];simp
 . rw[Xq (Xp c),Xs (by lia),q m (by lia) c,r m l c]
def jQ:bV:=λf st K=>∃(b e c d N w k:Nat) (A U C:List (List Int)),f=[.ref b,.int k]/\Bn st b e c d A U C/\Mx.dk N w A/\Mx.dk N N U/\Mx.dk N N C/\k<N/\N<=8/\w<=9/\
 ∀a,Bn a b e c d (Mx.i6 A k) (Mx.i6 U k) (Mx.i6 C k)->a.length=st.length->(∀m,m≠e->m≠c->m≠d->a[m]?=st[m]?)->K .au a
def jV:List Str:=["self","k"]
def ui:DS:=(ay (d9 (bO aH "body" (aa 0)) (aa 1) (aB oP (ae (aj aJ (bO aH "body" (aa 0)) (aa 1)) ai)))
 (ay (d9 (bO aH "turn" (aa 0)) (aa 1) (aB oP (ae (aj aJ (bO aH "turn" (aa 0)) (aa 1)) ai)))
 (d9 (bO aH "back_columns" (aa 0)) (aa 1) (aB oP (ae (aj aJ (bO aH "back_columns" (aa 0)) (aa 1)) ai)))))
def tx:Xh jQ 2 ui jV:=by
 rintro Y st K ⟨b,g,a,y,N,w,k,A,U,C,rfl,B,F,z,E,h,X,W,S⟩;show⟨rfl,?_⟩;let R:=F.len;let P:=z.len;let Q:=E.len;let V:=Mx.dE F h;let rU:=Mx.dE z h;let T:=Mx.dE E h;let v:=ni B.eb B.e1;let u:=ni B.eb B.e2;let t:=ni B.eb B.e3;let q:=B.n1;let p:=B.n2;let o:=B.n3;show aM B.eb rfl (az (aO B.e1) (eV (by lia)) ?_);show⟨_,A.getD k [],rfl,rfl,by lia,?_⟩;show aM B.eb rfl (gK B.e1 (by rw[Xk,R];show iX h) ?_);rw[jL];let n:∀m,m≠g->(st.set g (.lst ((A.set k ((A.getD k []).map λx=> -x)).map bS)))[m]?=st[m]?:=λm r=>Xq (Xp r);let H:(st.set g (.lst ((A.set k ((A.getD k []).map λx=> -x)).map bS)))[g]?=some (.lst ((Mx.i6 A k).map bS)):=Xx (Xm.mp B.e1).1;let J:(st.set g (.lst ((A.set k ((A.getD k []).map λx=> -x)).map bS))).length=st.length:=XA;generalize st.set g (.lst ((A.set k ((A.getD k []).map λx=> -x)).map bS))=st1 at n H J⊢;let d:=(n b v).trans B.eb;let f:=(n a (Xp q)).trans B.e2;let s:=(n y (Xp p)).trans B.e3;show aM d rfl (az (aO f) (eV (by lia)) ?_);show⟨_,U.getD k [],rfl,rfl,by lia,?_⟩;show aM d rfl (gK f (by rw[Xk,P];show iX h) ?_);rw[jL];let l:∀m,m≠a->(st1.set a (.lst ((U.set k ((U.getD k []).map λx=> -x)).map bS)))[m]?=st1[m]?:=λm r=>Xq (Xp r);let G:(st1.set a (.lst ((U.set k ((U.getD k []).map λx=> -x)).map bS)))[a]?=some (.lst ((Mx.i6 U k).map bS)):=Xx (Xm.mp f).1;let I:(st1.set a (.lst ((U.set k ((U.getD k []).map λx=> -x)).map bS))).length=st1.length:=XA;generalize st1.set a (.lst ((U.set k ((U.getD k []).map λx=> -x)).map bS))=st2 at l G I⊢;let c:=(l b u).trans d;let e:=(l y (Xp o)).trans s;show aM c rfl (az (aO e) (eV (by lia)) ?_);show⟨_,C.getD k [],rfl,rfl,by lia,?_⟩;show aM c rfl (gK e (by rw[Xk,Q];show iX h) ?_);rw[jL];show S _ ⟨?_,?_,?_,?_,q,p,o⟩ (by rw[XA];lia) λm O M L=>?_
 . rw[Xq (Xp t)];show c
 . rw[Xq (Xp p),l _ q];show H
 . rw[Xq (Xp o)];show G
 . show Xx (Xm.mp e).1
 . rw[Xq (Xp L),l m M,n m O]
def iO:bV:=λe st K=>∃(b d a c N w top p:Nat) (A U C:List (List Int)) (f:Bool),e=[.ref b,.int top,.int p]/\Bn st b d a c A U C/\Mx.dk N w A/\top<=N/\N<=8/\p<w/\w<=9/\st[0]?=some (gY f)/\
 ∀L,Mx.mX A N top p L->K (.lst (L.map λ(k:Nat)=> .int (k:Int))) (st.set 0 (gY true))
def lB:List Str:=["self","top","place","live"]
def wo:DS:=(ay (aL 3 (dX (pH (ae (aa 1) (ae (ck dY (ae (bO aH "body" (aa 0)) ai)) ai))) [none,some 0,some 2] (cB 0) (aV (aj nB (aj aJ (aj aJ (bO aH "body" (aa 1)) (aa 0)) (aa 2)) (dC (.int 0)))) (aa 0)))
 (aU (Eg 0 166 ⟨84,32,84,66⟩ "Bench.live_rows.<locals>.<lambda>" [none,some 0,some 2] (ck uF (ae (aj aJ (aj aJ (bO aH "body" (aa 1)) (aa 0)) (aa 2)) ai)) (aa 3))))
def yK{a b:Prop}(h:b):if false=true then a else b:=h
def Qk{st:ag}(a:st[b]?=some (Cell.ins C fs))(c:st[0]?=some (gY f)):b≠0:=λz=>by rw[z,c]at a;cases a
def vC{st:ag}(a:st[b]?=some (Cell.lst c))(d:st[0]?=some (gY f)):b≠0:=λz=>by rw[z,d]at a;cases a
def Bn.keep{st a:ag}{b e c d:Nat}(B:Bn st b e c d A U C)(h:∀m,m=b\/m=e\/m=c\/m=d->a[m]?=st[m]?):Bn a b e c d A U C:=
 ⟨(h b (.inl rfl)).trans B.eb,(h e (.inr (.inl rfl))).trans B.e1,(h c (.inr (.inr (.inl rfl)))).trans B.e2,(h d (.inr (.inr (.inr rfl)))).trans B.e3,B.n1,B.n2,B.n3⟩
def Bn.tab{st:ag}{b e a d:Nat}(B:Bn st b e a d A U C)(h:st[0]?=some (gY f))(c:Cell):Bn (st.set 0 c) b e a d A U C:=
 B.keep λm g=>Xq λz=>by
  subst z;rcases g with rfl|rfl|rfl|rfl
  . show Qk B.eb h rfl
  . show vC B.e1 h rfl
  . show vC B.e2 h rfl
  . show vC B.e3 h rfl
def qz{r:List Int}{k:Nat}(h:k<r.length):eP (ao r) (k:Int)=some (.int (r.getD k 0)):=by
 show gc ?_;unfold ao;rw[XB,Xv h,Mx.aN h];rfl
def gz(A:List (List Int))(N top p:Nat):List Nat:=(List.range (N-top)).filterMap λi=>if Mx.g A (top+i) p≠0 then some (top+i)else none
def AH{N top p k:Nat}:k∈gz A N top p↔top<=k/\k<N/\Mx.g A k p≠0:=by
 unfold gz;rw[aam];constructor
 . rintro⟨i,a,e⟩;rw[YM]at a;split at e
   . rename_i h;cases e;show⟨by lia,by lia,h⟩
   . cases e
 . rintro⟨d,c,b⟩;show⟨k-top,YM.mpr (by lia),?_⟩;rw[show top+(k-top)=k by lia,Xr b]
def pw_filterMap{f:Nat->Option Nat}(h:∀i j a b,i<j->f i=some a->f j=some b->a<b):∀ {l:List Nat},l.Pairwise (· < ·)->(l.filterMap f).Pairwise (· < ·)
 | [],_=>by simp
 |x::l,d=>by
  obtain⟨m,c⟩:=aa6.mp d;rw[aag];split
  . show pw_filterMap h c
  . rename_i a e;show aa6.mpr ⟨λb k=>?_,pw_filterMap h c⟩;obtain⟨j,g,n⟩:=aam.mp k;show h x j a b (m j g) e n
def pw_liveR{N top p:Nat}:(gz A N top p).Pairwise (· < ·):=by
 unfold gz;show pw_filterMap (λi j a b e d c=>?_) abK;split at d
 . split at c
   . cases d;cases c;lia
   . cases c
 . cases d
def Bv{f:Nat->Option Nat}(l:List Nat):(l.filterMap f).length<=l.length:=List.length_filterMap_le ..
def OG{N top p:Nat}{b:List (Int×Int)}(c:b.Perm (((gz A N top p).map λ(k:Nat)=>(((Mx.g A k p).natAbs:Nat):Int)).zip ((gz A N top p).map λ(k:Nat)=>(k:Int))))(n:b.Pairwise slt):
 Mx.mX A N top p (b.map λq=>q.2.toNat)/\b.map (λq=>D.int q.2)=(b.map λq=>q.2.toNat).map λ(k:Nat)=>D.int (k:Int):=by
 let g:((gz A N top p).map λ(k:Nat)=>(((Mx.g A k p).natAbs:Nat):Int)).zip ((gz A N top p).map λ(k:Nat)=>(k:Int))=(gz A N top p).map λk=>((((Mx.g A k p).natAbs:Nat):Int),(k:Int)):=by
  show List.zip_map' ..
 rw[g]at c
 let d:∀q∈b,∃k,k∈gz A N top p/\q=((((Mx.g A k p).natAbs:Nat):Int),(k:Int)):=λq a=>by
  obtain⟨k,f,o⟩:=X5.mp (c.mem_iff.mp a);show⟨k,f,o.symm⟩
 show⟨⟨λk=>?_,?_,?_⟩,?_⟩
 . rw[<-AH];constructor
   . intro h;obtain⟨q,a,e⟩:=X5.mp h;obtain⟨j,f,rfl⟩:=d q a;simp![XX]at e;rw[<-e];show f
   . intro h;show X5.mpr ⟨((((Mx.g A k p).natAbs:Nat):Int),(k:Int)),c.mem_iff.mpr (X5.mpr ⟨k,h,rfl⟩),by simp⟩
 . rw[aaA];show n.imp_of_mem λ{x y} m l h=>?_;obtain⟨j,_,rfl⟩:=d x m;obtain⟨k,_,rfl⟩:=d y l;unfold slt at h;simp![XX];lia
 . have e:((gz A N top p).map λk=>((((Mx.g A k p).natAbs:Nat):Int),(k:Int))).map (λq=>q.2.toNat)=gz A N top p:=by
    rw[Yk];show(Zd λk _=>XX k).trans (List.map_id _)
   let a:=c.map λq=>q.2.toNat;rw[e]at a;show a.nodup_iff.mpr (pw_liveR.imp λh=>XU h)
 . rw[Yk];show Zd λq a=>?_;obtain⟨j,_,rfl⟩:=d q a;simp
def vk:Xh iO 3 wo lB:=by
 rintro Z st K ⟨b,R,P,Q,N,w,top,p,A,U,C,f,rfl,B,u,X,Y,t,W,v,k⟩;show⟨rfl,?_⟩;let F:=u.len;let a:∀i,i<N->(A.getD i []).length=w:=λi s=>Mx.dE u s;show aM B.eb rfl (cK (aO B.e1) ?_);rw[Xk,F];show zN ⟨by lia,by lia,by lia,by lia⟩ ⟨cL (by unfold dS;simp;lia),?_⟩;let M:((N:Int)-(top:Int)).toNat=N-top:=by lia
 rw[M];show iz (λrest g c=>∃i:Nat,i<=N-top/\c=st/\rest=(List.range (N-top-i)).map (λj=>D.int ((top+i+j:Nat):Int))/\g=((List.range i).filterMap λi=>if Mx.g A (top+i) p≠0 then some (top+i)else none).map λ(k:Nat)=>D.int (k:Int)) ?_ ?_ _ _ _ ⟨0,XY _,rfl,by unfold dS;simp,by simp⟩
 . rintro g c ⟨i,s,rfl,e,rfl⟩
   let r:i=N-top:=by
    rcases ZC i (N-top)with z|z
    . rw[show N-top-i=(N-top-i-1)+1 by lia,Y1]at e;cases e
    . lia
   subst r;show⟨trivial,?_⟩;let O:((gz A N top p).map λ(k:Nat)=>D.int (k:Int))=((gz A N top p).map λ(k:Nat)=>(k:Int)).map D.int:=by rw[Yk];rfl
   show⟨(gz A N top p).map λ(k:Nat)=>(k:Int),(gz A N top p).map λ(k:Nat)=>(((Mx.g A k p).natAbs:Nat):Int),f,YQ D.lst O,?_,?_,by rw[Xk,Xk],v,λi n q l m=>?_,λS o H=>?_⟩
   . rw[Xk];let:=Bv (f:=λi=>if Mx.g A (top+i) p≠0 then some (top+i)else none) (List.range (N-top));rw[ZS]at this;change(gz A N top p).length<64;unfold gz;lia
   . rw[aaA];show pw_liveR.imp λh=>by lia
   . rw[XB]at l m;cases z:(gz A N top p)[i]? with
     |none=>rw[z]at l;cases l
     |some j=>
      rw[z]at l m;cases l;cases m;obtain⟨V,G,T⟩:=AH.mp (XO z);let E:=B.tab v (gY true);show aM E.eb rfl (az (aO E.e1) (eV (by lia)) (az rfl (qz (by rw[a j G];show t)) (yA ⟨rfl,rfl⟩)))
   . obtain⟨L,J⟩:=OG o H;rw[J];show k _ L
 . rintro d rest g c ⟨i,s,rfl,e,rfl⟩ next
   let I:i<N-top:=by
    rcases ZC i (N-top)with z|z
    . show z
    . rw[show N-top-i=0 by lia]at e;cases e
   rw[show N-top-i=(N-top-i-1)+1 by lia,Y1,Ye,Yk]at e;obtain⟨rfl,rfl⟩:=abb e;show⟨trivial,_,rfl,?_⟩;show aM B.eb rfl (az (aO B.e1) (eV (j:=top+i+0) (by lia)) (az rfl (qz (by rw[a _ (by lia)];show t)) ?_));let y:List.range (i+1)=List.range i++[i]:=aal
   let x:((List.range (N-top-i-1)).map ((λj=>D.int ((top+i+j:Nat):Int))∘Nat.succ))=(List.range (N-top-(i+1))).map λj=>D.int ((top+(i+1)+j:Nat):Int):=by
    rw[show N-top-i-1=N-top-(i+1) by lia];show Zd λj _=>?_;change D.int ((top+i+(j+1):Nat):Int)=_;rw[show top+i+(j+1)=top+(i+1)+j by lia]
   show ne2 (λh=>?_) λh=>?_
   . show(next _ _ ⟨i+1,by lia,rfl,x,?_⟩);rw[y,abU,YS];let:Mx.g A (top+i) p≠0:=h;simp[this]
   . show(next _ _ ⟨i+1,by lia,rfl,x,?_⟩);rw[y,abU,YS];let:Mx.g A (top+i) p=0:=h;simp[this]
structure Bo(n0:Nat)(st st':ag)(b xb xu xc:Nat):Prop where
 lo:1<=n0/\n0<=b/\n0<=xb/\n0<=xu/\n0<=xc
 fr:∀m,m<n0->m≠0->st'[m]?=st[m]?
 tb:∃f,st'[0]?=some (gY f)
def nR:bV:=λn st K=>∃(m b l h k N w top p e u:Nat) (A0 A U C:List (List Int)) (ld:Nat->Nat),n=[.ref b,.int top,.int p]/\Bn st b l h k A U C/\Bo m st st b l h k/\Mx.h_ A0 N w ⟨A,U,C⟩ top p ld e u/\N<=8/\w<=9/\p<w/\(N-top+1)*(e+1)<=60000000/\
 (∀a,Bn a b l h k A U C->Bo m st a b l h k->Mx.mX A N top p []->K (.bl false) a)/\
 ∀a g d f (c:Mx.B3) (r:Nat),Bn a b g d f (Mx.setB c p top r).A (Mx.setB c p top r).U (Mx.setB c p top r).C->Bo m st a b g d f->Mx.iV N top p ⟨A,U,C⟩ c->Mx.mX c.A N top p [r]->top<N->
  Mx.mG A0 N w top p (2^((N-top+1)*(e+1))) ⟨A,U,C⟩ (Mx.setB c p top r)->K (.bl true) a
def nO:List Str:=["self","top","place","live","great","small"]
def zJ:DS:=(ay (aL 3 (cE aH "live_rows" iO (aa 0) (ae (aa 1) (ae (aa 2) ai))))
 (ay (m6 (aV (aj tZ (ck dY (ae (aa 3) ai)) (dC (.int 1)))) (ay (aL 4 (aj aJ (aa 3) (qV lD (dC (.int 1)))))
 (ay (aL 5 (aj aJ (aa 3) (qV lD (dC (.int 2)))))
 (ay (gf (cE aH "take" mY (aa 0) (ae (aa 4) (ae (aB kh (ae (aj aJ (aj aJ (bO aH "body" (aa 0)) (aa 4)) (aa 2)) (ae (aj aJ (aj aJ (bO aH "body" (aa 0)) (aa 5)) (aa 2)) ai))) (ae (aa 5) ai)))))
 (aL 3 (cE aH "live_rows" iO (aa 0) (ae (aa 1) (ae (aa 2) ai))))))))
 (ay (di (aV (aj jx (ck dY (ae (aa 3) ai)) (dC (.int 0)))) (aU (dC (.bl false))) cJ)
 (ay (gf (cE aH "exchange" mD (aa 0) (ae (aa 1) (ae (aj aJ (aa 3) (dC (.int 0))) ai))))
 (ay (di (aV (aj qQ (aj aJ (aj aJ (bO aH "body" (aa 0)) (aa 1)) (aa 2)) (dC (.int 0)))) (gf (cE aH "change_sign" jQ (aa 0) (ae (aa 1) ai))) cJ)
 (aU (dC (.bl true))))))))
def Bo.QI{k:Nat}{st a:ag}{b g c d:Nat}(h:Bo k st a b g c d):Bo k st (a.set 0 (gY true)) b g c d:=
 ⟨h.lo,λm n l=>by rw[Xq (Xp l)];show h.fr m n l,true,by
  obtain⟨f,e⟩:=h.tb;show Xx (Xm.mp e).1⟩
def Bo.low{st c a:ag}{b k d g:Nat}(h:Bo l st c b k d g)(f:∀m,m≠k->m≠d->m≠g->a[m]?=c[m]?):Bo l st a b k d g:=by
 obtain⟨t,s,r,q,p⟩:=h.lo;show⟨h.lo,λm n o=>?_,?_⟩
 . rw[f m (by lia) (by lia) (by lia)];show h.fr m n o
 . obtain⟨z,e⟩:=h.tb;show⟨z,by rw[f 0 (by lia) (by lia) (by lia)];show e⟩
def zI{X:List (List Int)}{N w top m i:Nat}(f:Mx.dk N w X)(h:Mx.gI X N top m)(b:top<=i)(e:i<N):∀x∈X.getD i [],x.natAbs<=m:=λx a=>by
 obtain⟨c,d,rfl⟩:=X8.mp a;let:=h i c b e;unfold Mx.g at this;rwa [Mx.aN d]at this
def Dc{n j:Nat}(h:1<=j)(a:j<=n):ke n (-(j:Int))=some (n-j):=by
 unfold ke;rw[Xn (by lia),Xr (by lia)];congr 1;lia
def TH{j k:Nat}:eP ((L++[j,k]).map λ(k:Nat)=>D.int (k:Int)) (-1)=some (.int (k:Int)):=by
 unfold eP;let:=Dc (n:=((L++[j,k]).map λ(k:Nat)=>D.int (k:Int)).length) (j:=1) (by decide) (by simp);rw[show(-((1:Nat):Int))= -1 from rfl]at this;rw[this];simp
def TC{j k:Nat}:eP ((L++[j,k]).map λ(k:Nat)=>D.int (k:Int)) (-2)=some (.int (j:Int)):=by
 unfold eP;let:=Dc (n:=((L++[j,k]).map λ(k:Nat)=>D.int (k:Int)).length) (j:=2) (by decide) (by simp);rw[show(-((2:Nat):Int))= -2 from rfl]at this;rw[this];simp
def Mf:∀ {L:List Nat},1<L.length->∃M j k,L=M++[j,k]:=λ{L} h=>by
 show⟨L.take (L.length-2),L[L.length-2]'(by lia),L[L.length-1]'(by lia),?_⟩;let b:L=L.take (L.length-2)++L.drop (L.length-2):=(List.take_append_drop _ _).symm
 let a:L.drop (L.length-2)=[L[L.length-2]'(by lia),L[L.length-1]'(by lia)]:=by
  rw[XN (by lia),XN (by lia),Zj (by lia)];congr 2;congr 1;lia
 rw[<-a];show b
def yE:Xh nR 3 zJ nO:=by
 rintro ds st K ⟨n0,b,y,t,v,N,w,top,p,e,u,A0,A,U,C,ld,rfl,B,O,S,hN,hw,R,hz,kf,kt⟩;show⟨rfl,?_⟩;let Z:=S.le;obtain⟨f,h0⟩:=O.tb;show cS B.eb rfl ?_;show⟨b,y,t,v,N,w,top,p,A,U,C,f,rfl,B,S.tn.isA,Z,hN,R,hw,h0,λL d=>?_⟩;let B1:=B.tab h0 (gY true);let O1:=O.QI;try dsimp only[ai]
 show zS (λσ n=>∃(L:List Nat) (P J:Option D) (c:Mx.B3) (o:Nat),σ=[some (.ref b),some (.int top),some (.int p),some (.lst (L.map λ(k:Nat)=> .int (k:Int))),P,J]/\L.length<=1/\Bn n b y t v c.A c.U c.C/\Bo n0 st n b y t v/\Mx.iV N top p ⟨A,U,C⟩ c/\Mx.se A0 N w top p (2^e) ⟨A,U,C⟩ c o/\Mx.mX c.A N top p L) (λnx ar=>?_) ?_
 . show⟨λm σ n=>∃(L:List Nat) (P J:Option D) (c:Mx.B3) (o:Nat),σ=[some (.ref b),some (.int top),some (.int p),some (.lst (L.map λ(k:Nat)=> .int (k:Int))),P,J]/\Bn n b y t v c.A c.U c.C/\Bo n0 st n b y t v/\Mx.iV N top p ⟨A,U,C⟩ c/\Mx.se A0 N w top p (2^e) ⟨A,U,C⟩ c o/\Mx.mX c.A N top p L/\m=Mx.mu c.A N p,⟨_,L,none,none,⟨A,U,C⟩,1,rfl,B1,O1,.refl _,S.Ks,d,rfl⟩,?_⟩;rintro m σ g ⟨L,P,J,c,o,rfl,B,O,hR,l,d,rfl⟩;show cK rfl ?_;rw[Xk];show Q8 (λh=>du ?_) λh=>yK (ar _ _ ⟨L,P,J,c,o,rfl,by lia,B,O,hR,l,d⟩);obtain⟨M,j,k,rfl⟩:=Mf (L:=L) (by lia);show ko (az rfl TH (ko (az rfl TC ?_)));obtain⟨G2,Y,W,k1,k2,j1,j2,a6,au⟩:=l.step R d;let T:=l.tn;let lA:=T.isA.len;let a:=G2.low S.lo.1;show cS B.eb rfl (aM B.eb rfl (az (aO B.e1) (eV (by lia)) (az rfl (qz (by rw[Mx.dE T.isA k2];show R)) (aM B.eb rfl (az (aO B.e1) (eV (by lia)) (az rfl (qz (by rw[Mx.dE T.isA j2];show R)) ?_))))));show⟨_,_,rfl,au,?_⟩
   let hq:(Mx.qn (Mx.g c.A k p) (Mx.g c.A j p)).natAbs<=2^((N-top+1)*(e+1)):=by
    show Xu ?_ a;let a1:=l.pos;let a2:1<=2^e:=ZO;let a3:1*(Mx.qn (Mx.g c.A k p) (Mx.g c.A j p)).natAbs<=o*(1+(Mx.qn (Mx.g c.A k p) (Mx.g c.A j p)).natAbs):=X6 a1 (by lia);let a4:=X6 a2 a3;lia
   let F:2^e*o<=2^((N-top+1)*(e+1)):=l.low S.lo.1
   let X:∀ {x:Int},x.natAbs<=2^e*o->IntMulOk (Mx.qn (Mx.g c.A k p) (Mx.g c.A j p)) x/\IntMulOk (-(Mx.qn (Mx.g c.A k p) (Mx.g c.A j p))) x:=λ{x} h=>
    ⟨fo hq (Xu h F) (by lia),fo (by rw[YX];show hq) (Xu h F) (by lia)⟩
   show⟨b,y,t,v,N,w,k,j,c.A,c.U,c.C,_,rfl,B,T.isA,T.fw,T.gX,k2,j2,hN,hw,λx F=>(X (zI T.isA l.lA j1 j2 x F)).2,λx F=>(X (zI T.fw l.lU j1 j2 x F)).2,λx F=>(X (zI T.gX l.lC k1 k2 x F)).1,λG s l2 f2=>?_⟩;let O2:=O.low f2;obtain⟨f',ab⟩:=O2.tb;show cS s.eb rfl ?_;show⟨b,y,t,v,N,w,top,p,_,_,_,f',rfl,s,G2.tn.isA,Z,hN,R,hw,ab,λL2 aK=>?_⟩;show⟨_,?_,L2,_,_,Mx.nc c p k j,_,rfl,s.tab ab (gY true),O2.QI,hR.tail ⟨M,k,j,d,rfl⟩,G2,aK,rfl⟩;unfold Mx.mu;show Mx.NZ (k:=k) Y k2 λi hi=>?_;by_cases h:i=k
   . rw[h];show YH Y
   . rw[W i h];show Xl _
 . rintro σ g ⟨L,P,J,c,o,rfl,hl,B,O,hR,l,d⟩;show cK rfl ?_;rw[Xk];match L,hl,d with
   | [],_,d=>
     show eq2 (λh=>du ?_) λh=>absurd rfl h
     let e0:c=⟨A,U,C⟩:=by
      rcases l.Ul with z|⟨j,I,H,h3⟩
      . show z
      . show absurd ((d.mem j).mpr ⟨I,H,h3⟩) (by simp)
     subst e0;show kf g B O d
   | [r],_,d=>
     show eq2 (λh=>absurd h (by simp)) λh=>yK ?_;obtain⟨E,a5,V⟩:=l.set d;let Q:top<N:=by lia
     let T:=l.tn
     let s2:Mx.mG A0 N w top p (2^((N-top+1)*(e+1))) ⟨A,U,C⟩ (Mx.setB c p top r):=by
      let a:=l.low S.lo.1;show⟨E.tn,E.up,⟨λi q I H=>Xu (E.lo.1 i q I H) a,λi q I H=>Xu (E.lo.2.1 i q I H) a,λi q I H=>Xu (E.lo.2.2 i q I H) a⟩,E.zs,E.tp,E.z1⟩
     show cS B.eb rfl (az rfl (show eP ([r].map λ(k:Nat)=>D.int (k:Int)) 0=some (.int (r:Int))from rfl) ?_);show⟨b,y,t,v,N,w,top,r,c.A,c.U,c.C,rfl,B,T.isA,T.fw,T.gX,Q,V,λG s l2 f2=>?_⟩;obtain⟨l1,aq,l3,l4,l5⟩:=O.lo
     let a0:n0<=g.length:=by
      let:=(Xm.mp B.eb).1;lia
     let O2:Bo n0 st G b g.length (g.length+1) (g.length+2):=by
      show⟨⟨l1,aq,by lia,by lia,by lia⟩,λm X h0=>?_,?_⟩
      . rw[f2 m (by lia) (by lia)];show O.fr m X h0
      . obtain⟨z,e⟩:=O.tb;show⟨z,by rw[f2 0 (by lia) (by lia)];show e⟩
     let T1:=T.N7 Q V;show aM s.eb rfl (az (aO s.e1) (eV (by let:=T1.isA.len;lia)) (az rfl (qz (by rw[Mx.dE T1.isA Q];show R)) ?_));show KO (λh=>du ?_) λh=>yK ?_
     . have es:Mx.setB c p top r=⟨Mx.i6 (Mx.cx c.A top r) top,Mx.i6 (Mx.cx c.U top r) top,Mx.i6 (Mx.cx c.C top r) top⟩:=Xr h;show cS s.eb rfl ?_;show⟨b,_,_,_,N,w,top,_,_,_,rfl,s,T1.isA,T1.fw,T1.gX,Q,hN,hw,λah B3 l3 f3=>?_⟩;show kt ah _ _ _ c r (by rw[es];show B3) (O2.low f3) hR d Q s2
     . have es:Mx.setB c p top r=⟨Mx.cx c.A top r,Mx.cx c.U top r,Mx.cx c.C top r⟩:=Xn (λz=>by unfold Mx.g at z;lia);show kt G _ _ _ c r (by rw[es];show s) O2 hR d Q s2
def jU:bV:=λg st K=>∃(b f c d N w top p e u:Nat) (A0 A U C:List (List Int)),g=[.ref b,.int top,.int p]/\Bn st b f c d A U C/\Mx.Tn A0 A U C N w/\N<=8/\w<=9/\p<w/\top<N/\0<Mx.g A top p/\(∀q,q<p->Mx.g A top q=0)/\
 (∀q,(Mx.g A top q).natAbs<=2^e/\(Mx.g U top q).natAbs<=2^e/\(Mx.g C top q).natAbs<=2^e)/\(∀i q,i<top->(Mx.g A i q).natAbs<=2^u/\(Mx.g U i q).natAbs<=2^u/\(Mx.g C i q).natAbs<=2^u)/\e<=60000000/\u<=60000000/\
 ∀a,Bn a b f c d (Mx.nK p top top ⟨A,U,C⟩).A (Mx.nK p top top ⟨A,U,C⟩).U (Mx.nK p top top ⟨A,U,C⟩).C->(∀m,m≠f->m≠c->m≠d->a[m]?=st[m]?)->Mx.tM A0 N w top p e u ⟨A,U,C⟩ top (Mx.nK p top top ⟨A,U,C⟩)->K .au a
def jO:List Str:=["self","top","place","k"]
def uf:DS:=(iy (gE (ae (aa 1) ai)) (cB 3) (gf (cE aH "take" mY (aa 0) (ae (aa 3) (ae (aj ki (aj aJ (aj aJ (bO aH "body" (aa 0)) (aa 3)) (aa 2)) (aj aJ (aj aJ (bO aH "body" (aa 0)) (aa 1)) (aa 2))) (ae (aa 1) ai))))))
def Hz{X:List (List Int)}{i:Nat}(a:x∈X.getD i []):∃q,x=Mx.g X i q:=by
 obtain⟨c,b,rfl⟩:=X8.mp a;show⟨c,by unfold Mx.g;rw[Mx.aN b]⟩
def tK:Xh jU 3 uf jO:=by
 rintro ds st K ⟨b,y,t,v,N,w,top,p,e,u,A0,A,U,C,rfl,B,T,Y,V,G,E,o,S,d,h,he,hu,R⟩;show⟨rfl,?_⟩;show jH ⟨by lia,by lia⟩ ?_;rw[XX];show j8 top (λk σ a=>∃z:Option D,σ=[some (.ref b),some (.int top),some (.int p),z]/\Bn a b y t v (Mx.nK p top k ⟨A,U,C⟩).A (Mx.nK p top k ⟨A,U,C⟩).U (Mx.nK p top k ⟨A,U,C⟩).C/\(∀m,m≠y->m≠t->m≠v->a[m]?=st[m]?)/\Mx.tM A0 N w top p e u ⟨A,U,C⟩ k (Mx.nK p top k ⟨A,U,C⟩)) ?_ ?_ ⟨none,rfl,B,λ_ _ _ _=>rfl,Mx.tM.start T λq=>(d q).2.2⟩
 . rintro σ a ⟨z,rfl,g,f,I⟩;show R a g f I
 . rintro k σ a rest H ⟨z,rfl,g,f,I⟩ next
   show⟨_,rfl,?_⟩;let W:=I.step H E G o S (λq=>⟨(d q).1,(d q).2.1⟩) h;generalize X:Mx.nK p top k ⟨A,U,C⟩=c at*;let lA:=I.tn.isA.len;let J:k<N:=by lia
   let s:∀i q,k<=i->Mx.g c.A i q=Mx.g A i q:=λi q r=>by unfold Mx.g;rw[(I.rA i r).1]
   let Z:∀i q,k<=i->Mx.g c.U i q=Mx.g U i q:=λi q r=>by unfold Mx.g;rw[(I.rA i r).2]
   let gC:∀i q,i≠top->Mx.g c.C i q=Mx.g C i q:=λi q r=>by unfold Mx.g;rw[I.rC i r]
   let F:((Mx.g c.A k p).fdiv (Mx.g c.A top p)).natAbs<=2^u:=by
    rw[s k p (Xl _),s top p (by lia)];show Xu (Mx.jg _ o) (h k p H).1
   let n:Mx.g c.A top p≠0:=by rw[s top p (by lia)];lia
   show cS g.eb rfl (aM g.eb rfl (az (aO g.e1) (eV (by lia)) (az rfl (qz (by rw[Mx.dE I.tn.isA J];show G)) (aM g.eb rfl (az (aO g.e1) (eV (by lia)) (az rfl (qz (by rw[Mx.dE I.tn.isA E];show G)) (jf n ?_)))))));show⟨b,y,t,v,N,w,k,top,c.A,c.U,c.C,_,rfl,g,I.tn.isA,I.tn.fw,I.tn.gX,J,E,Y,V,λx l=>?_,λx l=>?_,λx l=>?_,λQ B2 l2 f2=>?_⟩
   . obtain⟨q,rfl⟩:=Hz l;rw[s top q (by lia)];show fo (by rw[YX];show F) (d q).1 (by lia)
   . obtain⟨q,rfl⟩:=Hz l;rw[Z top q (by lia)];show fo (by rw[YX];show F) (d q).2.1 (by lia)
   . obtain⟨q,rfl⟩:=Hz l;rw[gC k q (by lia)];show fo F (h k q H).2.2 (by lia)
   . have P:Mx.nK p top (k+1) ⟨A,U,C⟩=⟨Mx.bZ c.A k ((Mx.g c.A k p).fdiv (Mx.g c.A top p)) top,Mx.bZ c.U k ((Mx.g c.A k p).fdiv (Mx.g c.A top p)) top,Mx.bZ c.C top (-((Mx.g c.A k p).fdiv (Mx.g c.A top p))) k⟩:=by rw[<-X];rfl
     show next _ _ ⟨_,rfl,?_,λm O M L=>(f2 m O M L).trans (f m O M L),?_⟩
     . rw[P];show B2
     . rw[P];show W
structure Bk(st st':ag):Prop where
 le:st.length<=st'.length
 fr:∀m,m<st.length->m≠0->st'[m]?=st[m]?
 tb:∃f,st'[0]?=some (gY f)
def pA:bV:=λb st K=>∃(d:D) (N w e0:Nat) (A:List (List Int)) (f:Bool),b=[d]/\j4 st d A/\Mx.dk N w A/\1<=N/\N<=8/\w<=9/\Mx.gI A N 0 (2^e0)/\(∀t,t<=N->Mx.Ez N e0 t<=50000000/\Mx.Vz N e0 t<=60000000)/\st[0]?=some (gY f)/\
 ∀a (top:Nat) (c:Mx.B3) (ld:Nat->Nat),Mx.rN A N w top c->Mx.h_ A N w c top w ld (Mx.Ez N e0 top) (Mx.Vz N e0 top)->Bk st a->K (.tup [dP (c.A.take top),dP c.U,dP (Mx.i_ c.C N)]) a
def yy:List Str:=["rows","bench","top","place","back"]
def Ia:DS:=(ay (aL 1 (pB aH mw (ae (aa 0) ai)))
 (ay (aL 2 (dC (.int 0)))
 (ay (iy (gE (ae (ck dY (ae (aj aJ (aa 0) (dC (.int 0))) ai)) ai)) (cB 3) (di (aV (cE aH "gather" nR (aa 1) (ae (aa 2) (ae (aa 3) ai)))) (ay (gf (cE aH "lower_above" jU (aa 1) (ae (aa 2) (ae (aa 3) ai))))
 (GV 2 (DH (λi j=>i+j)) (dC (.int 1)))) cJ))
 (ay (aL 4 (aB md (ae (bO aH "back_columns" (aa 1)) (ae (ck dY (ae (aa 0) ai)) ai))))
 (aU (dA (ae (aB qL (ae (iu (bO aH "body" (aa 1)) fW (jZ (aa 2))) ai)) (ae (aB qL (ae (bO aH "turn" (aa 1)) ai)) (ae (aa 4) ai)))))))))
def JQ{a:List D}{j:Nat}:L3.cutD a none (some (j:Int))=a.take j:=by
 unfold L3.cutD;rw[HT.vO,HT.sV,abV,abz];by_cases h:j<=a.length
 . rw[aak h]
 . rw[aaI (by lia),List.take_length,Yu (by lia)]
def vo{st a:ag}(g:st[0]?=some (gY f))(fr:∀m,m<st.length->m≠0->a[m]?=st[m]?)(h:items? st d=some b):items? a d=some b:=by
 cases d with
 |ref n=>
  have e:=J_ h;let c:n≠0:=vC e g;rw[aO ((fr n (Xm.mp e).1 c).trans e)]
 |_=>show h
def AO{st a:ag}(b:st[0]?=some (gY f))(fr:∀m,m<st.length->m≠0->a[m]?=st[m]?):∀ {c:List D} {A:List (List Int)},cV st c A->cV a c A
 | [],[],_=>trivial
 |_::_,_::_,h=>⟨vo b fr h.1,AO b fr h.2⟩
def y0{st a:ag}(b:st[0]?=some (gY f))(fr:∀m,m<st.length->m≠0->a[m]?=st[m]?)(h:j4 st d A):j4 a d A:=by
 obtain⟨g,e,c⟩:=h.ex;show⟨g,vo b fr e,AO b fr c⟩
def Fm:Xh pA 1 Ia yy:=by
 rintro ds st K ⟨d,N,w,b,A,f,rfl,hd,hA,bb,Y,hw,ar,u,h0,kk⟩;show⟨rfl,?_⟩;let lA:=hA.len;let W:0<st.length:=(Xm.mp h0).1;let a4:j4 (st++[Cell.ins aH []]) d A:=y0 h0 (λm M _=>Xs M) hd;show⟨st.length,N,d,A,rfl,by simp,a4,lA,Y,λs B1 l1 f1=>⟨rfl,?_⟩⟩;let au:(st++[Cell.ins aH []]).length=st.length+1:=by simp
 let X:∀m,m<st.length->s[m]?=st[m]?:=λm M=>by rw[f1 m (by lia) (by lia),Xs M]
 let O1:Bo st.length st s st.length (st.length+1) (st.length+1+1) (st.length+1+2):=⟨⟨W,by lia,by lia,by lia,by lia⟩,λm M _=>X m M,f,(X 0 W).trans h0⟩
 rw[au]at B1;let Q:∀ {a:ag},(∀m,m<st.length->m≠0->a[m]?=st[m]?)->j4 a d A:=λh=>y0 h0 h hd;obtain⟨da,a0,L⟩:=(Q O1.fr).ex;let a7:=L.len
 let E:∃d0,da[0]?=some d0/\items? s d0=some (ao (A.getD 0 [])):=by
  let F:0<da.length:=by lia
  obtain⟨r,e1,e2⟩:=cV.get L (Xv F);show⟨da[0],Xv F,?_⟩;let:A.getD 0 []=r:=by rw[Xw,e1];rfl
  rw[this];show e2
 obtain⟨d0,a5,aK⟩:=E;let er:(ao (A.getD 0 [])).length=w:=by unfold ao;rw[Xk];show Mx.dE hA (by lia)
 try dsimp only[ai]
 show zS (A:=aL 2 _) (λσ a=>σ=[some d,some (.ref st.length),some (.int 0),none,none]/\a=s) (λnx h=>h _ _ ⟨rfl,rfl⟩) ?_;rintro _ _ ⟨rfl,rfl⟩;show zS (A:=iy _ _ _) (λσ a=>∃(top l g k:Nat) (C:Option D) (c:Mx.B3) (n:Nat->Nat),σ=[some d,some (.ref st.length),some (.int top),C,none]/\Bn a st.length l g k c.A c.U c.C/\Bo st.length st a st.length l g k/\Mx.rN A N w top c/\Mx.h_ A N w c top w n (Mx.Ez N b top) (Mx.Vz N b top)) (λnx aq=>?_) ?_
 . show az a0 (show eP da 0=some d0 from gc (j:=0) a5) (cK aK ?_);rw[er];show jH ⟨by lia,by lia⟩ ?_;rw[XX];show j8 w (λp σ a=>∃(top l g k:Nat) (C:Option D) (c:Mx.B3) (n:Nat->Nat),σ=[some d,some (.ref st.length),some (.int top),C,none]/\Bn a st.length l g k c.A c.U c.C/\Bo st.length st a st.length l g k/\Mx.rN A N p top c/\Mx.h_ A N w c top p n (Mx.Ez N b top) (Mx.Vz N b top)) ?_ ?_ ⟨0,_,_,_,none,⟨A,Mx.units N,Mx.units N⟩,λ_=>0,rfl,B1,O1,.start,Mx.h_.start hA ar⟩
   . rintro σ a ⟨top,l,g,k,C,c,n,rfl,B,O,H,S⟩;show aq _ _ ⟨top,l,g,k,C,c,n,rfl,B,O,H,S⟩
   . rintro p σ a rest hp ⟨top,l,g,k,C,c,n,rfl,B,O,H,S⟩ next
     show⟨_,rfl,?_⟩;let P:=S.le
     let ab:(N-top+1)*(Mx.Ez N b top+1)<=60000000:=by
      by_cases t:top<N
      . show Xu (u (top+1) t).1 (by decide)
      . have e:N-top=0:=by lia
        rw[e];let:=(u top P).1;lia
     show cS B.eb rfl ?_;show⟨st.length,st.length,l,g,k,N,w,top,p,_,_,A,c.A,c.U,c.C,n,rfl,B,⟨O.lo,λ_ _ _=>rfl,O.tb⟩,S,Y,hw,hp,ab,λo B2 G Z=>?_,λo z x y c2 r B2 G hR Z t v=>?_⟩
     . show yK (next _ _ ⟨top,l,g,k,_,c,n,rfl,B2,⟨G.lo,λm V U=>(G.fr m V U).trans (O.fr m V U),G.tb⟩,.next H (.none Z),S.skip Z⟩)
     . show du ?_;let O2':Bo st.length st o st.length z x y:=⟨G.lo,λm V U=>(G.fr m V U).trans (O.fr m V U),G.tb⟩
       let ah:∀i q,i<top->Mx.g (Mx.setB c2 p top r).A i q=Mx.g c.A i q/\Mx.g (Mx.setB c2 p top r).U i q=Mx.g c.U i q/\Mx.g (Mx.setB c2 p top r).C i q=Mx.g c.C i q:=λi q F=>by
        obtain⟨a1,a2,a3⟩:=v.up i F;unfold Mx.g;rw[a1,a2,a3];show⟨rfl,rfl,rfl⟩
       show cS B2.eb rfl ?_;show⟨st.length,z,x,y,N,w,top,p,Mx.Ez N b (top+1),Mx.Vz N b top,A,_,_,_,rfl,B2,v.tn,Y,hw,hp,t,v.tp,λq hq=>v.zs top q (Xl _) t hq,λq=>⟨v.lo.1 top q (Xl _) t,v.lo.2.1 top q (Xl _) t,v.lo.2.2 top q (Xl _) t⟩,λi q F=>?_,Xu (u (top+1) t).1 (by decide),Xu (u top P).2 (by decide),λa6 B3 f3 I=>?_⟩
       . obtain⟨a1,a2,a3⟩:=ah i q F;rw[a1,a2,a3];show S.hi i q F
       . have hS:=Mx.mG.next (e':=Mx.Ez N b (top+1)) (u':=Mx.Vz N b (top+1)) S v t I Y (by change _<=Mx.Vz N b top+Mx.Vz N b top+Mx.Ez N b (top+1)+5;lia) (by change _<=Mx.Vz N b top+Mx.Vz N b top+Mx.Ez N b (top+1)+5;lia);show next _ _ ⟨top+1,z,x,y,_,_,_,rfl,B3,O2'.low f3,.next H (.one hR Z),hS⟩
 . rintro σ o ⟨top,l,g,k,C,c,n,rfl,B,O,H,S⟩;let T:=S.tn;let lN:=T.isA.len;show aM B.eb rfl ?_;obtain⟨bc,R,J⟩:=(Q O.fr).ex;show cK R ?_;rw[J.len,lA];show⟨_,c.C,N,rfl,⟨_,aO B.e3,cV.lst⟩,T.gX.nq,by rw[T.gX.len];lia,by lia,?_⟩;show aM B.eb rfl (KW B.e1 ?_);rw[JQ,<-abc];show⟨_,c.A.take top,rfl,⟨_,rfl,cV.lst⟩,by rw[Yx];lia,?_⟩;show aM B.eb rfl ?_;show⟨_,c.U,rfl,⟨_,aO B.e2,cV.lst⟩,by rw[T.fw.len];lia,?_⟩;show⟨by change 3<=sizeLine;decide,?_⟩;show kk o top c n H S ⟨?_,O.fr,O.tb⟩;let:=(Xm.mp B.eb).1;lia
def drop_cons{F:List (List Int)}{i:Nat}{rest:List D}(a:d::rest=(F.map aw).drop i):i<F.length/\d=aw (F.getD i [])/\rest=(F.map aw).drop (i+1):=by
 let b:i<F.length:=by
  rcases ZC i F.length with h|h
  . show h
  . rw[Zj (by rw[Xk];show h)]at a;cases a
 rw[XN (by rw[Xk];show b),Zf]at a;obtain⟨e,c⟩:=abb a;show⟨b,by rw[Mx.aN b];show e,c⟩
def drop_nil{F:List (List Int)}{i:Nat}(a: []=(F.map aw).drop i):F.length<=i:=by
 let:=YQ List.length a;rw[YC,Xk,Zo]at this;lia
structure Wg(F:List (List Int))(m w f:Nat):Prop where
 is:Mx.dk m w F
 st:Mx.fb F m w (Mx.c9 F)
 m8:m<=8
 w8:w<=8
 sm:∀k c,k<m->c<w->(Mx.g F k c).natAbs<=2^f
abbrev Wf(F:List (List Int))(m w:Nat):Prop:=Wg F m w 887
def Wg.lead{F:List (List Int)}{m w f i:Nat}(h:Wg F m w f)(b:i<m):Mx.c9 F i<w/\0<Mx.g F i (Mx.c9 F i)/\(F.getD i []).length=w/\jd (F.getD i [])= .int ((Mx.c9 F i:Nat):Int):=by
 obtain⟨d,a,c⟩:=h.st.lead i b;show⟨d,a,h.is.row b,?_⟩;unfold jd;rw[A8 c (ZX a)]
def Wg.row{F:List (List Int)}{m w f i:Nat}(h:Wg F m w f)(a:i<m):∀x∈F.getD i [],x.natAbs<=2^f:=λx b=>by
 obtain⟨c,d,rfl⟩:=X8.mp b;let e:=h.is.row a;let:=h.sm i c a (by lia);unfold Mx.g at this;rwa [Mx.aN d]at this
def r_{i:Nat}{st:ag}{K:DK}(h:σ[i]?=some (some d))(k:K d st):aa i σ st K:=by
 unfold aa;simp![h];show k
def qO:bV:=λd st K=>∃(c:D) (F:List (List Int)) (r:List Int) (m w f:Nat),d=[dP F,c]/\Wg F m w f/\items? st c=some (ao r)/\r.length=w/\(∀i,i<m->∀b∈F.getD i [],IntMulOk (-(Mx.qA F (Mx.eS F r i) i)) b)/\∀a,Ext st a->K (.tup [aw (Mx.p9 F r m),aw (Mx.eS F r m)]) a
def AR:List Str:=["form","row","weights","left","each","lead","weight"]
def Le:DS:=(ay (aL 2 (Ac ai))
 (ay (aL 3 (ck kH (ae (aa 1) ai)))
 (ay (iy (fC (aa 0)) (cB 4) (ay (aL 5 (aB ir (ae (aa 4) ai)))
 (ay (aL 6 (aj ki (aj aJ (aa 3) (aa 5)) (aj aJ (aa 4) (aa 5))))
 (ay (gf (i5 (aa 2) (aa 6)))
 (aL 3 (aB mN (ae (aa 3) (ae (qV lD (aa 6)) (ae (aa 4) ai)))))))))
 (aU (dA (ae (ck dN (ae (aa 2) ai)) (ae (ck dN (ae (aa 3) ai)) ai)))))))
def GL:Xh qO 2 Le AR:=by
 rintro O st K ⟨G,F,r,m,w,f,rfl,d,A,y,B,k⟩;show⟨rfl,?_⟩;let t:=d.is.len;let J:=d.m8;let I:=d.w8;show⟨Xo rfl,?_⟩;let v:Ext st (st++[.lst []]):=Ext.push;let E:(st++[Cell.lst []])[st.length]?=some (.lst (ao [])):=by simp
 show kK (v.items A) (jJ ?_);show gD (λrest σ b=>∃(i:Nat) (l h g:Option D),i<=m/\rest=(F.map aw).drop i/\σ=[some (dP F),some G,some (.ref st.length),some (bS (Mx.eS F r i)),l,h,g]/\Ext st b/\b[st.length]?=some (.lst (ao (Mx.p9 F r i)))) ?_ ?_ _ _ _ ⟨0,none,none,none,XY _,rfl,rfl,v,E⟩
 . rintro σ b ⟨i,l,h,g,u,a,rfl,X,e⟩;let C:i=m:=abE u (by rw[<-t];show drop_nil a);subst C;show⟨trivial,dz (aO e) (dz rfl ⟨Xo rfl,k b X⟩)⟩
 . rintro x rest σ b ⟨i,l,h,g,u,a,rfl,X,e⟩ next
   obtain⟨o,rfl,rfl⟩:=drop_cons a;let c:i<m:=by rw[<-t];show o
   obtain⟨N,M,H,p⟩:=d.lead c;let L:=Mx.pK d.is y (i:=i) (YH c);show⟨trivial,_,rfl,_,F.getD i [],rfl,rfl,?_⟩;rw[p];let s:eP (ao (F.getD i [])) ((Mx.c9 F i:Nat):Int)=some (.int (Mx.g F i (Mx.c9 F i))):=pJ (by lia);let q:eP (ao (Mx.eS F r i)) ((Mx.c9 F i:Nat):Int)=some (.int ((Mx.eS F r i).getD (Mx.c9 F i) 0)):=pJ (by lia);show az rfl q (az rfl s (jf (by lia) ?_));change ay _ _ _ [_,_,_,_,_,_,some (.int (Mx.qA F (Mx.eS F r i) i))] _;let z:(Mx.p9 F r i).length=i:=by unfold Mx.p9;simp
   show vi (by rfl) e (r_ rfl (rZ e (by rw[Zg,Xk,z];lia) ?_));let n:=(Xm.mp e).1;show ko ?_;show⟨_,_,_,Mx.eS F r i,F.getD i [],rfl,rfl,rfl,by lia,B i c,?_⟩;show next _ _ ⟨i+1,_,_,_,c,rfl,rfl,X.set (Xl _),?_⟩
   rw[Xx n,ints_app];congr 3;unfold Mx.p9;rw[aal,YS];rfl
def Ak:bV:=λd st K=>∃(c:D) (F:List (List Int)) (r:List Int) (m w f:Nat),d=[dP F,c]/\Wg F m w f/\items? st c=some (ao r)/\r.length=w/\(∀i,i<m->∀b∈F.getD i [],IntMulOk (-(Mx.qA F (Mx.eS F r i) i)) b)/\∀a,Ext st a->K (aw (Mx.eS F r m)) a
def FE:List Str:=["form","row"]
def PY:DS:=(aU (aj aJ (aB qO (ae (aa 0) (ae (aa 1) ai))) (dC (.int 1))))
def Mo:Xh Ak 2 PY FE:=by
 rintro h st K ⟨g,F,r,m,w,f,rfl,e,c,b,d,k⟩;show⟨rfl,g,F,r,m,w,f,rfl,e,c,b,d,λa X=>az rfl rfl (k a X)⟩
def CQ(st:ag):List D->List Rat->Prop
 | [],[]=>True
 |d::ds,q::qs=>items? st d=some [.int q.num,.int ((q.den:Nat):Int)]/\CQ st ds qs
 |_,_=>False
def CQ.of{st:ag}:∀ {a:List Rat},CQ st (a.map lV) a
 | []=>trivial
 |_::_=>⟨rfl,CQ.of⟩
def rf:bV:=λc st K=>∃(b a:D) (xs:List D) (ps:List Rat) (r:List Int) (t e:Nat),c=[b,a]/\items? st b=some xs/\CQ st xs ps/\items? st a=some (ao r)/\Mx.Pb ps t/\(∀x∈r,x.natAbs<=2^e)/\t+ps.length*(e+1)<=60000000/\K (lV (Mx.nC 0 ps r)) st
def wL:List Str:=["parts","row","total","one","number"]
def E_:DS:=(ay (aL 2 (aB nU (ae (dC (.int 0)) ai)))
 (ay (iy (o9 (ae (aa 0) (ae (aa 1) ai))) (gT 3 4) (aL 2 (aB Di (ae (aa 2) (ae (aB zL (ae (aa 3) (ae (aB nU (ae (aa 4) ai)) ai))) ai)))))
 (aU (aa 2))))
def D7:Xh rf 2 E_ wL:=by
 rintro V st K ⟨R,Q,L,H,r,t,e,rfl,B,y,A,P,z,U,k⟩;show⟨rfl,?_⟩;show⟨_,rfl,?_⟩;show mZ B A λok J=>?_;show gD (λrest σ o=>o=st/\∃(c:List D) (b:List Rat) (g:List Int) (i7:Rat) (T C:Nat) (v u:Option D),rest=fg c (ao g)/\CQ st c b/\σ=[some R,some Q,some (lV i7),v,u]/\Mx.Sz i7 T/\Mx.Pb b C/\(∀x∈g,x∈r)/\Mx.nC i7 b g=Mx.nC 0 H r/\T+C+b.length*(e+1)<=60000000) ?_ ?_ _ _ _ ⟨rfl,L,H,r,0,0,t,none,none,rfl,y,rfl,⟨by decide,by decide⟩,P,λ_ h=>h,rfl,by lia⟩
 . rintro σ o ⟨rfl,c,b,g,i7,T,C,v,u,l,f,rfl,F,I,_,q,m⟩;show⟨J _ B A,?_⟩
   let:Mx.nC i7 b g=i7:=by
    match c,b,g,f,l with
    | [],[],_,_,_=>unfold Mx.nC;rfl
    |_::_,_::_,[],_,_=>unfold Mx.nC;rfl
    |_::_,_::_,_::_,_,l=>cases l
   rw[<-q,this]at k;show k
 . rintro x rest σ o ⟨rfl,c,b,g,i7,T,C,v,u,l,f,rfl,F,I,s,q,m⟩ next
   match c,b,g,l,f,I,s,q,m with
   | [],[],_,l,_,_,_,_,_=>cases l
   |_::_,_::_,[],l,_,_,_,_,_=>cases l
   |d::c,p::b,n::g,l,f,⟨a,S,E,G,O⟩,s,q,m=>
    have M:fg (d::c) (ao (n::g))= .tup [d,.int n]::fg c (ao g):=rfl;rw[M,aaV]at l;obtain⟨rfl,rfl⟩:=l;let N:=z n (s n XT);rw[XH,YU]at m;let w:=Mx.Sz.int N;show⟨J _ B A,_,rfl,?_⟩;show⟨_,rfl,d,_,p,(n:Rat),a,e,rfl,⟨f.1,E⟩,Fq.of w,by lia,?_⟩;show⟨_,_,i7,p*(n:Rat),T,a+e,rfl,Fq.of F,Fq.of (E.mul w),by lia,?_⟩;show next _ _ ⟨rfl,c,b,g,_,_,S,_,_,rfl,f.2,rfl,F.add (E.mul w),G,λx y=>s x (XM _ y),q,by lia⟩
def rq:bV:=λa st K=>∃(F:List (List Int)) (R:List Int) (m w l:Nat),a=[dP F,aw R,.int l]/\Wf F m w/\R.length=w/\l<w/\∀b:Int,Mx.Gq F m l (R.getD l 0) b->K (.int b) st
def wY:List Str:=["form","rest","place","row"]
def E5:DS:=(ay (iy (fC (aa 0)) (cB 3) (di (aV (aj jx (aB ir (ae (aa 3) ai)) (aa 2))) (aU (aj aJ (aa 3) (aa 2))) cJ))
 (aU (aj cR (dC (.int 2)) (ck uF (ae (aj aJ (aa 1) (aa 2)) ai)))))
def Et:Xh rq 3 E5 wY:=by
 rintro A st K ⟨F,R,m,w,l,rfl,n,u,z,k⟩;show⟨rfl,?_⟩;let o:=n.is.len;show jJ ?_;show gD (λrest σ b=>b=st/\∃(i:Nat) (d:Option D),i<=m/\rest=(F.map aw).drop i/\σ=[some (dP F),some (aw R),some (.int l),d]/\∀k,k<i->Mx.c9 F k≠l) ?_ ?_ _ _ _ ⟨rfl,0,none,XY _,rfl,rfl,λk h=>absurd h (XS _)⟩
 . rintro σ b ⟨rfl,i,d,r,a,rfl,e⟩;let:=drop_nil a;show⟨trivial,az rfl (pJ (by lia)) (yA (cY (dZ (by decide) (by decide)) (k _ (.inr ⟨λk p=>e k (by lia),rfl⟩))))⟩
 . rintro x rest σ b ⟨rfl,i,d,r,a,rfl,e⟩ next
   obtain⟨f,rfl,rfl⟩:=drop_cons a;let c:i<m:=by rw[<-o];show f
   obtain⟨y,v,t,g⟩:=n.lead c;show⟨trivial,_,rfl,_,F.getD i [],rfl,rfl,?_⟩;rw[g];show eq2 (λh=>du ?_) λh=>next _ _ ⟨rfl,i+1,_,c,rfl,rfl,λk p=>?_⟩
   . have s:Mx.c9 F i=l:=by lia
     show az rfl (pJ (by lia)) (k _ (.inl ⟨i,c,s,rfl⟩))
   . by_cases q:k=i
     . subst q;lia
     . show e k (by lia)
def Bc:∀(r:List Int) (i l:Nat),kW r i=some l->∃k,l=i+k/\k<r.length/\r.getD k 0≠0/\∀c,c<k->r.getD c 0=0
 | [],_,_,h=>by cases h
 |x::r,i,l,h=>by
  unfold kW at h;split at h
  . rename_i d;obtain⟨k,e,g,f,b⟩:=Bc r (i+1) l h;show⟨k+1,by lia,abx g,f,λc a=>?_⟩;cases c with
    |zero=>show d
    |succ c=>show b c (Nat.lt_of_succ_lt_succ a)
  . cases h;show⟨0,rfl,Nat.succ_pos _,by assumption,λc a=>absurd a (XS _)⟩
def wZ{r:List Int}(h:qc r=some l):l<r.length/\r.getD l 0≠0/\∀c,c<l->r.getD c 0=0:=by
 obtain⟨k,e,d,b,a⟩:=Bc r 0 l h;rw[aao]at e;subst e;show⟨d,b,a⟩
def nu:bV:=λd st K=>∃(F:List (List Int)) (R:List Int) (m w e l:Nat),d=[dP F,aw R]/\Wf F m w/\R.length=w/\qc R=some l/\(∀c,c<w->(R.getD c 0).natAbs<=2^e)/\e<=10000/\∀a b,Ext st a->Mx.Gq F m l (R.getD l 0) b->Mx.Pb (Mx.pf F m w l (Mx.lI w l b) m) 10000000->K (.tup ((Mx.pf F m w l (Mx.lI w l b) m).map lV)) a
def qZ:List Str:=["form","rest","place","parts","k","lead","owed"]
def yf:DS:=(ay (aL 2 (aB ir (ae (aa 1) ai)))
 (ay (aL 3 (aj yd (tN (ae (aB nU (ae (dC (.int 0)) ai)) ai)) (ck dY (ae (aa 1) ai))))
 (ay (d9 (aa 3) (aa 2) (aB qk (ae (dC (.int 1)) (ae (aB rq (ae (aa 0) (ae (aa 1) (ae (aa 2) ai)))) ai))))
 (ay (iy (Aa (ae (aj jP (ck dY (ae (aa 0) ai)) (dC (.int 1))) (ae (qV lD (dC (.int 1))) (ae (qV lD (dC (.int 1))) ai)))) (cB 4) (ay (aL 5 (aB ir (ae (aj aJ (aa 0) (aa 4)) ai)))
 (di (aV (aj qQ (aa 5) (aa 2))) (ay (aL 6 (aB zW (ae (aB nU (ae (dC (.int 0)) ai)) (ae (aB rf (ae (aa 3) (ae (aj aJ (aa 0) (aa 4)) ai))) ai))))
 (d9 (aa 3) (aa 5) (aB Es (ae (aa 6) (ae (aB nU (ae (aj aJ (aj aJ (aa 0) (aa 4)) (aa 5)) ai)) ai))))) cJ)))
 (aU (ck dN (ae (aa 3) ai)))))))
def oy(a:Int)(n:Nat):(je a n).length=n:=by unfold je;simp
def IV{m i:Nat}{rest:List D}(a:d::rest=(je ((m:Int)-1) m).drop i):i<m/\d= .int ((m-1-i:Nat):Int)/\rest=(je ((m:Int)-1) m).drop (i+1):=by
 let b:i<m:=by
  rcases ZC i m with h|h
  . show h
  . rw[Zj (by rw[oy];show h)]at a;cases a
 let c:i<(je ((m:Int)-1) m).length:=by rw[oy];show b
 rw[XN c]at a;obtain⟨g,f⟩:=abb a;show⟨b,?_,f⟩;let e:(je ((m:Int)-1) m)[i]=D.int ((m:Int)-1+(i:Nat)*(-1)):=by simp[je]
 rw[g,e];congr 1;lia
def Qi{A:List (List Int)}{k:Nat}(h:k<A.length):eP (A.map aw) (k:Int)=some (aw (A.getD k [])):=by
 show gc ?_;rw[XB,Xv h,Mx.aN h];rfl
def Dx{α:Type}(d:α):∀n:Nat,(List.replicate n [d]).flatten=List.replicate n d
 |0=>rfl
 |n+1=>by rw[Yp,YO,Dx d n,Yp];rfl
def V_{a:List Rat}{r:List Int}(d:a.length=w)(b:r.length=w):Mx.nC 0 a r=Mx.dq a w λc=>r.getD c 0:=by
 rw[Mx.K4 a r 0 d b];grind
def xV:Xh nu 2 yf qZ:=by
 rintro ds st K ⟨F,R,m,w,e,l,rfl,f,J,V,bR,he,k⟩;show⟨rfl,?_⟩;let lF:=f.is.len;let m8:=f.m8;let w8:=f.w8;obtain⟨z,L,_⟩:=wZ V;rw[J]at z;let S:jd R= .int (l:Int):=by unfold jd;rw[V]
 show⟨_,R,rfl,rfl,?_⟩;rw[S];show⟨_,rfl,Xo rfl,cK rfl (O0 ⟨by lia,by rw[Xk];lia,cL (by simp;lia)⟩ ?_)⟩;rw[Xk,J,XX,Dx];let er:List.replicate w (lV ((0:Int):Rat))=(List.replicate w (0:Rat)).map lV:=by rw[List.map_replicate];rfl
 rw[er];let W:Ext st (st++[.lst ((List.replicate w (0:Rat)).map lV)]):=Ext.push;let T:(st++[Cell.lst ((List.replicate w (0:Rat)).map lV)])[st.length]?=some (.lst ((List.replicate w (0:Rat)).map lV)):=by simp
 generalize st++[Cell.lst ((List.replicate w (0:Rat)).map lV)]=st1 at W T⊢;show⟨F,R,m,w,l,rfl,f,J,z,λb O=>?_⟩;let b0:=O.pos f.st L
 let bb:b.natAbs<=2^(e+888):=by
  rcases O with⟨k,hk,_,rfl⟩|⟨_,rfl⟩
  . show Xu (f.sm k l hk z) (XD (by decide) (by lia))
  . have:=bR l z;rw[show e+888=e+887+1 by lia,YA];let p:2^e<=2^(e+887):=XD (by decide) (by lia);lia
 show⟨_,_,rfl,by lia,?_⟩
 let B:∀ {n i:Nat},i<n->ke n (i:Int)=some i:=λ{n i} h=>by
  unfold ke;simp![aaq,XX];simp[h]
 show gK T (B (by simpa using z)) ?_;let M:=(Xm.mp T).1;show cK rfl (ib (ko (ko ?_)));rw[Xk,lF];show OB ⟨by lia,by lia,by decide,by decide⟩ ?_;rw[show((m:Int)-1- -1).toNat=m by lia]
 let Z:Mx.Pb (Mx.lI w l b) (e+888):=by
  let:=(Mx.Pb.rep w).set (k:=l) (Mx.Sz.of (t:=1) (by lia) (show(1:Int).natAbs<=2^(e+888)from ZQ (by decide)) bb);rwa [aao]at this
 show gD (λrest σ d=>∃(i t:Nat) (I H G:Option D),i<=m/\rest=(je ((m:Int)-1) m).drop i/\σ=[some (dP F),some (aw R),some (.int l),some (.ref st.length),I,H,G]/\Ext st d/\d[st.length]?=some (.lst ((Mx.pf F m w l (Mx.lI w l b) i).map lV))/\Mx.Pb (Mx.pf F m w l (Mx.lI w l b) i) t/\t+8000<=2^i*(e+8888)) ?_ ?_ _ _ _ ⟨0,e+888,none,none,none,XY _,rfl,rfl,W.set (Xl _),by rw[Xx M,<-ZD];rfl,Z,by lia⟩
 . rintro σ d ⟨i,t,I,H,G,U,c,rfl,X,y,u,ht⟩
   let e1:i=m:=by
    let:=YQ List.length c;rw[YC,oy,Zo]at this;lia
   subst e1;let v:2^i<=256:=Xu (XD (by decide) m8) (by decide);let:=X6 v (show e+8888<=18888 by lia);show⟨trivial,dz (aO y) (k d b X O (u.mono (by lia)))⟩
 . rintro x rest σ d ⟨i,t,I,H,G,U,c,rfl,X,y,u,ht⟩ next
   obtain⟨C,rfl,rfl⟩:=IV c;let P:=Mx.qo.all b f.st z (i:=i) U;let a:Mx.pf F m w l (Mx.lI w l b) (i+1)=Mx.KZ F w l (Mx.pf F m w l (Mx.lI w l b) i) (m-1-i):=rfl;generalize Mx.pf F m w l (Mx.lI w l b) i=ps at P u y a;generalize hj:m-1-i=j at a;let g:j<m:=by lia
   obtain⟨l1,l2,Y,Q⟩:=f.lead g;let lp:=P.len;let q:eP (F.map aw) (j:Int)=some (aw (F.getD j [])):=Qi (by lia);show⟨trivial,_,rfl,az rfl q ⟨_,F.getD j [],rfl,rfl,?_⟩⟩;rw[Q];let v:2^i<=128:=Xu (XD (by decide) (show i<=7 by lia)) (by decide);let ab:=X6 v (show e+8888<=18888 by lia);let e2:2^(i+1)*(e+8888)=2^i*(e+8888)+2^i*(e+8888):=by rw[YA,Nat.mul_two,aaf]
   unfold Mx.KZ at a;show KO (λN=>du ?_) λN=>?_
   . rw[Xr (by lia)]at a;let ah:ps.length*(887+1)<=8*888:=X6 (by lia) (by decide);show⟨_,rfl,az rfl q ⟨_,_,_,ps,F.getD j [],t,887,rfl,aO y,CQ.of,rfl,u,f.row g,by lia,?_⟩⟩;let E:=Mx.Pb.nC (r:=F.getD j []) (x:=0) (s:=0) ⟨by decide,by decide⟩ u (f.row g);rw[V_ lp Y]at E⊢;show⟨_,_,0,_,0,_,rfl,Fq.of ⟨by decide,by decide⟩,Fq.of E,by lia,?_⟩
     let o:(((Mx.g F j (Mx.c9 F j):Int)):Rat).num≠0:=by
      change Mx.g F j (Mx.c9 F j)≠0;lia
     let sg:=Mx.Sz.int (f.sm j _ g l1);show az rfl q (az rfl (pJ (by lia)) ⟨_,rfl,_,_,_,_,_,_,rfl,Fq.of E.neg,Fq.of sg,by lia,o,?_⟩);show gK y (B (by rw[Xk];lia)) ?_;let A:=(Xm.mp y).1;show next _ _ ⟨i+1,t+(0+t+ps.length*(887+1)+887),_,_,_,C,rfl,rfl,X.set (Xl _),?_,?_,?_⟩
     . rw[Xx A,<-ZD,a];rfl
     . rw[a];show u.set (E.neg.div sg o)
     . lia
   . rw[Xn (by lia)]at a;show next _ _ ⟨i+1,t,_,_,_,C,rfl,rfl,X,?_,?_,?_⟩
     . rw[a];show y
     . rw[a];show u
     . lia
structure Vm(A:List (List Int))(N w:Nat)(r:List Int):Prop where
 is:Mx.dk N w A
 n1:1<=N
 n8:N<=8
 w8:w<=8
 bA:∀r∈A,∀x∈r,x.natAbs<=2^28
 lr:r.length=w
 br:∀x∈r,x.natAbs<=2^70
def nQ:bV:=λc st K=>∃(U:List (List Int)) (N m e1:Nat) (f:Bool),c=[dP U,.int m]/\Mx.dk N N U/\m<=N/\N<=8/\Mx.gI (U.drop m) (N-m) 0 (2^e1)/\(∀t,t<=N-m->Mx.Ez (N-m) e1 t<=50000000/\Mx.Vz (N-m) e1 t<=60000000)/\st[0]?=some (gY f)/\∀a F b,Bk st a->b<=N-m->Wg F b N (Mx.Uz (N-m) e1 b)->Mx.zH F b (Mx.c9 F)->Mx.U9 (U.drop m) (N-m) F b N->K (dP F) a
def si:List Str:=["turn","many"]
def zO:DS:=(aU (JN (aV (aj qQ (aa 1) (ck dY (ae (aa 0) ai)))) (aj aJ (aB pA (ae (iu (aa 0) (jZ (aa 1)) fW) ai)) (dC (.int 0))) (dA ai)))
def xO{a:List D}{j:Nat}:L3.cutD a (some (j:Int)) none=a.drop j:=by
 unfold L3.cutD;rw[HT.vO,HT.sV];by_cases h:j<=a.length
 . rw[aak h,Yu (by rw[YC];lia)]
 . rw[aaI (by lia),Y2 (Xl _),Y2 (by lia)];simp
def Bk.ext{st b a:ag}(B:Bk st b)(X:Ext b a):Bk st a:=by
 let h:=B.le;obtain⟨f,e⟩:=B.tb;let c:=(Xm.mp e).1;show⟨by let:=X.len;lia,λm d g=>by rw[X.same m (by lia),B.fr m d g],f,by rw[X.same 0 c];show e⟩
def Rh:8*((9*2^48)^9*(9*2^48)^8)<=2^887:=by decide+kernel
def fi{A:List (List Int)}{t i c:Nat}(h:i<t):Mx.g (A.take t) i c=Mx.g A i c:=by
 let e:(A.take t).getD i []=A.getD i []:=by rw[Xw,Xw,List.getElem?_take,Xr h]
 unfold Mx.g;rw[e]
def QD{A:List (List Int)}{N w top e u:Nat}{c:Mx.B3}{ld:Nat->Nat}(H:Mx.h_ A N w c top w ld e u)(h:Mx.dk N w A)(n:N<=8)(l:w<=8)(y:∀r∈A,∀x∈r,x.natAbs<=2^48):Wf (c.A.take top) top w:=by
 let le:=H.le;let B:=H.tn.isA.len
 let s:Mx.fb (c.A.take top) top w ld:=⟨λi a=>by
  obtain⟨v,t,p⟩:=H.lead i a;show⟨v,by rw[fi a];show t,λc g=>by rw[fi a];show p c g⟩,H.mono⟩
 let m:=(H.small n (b:=2^48) (ZQ (by decide)) λi c a g=>by
  let z:=h.len;let d:=h.row a;unfold Mx.g;show y _ (by rw[Mx.aN (by lia)];show Yy _) _ (getD_mem (by lia))).2
 show⟨⟨by rw[Yx];lia,λr d=>H.tn.isA.nq r (aab d)⟩,s.VO,by lia,l,λk q f o=>by rw[fi f];show Xu (m k q f o) Rh⟩
def yH:Xh nQ 2 zO si:=by
 rintro O st K ⟨U,N,m,I,f,rfl,n,M,p,t,sz,o,k⟩;show⟨rfl,?_⟩;show cK rfl ?_;rw[Xk,n.len];show KO (λh=>du ?_) λh=>?_
 . show mO ?_;rw[xO,<-ab0];let u:Mx.dk (N-m) N (U.drop m):=⟨by rw[YC,n.len],λr b=>n.nq r (List.mem_of_mem_drop b)⟩
   show⟨_,N-m,N,I,U.drop m,f,rfl,vK,u,by lia,by lia,by lia,t,sz,o,λl top c w C H B=>az rfl rfl ?_⟩;obtain⟨v,J⟩:=C.Wx u t (by lia) (Xl _);let le:=H.le;let L:=H.tn.isA.len
   let s:Mx.fb (c.A.take top) top N w:=⟨λi e=>by
    obtain⟨G,F,E⟩:=H.lead i e;show⟨G,by rw[fi e];show F,λc A=>by rw[fi e];show E c A⟩,H.mono⟩
   show k l _ top B le ⟨⟨by rw[Yx];lia,λr b=>H.tn.isA.nq r (aab b)⟩,s.VO,by lia,p,λk q a _=>by rw[fi a];show(J.hi k q a).1⟩ (λi j d g=>by rw[s.c9 g,fi (aap d g),fi g];show H.red i j d g) ⟨λk a=>by
    obtain⟨z,x⟩:=H.out k a;show⟨z,λq y=>(x q y).trans (Mx.aE λi e=>by rw[fi e])⟩,λk a=>(H.in k a).eq λq _=>fi a⟩
 . show⟨XY _,k st [] 0 ⟨Xl _,λ_ _ _=>rfl,f,o⟩ (XY _) ⟨⟨rfl,λr b=>by cases b⟩,⟨λi h=>absurd h (XS _),λi j _ h=>absurd h (XS _)⟩,XY _,p,λk c h=>absurd h (XS _)⟩ (λi j _ h=>absurd h (XS _)) ⟨λk h=>absurd h (by lia),λk h=>absurd h (XS _)⟩⟩
structure K5(A:List (List Int))(N w:Nat)(r a:List Int)(F:List (List Int))(m f:Nat)(c:Mx.B3)(top:Nat):Prop where
 tn:Mx.Tn A c.A c.U c.C N w
 le:top<=N
 zs:∀i q,top<=i->i<N->q<w->Mx.g c.A i q=0
 wf:Wf (c.A.take top) top w
 rd:Mx.zH (c.A.take top) top (Mx.c9 (c.A.take top))
 bU:∀i q,i<N->(Mx.g c.U i q).natAbs<=2^60000000
 bC:∀i q,i<N->(Mx.g c.C i q).natAbs<=2^60000000
 wg:Wg F m N f
 red:Mx.zH F m (Mx.c9 F)
 JJ:∀x,(∀q,q<w->(Mx.S N λn=>x n*Mx.g A n q)=0)↔Mx.gH F m N x
 la:a.length=N
 sum:∀q,q<w->(Mx.S N λn=>a.getD n 0*Mx.g A n q)=r.getD q 0
 S0:∀i,i<m->0<=a.getD (Mx.c9 F i) 0/\a.getD (Mx.c9 F i) 0<Mx.g F i (Mx.c9 F i)
 tok:∀j,top<=j->j<N->∀i,i<m->∀b∈F.getD i [],IntMulOk (-(Mx.qA F (Mx.eS F (c.U.getD j []) i) i)) b
 rest:∀j,top<=j->j<N->Mx.gH F m N (Mx.g c.U j)
def WS(A:List (List Int))(N w:Nat)(r:List Int)(y:D):Prop:=
 (∃a F m f c top,K5 A N w r a F m f c top/\y= .tup [.str "told",aw a,dP F,dP c.U,dP (Mx.i_ c.C N)])\/
 (∃b:List Rat,y= .tup [.str "none",.tup (b.map lV)]/\b.length=w/\Mx.Pb b 10000000/\(∀n,n<N->Mx.Wh (Mx.dq b w (Mx.g A n)))/\¬Mx.Wh (Mx.dq b w λc=>r.getD c 0))
def u7:bV:=λd st K=>∃(c b:D) (A:List (List Int)) (r:List Int) (N w:Nat) (f:Bool),d=[c,b]/\j4 st c (Mx.i_ A w)/\items? st b=some (ao r)/\Vm A N w r/\1<=w/\st[0]?=some (gY f)/\∀a y,Bk st a->WS A N w r y->K y a
def AZ:List Str:=["rows","due","wide","told","form","turn","fallen","steps","answer"]
def Lz:DS:=(ay (aL 2 (ck dY (ae (aj aJ (aa 0) (dC (.int 0))) ai)))
 (ay (aL 3 (aB pA (ae (aB md (ae (aa 0) (ae (aa 2) ai))) ai)))
 (ay (aL 4 (aj aJ (aa 3) (dC (.int 0))))
 (ay (aL 5 (aj aJ (aa 3) (dC (.int 1))))
 (ay (aL 6 (aB qO (ae (aa 4) (ae (aa 1) ai))))
 (ay (di (aV (aj pG (aB ir (ae (aj aJ (aa 6) (dC (.int 1))) ai)) (dC .au))) (aU (dA (ae (dC (.str "none")) (ae (aB nu (ae (aa 4) (ae (aj aJ (aa 6) (dC (.int 1))) ai))) ai)))) cJ)
 (ay (aL 7 (aB nQ (ae (aa 5) (ae (ck dY (ae (aa 4) ai)) ai))))
 (ay (aL 8 (aB Ak (ae (aa 7) (ae (aB xv (ae (aj aJ (aa 6) (dC (.int 0))) (ae (iu (aa 5) fW (jZ (ck dY (ae (aa 4) ai)))) (ae (aa 2) ai)))) ai))))
 (aU (dA (ae (dC (.str "told")) (ae (aa 8) (ae (aa 7) (ae (aa 5) (ae (aj aJ (aa 3) (dC (.int 2))) ai)))))))))))))))
def Gh{A:List (List Int)}{N w:Nat}(a:Mx.dk N w A):Mx.i_ (Mx.i_ A w) N=A:=
 (Mx.u6 (Mx.u6 a)).ext a λi j c b=>by rw[Mx.yg (Mx.u6 a) b c,Mx.yg a c b]
def G9{F:List (List Int)}{r:List Int}{m w e f:Nat}(a:Wg F m w f)(g:r.length=w)(p:∀c,c<w->(r.getD c 0).natAbs<=2^e)(s:e+m*(f+1)<=130000000):∀i,i<m->∀b∈F.getD i [],IntMulOk (-(Mx.qA F (Mx.eS F r i) i)) b:=λi d b l=>by
 obtain⟨k,h,_⟩:=a.lead d;let o:=Mx.vT a.is g a.st a.sm p (YH d) _ k;let q:(Mx.qA F (Mx.eS F r i) i).natAbs<=2^(e+i*(f+1)):=Xu (Mx.jg _ h) o;let n:(i+1)*(f+1)<=m*(f+1):=YK _ d;rw[YU]at n;show fo (by rw[YX];show q) (a.row d b l) (by lia)
def IA:Xh u7 2 Lz AZ:=by
 rintro ds st K ⟨d0,dr,A,r,N,w,f,rfl,ah,hr,⟨hA,n1,n8,w8,bA,L,br⟩,w1,h0,k⟩;show⟨rfl,?_⟩;let iT:=Mx.u6 hA;let lT:=iT.len;obtain⟨da,a4,ra⟩:=ah.ex;obtain⟨bl,a6,a3⟩:=ra.at (k:=0) (by lia);show az a4 a6 (cK a3 ?_);rw[Xk,iT.row (i:=0) w1];show⟨_,Mx.i_ A w,N,rfl,ah,iT.nq,by lia,by lia,?_⟩;rw[Gh hA]
 let T:Mx.gI A N 0 (2^28):=λi c _ e=>by
  let lA:=hA.len;unfold Mx.g;by_cases hc:c<(A.getD i []).length
  . show bA _ (by rw[Mx.aN (by lia)];show Yy _) _ (getD_mem hc)
  . rw[Mx.kI (by lia)];show XY _
 show⟨_,N,w,28,A,f,rfl,vK,hA,n1,n8,by lia,T,λt ht=>Mx.SV N (by lia) t (by lia),h0,λbh top c ld hC H B=>?_⟩;let g:=QD H hA n8 w8 λr hr x hx=>Xu (bA r hr x hx) (by decide);let lF:=g.is.len;let M:∀i q,i<top->Mx.g (c.A.take top) i q=Mx.g c.A i q:=λi q e=>fi e;let t8:=g.m8;let le:=H.le;let a5:=g
 let a0:Mx.zH (c.A.take top) top (Mx.c9 (c.A.take top)):=λi j Z o=>by
  let s:Mx.fb (c.A.take top) top w ld:=⟨λi e=>by
   obtain⟨E,v,h3⟩:=H.lead i e;show⟨E,by rw[fi e];show v,λc hc=>by rw[fi e];show h3 c hc⟩,H.mono⟩
  rw[s.c9 o,fi (aap Z o),fi o];show H.red i j Z o
 generalize hF:c.A.take top=F at g lF M;let Q:∀c,c<w->(r.getD c 0).natAbs<=2^70:=λc hc=>br _ (getD_mem (by lia));show az rfl rfl (az rfl rfl ?_);show⟨dr,F,r,top,w,887,rfl,g,vo h0 B.fr hr,L,G9 g L Q (by lia),λbc X=>?_⟩;let B2:=B.ext X;let lR:=Mx.pK g.is L (Xl top);let S0:=Mx.Ar g.is L g.st (Xl top);let sm:=Mx.FF g.is L (Xl top);let ab:=Mx.vT g.is L g.st g.sm Q (Xl top);show az rfl rfl ⟨_,Mx.eS F r top,rfl,rfl,?_⟩;cases el:qc (Mx.eS F r top)with
 |some l=>
  have eD:jd (Mx.eS F r top)= .int (l:Int):=by unfold jd;rw[el]
  rw[eD];obtain⟨hl,Y,hz⟩:=wZ el;rw[lR]at hl;show oR rfl (du (az rfl rfl ⟨F,Mx.eS F r top,top,w,70+top*(887+1),l,rfl,g,lR,el,ab,by lia,λJ b X3 hb hP=>⟨Xo rfl,?_⟩⟩));let P:=Mx.qo.all b g.st hl (Xl top);let wF:∀i,i<top->Mx.Wh (Mx.dq (Mx.pf F top w l (Mx.lI w l b) top) w (Mx.g F i)):=λi e=>P.whole g.st hl hb Y e;show k J _ (B2.ext X3) (.inr ⟨_,rfl,P.len,hP,λn hn=>?_,λz=>?_⟩)
  . have e1:Mx.dq (Mx.pf F top w l (Mx.lI w l b) top) w (Mx.g A n)=Mx.dq (Mx.pf F top w l (Mx.lI w l b) top) w λq=>Mx.S top λk=>Mx.g c.C k n*Mx.g F k q:=Mx.xt λq u=>by
     rw[H.back hn u];show Mx.aE λk hk=>by rw[M k q hk]
    rw[e1,Mx.Ei];show Mx.Ho λi e=>(wF i e).mul _
  . have e1:Mx.dq (Mx.pf F top w l (Mx.lI w l b) top) w (λq=>r.getD q 0)=Mx.dq (Mx.pf F top w l (Mx.lI w l b) top) w (λq=>(Mx.eS F r top).getD q 0)+Mx.dq (Mx.pf F top w l (Mx.lI w l b) top) w (λq=>Mx.S top λj=>Mx.qA F (Mx.eS F r j) j*Mx.g F j q):=by
     rw[<-Mx.Sf];show Mx.xt λq _=>sm q
    let w2:Mx.Wh (Mx.dq (Mx.pf F top w l (Mx.lI w l b) top) w (λq=>Mx.S top λj=>Mx.qA F (Mx.eS F r j) j*Mx.g F j q)):=by
     rw[Mx.Ei];show Mx.Ho λi e=>(wF i e).mul _
    show P.not g.st hl hb Y hz (λi e=>S0.red i e) ?_;let:=z.add w2.neg;rw[e1]at this;let e2:∀a b:Rat,a+b+ -b=a:=by grind
    rwa [e2]at this
 |none=>
  have eD:jd (Mx.eS F r top)= .au:=by unfold jd;rw[el]
  rw[eD];show oR rfl ?_;obtain⟨f2,t2⟩:=B2.tb;let lU:=H.tn.fw.len;show cK rfl ?_;rw[Xk,lF]
  let I:∀j q,top<=j->j<N->(Mx.g c.U j q).natAbs<=2^Mx.zi N top:=λj q E v=>by
   unfold Mx.zi;by_cases h:top=0
   . rw[Xr h,hC.Wu h];change(Mx.g (Mx.units N) j q).natAbs<=1;by_cases u:q<N
     . rw[Mx.mB v u];unfold Mx.dl;split<;>decide
     . unfold Mx.g;rw[Mx.kI (by rw[(Mx.tR N).row v];lia)];decide
   . rw[Xn h];show H.lo.2.1 j q E v
  show⟨c.U,N,top,Mx.zi N top,f2,rfl,H.tn.fw,le,n8,λi q _ e=>by rw[Mx.CU];show I (top+i) q (by lia) (by lia),λt ht=>(Mx.NL N (by lia) top (by lia) t (by lia)).1,t2,λJ G m B3 hm O V C=>?_⟩;let B3':Bk st J:=⟨Xu B2.le B3.le,λm hm h0=>(B3.fr m (XF hm B2.le) h0).trans (B2.fr m hm h0),B3.tb⟩
  show az rfl rfl (cK rfl (mO ?_));rw[Xk,lF,JQ,<-abc];let lw:(Mx.p9 F r top).length=top:=by unfold Mx.p9;simp
  let R:∀j,j<top->(Mx.p9 F r top).getD j 0=Mx.qA F (Mx.eS F r j) j:=λj o=>by
   unfold Mx.p9;rw[Mx.aN (by simpa using o),Zf,aa8]
  obtain⟨bb,a7⟩:=Mx.SV N (by lia) top (by lia)
  let bw:∀j,j<top->((Mx.p9 F r top).getD j 0).natAbs<=2^(70+j*(887+1)):=λj o=>by
   rw[R j o];obtain⟨l1,l2,_⟩:=g.lead o;show Xu (Mx.jg _ l2) (Mx.vT g.is L g.st g.sm Q (YH o) _ l1)
  let bu:∀i p,i<top->(Mx.g (c.U.take top) i p).natAbs<=2^Mx.Vz N 28 top:=λi p e=>by
   rw[fi e];show(H.hi i p e).2.1
  let wU:∀q∈c.U.take top,q.length=N:=λq u=>H.tn.fw.nq q (aab u);let aK:(c.U.take top).length=top:=by rw[Yx];lia
  show⟨_,_,N,Mx.p9 F r top,c.U.take top,rfl,rfl,vK,wU,by lia,λx hx q u y hy=>?_,?_⟩
  . obtain⟨j,o,rfl⟩:=X8.mp hx;let bj:=bw j (by lia);rw[Mx.aN o]at bj;obtain⟨i,e,rfl⟩:=X8.mp u;obtain⟨p,hp,rfl⟩:=X8.mp hy;let hU:=bu i p (by lia);unfold Mx.g at hU;rw[Mx.aN e,Mx.aN hp]at hU;show fo bj hU (by lia)
  let U:(Mx.fL (Mx.p9 F r top) (c.U.take top) (List.replicate N 0)).length=N:=Mx.Bb (by simp) wU
  let bW:∀n,n<N->((Mx.fL (Mx.p9 F r top) (c.U.take top) (List.replicate N 0)).getD n 0).natAbs<=2^(Mx.Vz N 28 top+8000):=λn hn=>by
   rw[Mx.xY (n:=N) n (by simp) wU (by lia),Mx.d7,ZW,aK]
   let e3:top*2^(7174+Mx.Vz N 28 top)<=2^(Mx.Vz N 28 top+8000):=by
    show Xu (YK _ (show top<=2^3 by lia)) ?_;rw[<-Y7];show XD (by decide) (by lia)
   show Xu (Mx.HK λj o=>?_) e3;rw[Ym,Y7];show X6 (Xu (bw j o) (XD (by decide) (by lia))) (bu j n o)
  obtain⟨_,ar,aq⟩:=Mx.NL N (by lia) top (by lia) m (by lia)
  let S:∀q,q<w->(Mx.S N λn=>(Mx.fL (Mx.p9 F r top) (c.U.take top) (List.replicate N 0)).getD n 0*Mx.g A n q)=r.getD q 0:=λq u=>by
   show Mx.LV H lw (λq u=>?_) u;rw[sm q,ym _ 0 el q,ZW];show Mx.aE λj o=>by rw[R j o,M j q o]
  generalize Mx.fL (Mx.p9 F r top) (c.U.take top) (List.replicate N 0)=W at U bW S
  let JJ:∀x,(∀q,q<w->(Mx.S N λn=>x n*Mx.g A n q)=0)↔Mx.gH G m N x:=λx=>by
   rw[H.kernel];show⟨λh=>Mx.gH.trans C.to h,λh=>Mx.gH.trans C.of h⟩
  let gW:∀j,top<=j->j<N->∀q,q<N->((c.U.getD j []).getD q 0).natAbs<=2^Mx.zi N top:=λj E v q _=>I j q E v;let hE:2^Mx.Ez N 28 top<=2^60000000:=XD (by decide) (by lia);let hV:2^Mx.Vz N 28 top<=2^60000000:=XD (by decide) (by lia);let fl:=Mx.Ar O.is U O.st (Xl m);show⟨_,G,W,m,N,_,rfl,O,rfl,U,G9 O U bW ar,λau X4=>az rfl rfl ⟨Xo rfl,?_⟩⟩;show k au _ (B3'.ext X4) (.inl ⟨Mx.eS G W m,G,m,_,c,top,⟨H.tn,le,H.zs,a5,a0,λi q e=>?_,λi q e=>?_,O,V,JJ,Mx.pK O.is U (Xl m),λq u=>?_,λi e=>fl.red i e,λj E v=>G9 O (H.tn.fw.row v) (gW j E v) aq,λj E v=>?_⟩,rfl⟩)
  . by_cases h:i<top
    . show Xu (H.hi i q h).2.1 hV
    . show Xu (H.lo.2.1 i q (Zz h) e) hE
  . by_cases h:i<top
    . show Xu (H.hi i q h).2.2 hV
    . show Xu (H.lo.2.2 i q (Zz h) e) hE
  . have d:=(JJ λn=>W.getD n 0-(Mx.eS G W m).getD n 0).mpr fl.sum q u
    let e5:(Mx.S N λn=>(W.getD n 0-(Mx.eS G W m).getD n 0)*Mx.g A n q)=(Mx.S N λn=>W.getD n 0*Mx.g A n q)-Mx.S N λn=>(Mx.eS G W m).getD n 0*Mx.g A n q:=by
     rw[aar,<-Mx.zc,<-Mx.jX];show Mx.aE λn _=>by rw[Int.sub_mul,aar]
    rw[e5,S q u]at d;lia
  . show(JJ (Mx.g c.U j)).mp λq u=>?_;rw[<-H.tn.ua j q v u];show H.zs j q E v u
def vB:pl (n+1) (aw r)=true:=by
 unfold pl;show Gm
def AL:∀(r s:List Int),jN (ao r) (ao s)=decide (r=s)
 | [],[]=>by unfold jN;rfl
 | [],_::_=>by unfold jN;rfl
 |_::_,[]=>by unfold jN;rfl
 |a::r,b::s=>by
  let d:=AL r s;unfold ao at d⊢;rw[Ye,Ye];unfold jN;rw[d];unfold cC;by_cases c:a=b
  . subst c;simp
  . have:(a==b)=false:=by simpa using c
    rw[this,Bool.false_and];show(XG λh=>c (abb h).1).symm
def uv(a:List Int):Prop:=∀x∈a,-(2^64)<x/\x<2^64
def oo:bV:=λe st K=>∃(d c b:D) (a l h:List Int),e=[d,c,b]/\items? st d=some (ao a)/\items? st c=some (ao l)/\items? st b=some (ao h)/\a.length<=1000/\uv a/\K (.int (Pl.ix a l h)) st
def wQ:List Str:=["numbers","low","high"]
def ET:DS:=(aU (ck uJ (ae (dX (BZ (ae (aa 0) (ae (aa 1) (ae (aa 2) ai)))) [none,none,none] (nI 0 1 2) cT (ck Aw (ae (aj cR (aa 0) (aa 1)) (ae (aj cR (aa 0) (aa 2)) ai)))) ai)))
def Br:∀(a l h:List Int),∃ns:List Int,(dW (ao a) (ao l) (ao h)).map (λd=>match d with| .tup [.int a,.int l,.int h]=> .int (if a*h<a*l then a*h else a*l)|_=> .au)=ao ns/\ns.sum=Pl.ix a l h
 | [],_,_=>⟨[],by unfold dW;rfl,by unfold Pl.ix;rfl⟩
 |_::_,[],_=>⟨[],by unfold dW;rfl,by unfold Pl.ix;rfl⟩
 |_::_,_::_,[]=>⟨[],by unfold dW;rfl,by unfold Pl.ix;rfl⟩
 |a::as,l::ls,h::hs=>by
  obtain⟨ns,c,b⟩:=Br as ls hs;show⟨(if a*h<a*l then a*h else a*l)::ns,?_,?_⟩
  . have e:dW (ao (a::as)) (ao (l::ls)) (ao (h::hs))= .tup [.int a,.int l,.int h]::dW (ao as) (ao ls) (ao hs):=rfl;rw[e,Ye,c];rfl
  . rw[ZJ,b];change _=min (a*l) (a*h)+Pl.ix as ls hs;split<;>lia
def Eo:∀(a l h:List Int),∃ns:List Int,(dW (ao a) (ao l) (ao h)).map (λd=>match d with| .tup [.int a,.int l,.int h]=> .int (if a*h>a*l then a*h else a*l)|_=> .au)=ao ns/\ns.sum=Pl.l_ a l h
 | [],_,_=>⟨[],by unfold dW;rfl,by unfold Pl.l_;rfl⟩
 |_::_,[],_=>⟨[],by unfold dW;rfl,by unfold Pl.l_;rfl⟩
 |_::_,_::_,[]=>⟨[],by unfold dW;rfl,by unfold Pl.l_;rfl⟩
 |a::as,l::ls,h::hs=>by
  obtain⟨ns,c,b⟩:=Eo as ls hs;show⟨(if a*h>a*l then a*h else a*l)::ns,?_,?_⟩
  . have e:dW (ao (a::as)) (ao (l::ls)) (ao (h::hs))= .tup [.int a,.int l,.int h]::dW (ao as) (ao ls) (ao hs):=rfl;rw[e,Ye,c];rfl
  . rw[ZJ,b];change _=max (a*l) (a*h)+Pl.l_ as ls hs;split<;>lia
def AW(h:d∈dW (ao r) (ao s) (ao t)):∃a b c,a∈r/\d= .tup [.int a,.int b,.int c]:=by
 obtain⟨n,f,e⟩:=X8.mp h;let m:(dW (ao r) (ao s) (ao t))[n]?=some d:=by rw[Xv f,e]
 obtain⟨x,y,z,ex,l,k,rfl⟩:=qP m;obtain⟨a,g,rfl⟩:=X5.mp (XO ex);obtain⟨b,_,rfl⟩:=X5.mp (XO l);obtain⟨c,_,rfl⟩:=X5.mp (XO k);show⟨a,b,c,g,rfl⟩
def DF:Xh oo 3 ET wQ:=by
 rintro w st K ⟨C,B,A,a,l,h,rfl,e,c,b,v,p,k⟩;show⟨rfl,?_⟩;show F6 e c b λok t=>⟨cL (by rw[qK];simp;lia),?_⟩
 obtain⟨u,s,r⟩:=Br a l h;show comp_map (g:=λd=>match d with| .tup [.int a,.int l,.int h]=> .int (if a*h<a*l then a*h else a*l)|_=> .au) (t st e c b) _ (λd o E q=>?_) ?_
 . obtain⟨x,y,z,n,rfl⟩:=AW o;obtain⟨m,f⟩:=p x n;show⟨_,rfl,cY (dZ m f) (cY (dZ m f) (Li q))⟩
 . rw[s];show CO (ints_map _) ?_;rw[r];show k
def sN:bV:=λe st K=>∃(d c b:D) (a l h:List Int),e=[d,c,b]/\items? st d=some (ao a)/\items? st c=some (ao l)/\items? st b=some (ao h)/\a.length<=1000/\uv a/\K (.int (Pl.l_ a l h)) st
def yr:List Str:=["numbers","low","high"]
def HH:DS:=(aU (ck uJ (ae (dX (BZ (ae (aa 0) (ae (aa 1) (ae (aa 2) ai)))) [none,none,none] (nI 0 1 2) cT (ck zV (ae (aj cR (aa 0) (aa 1)) (ae (aj cR (aa 0) (aa 2)) ai)))) ai)))
def EM:Xh sN 3 HH yr:=by
 rintro w st K ⟨C,B,A,a,l,h,rfl,e,c,b,v,p,k⟩;show⟨rfl,?_⟩;show F6 e c b λok t=>⟨cL (by rw[qK];simp;lia),?_⟩
 obtain⟨u,s,r⟩:=Eo a l h;show comp_map (g:=λd=>match d with| .tup [.int a,.int l,.int h]=> .int (if a*h>a*l then a*h else a*l)|_=> .au) (t st e c b) _ (λd o E q=>?_) ?_
 . obtain⟨x,y,z,n,rfl⟩:=AW o;obtain⟨m,f⟩:=p x n;show⟨_,rfl,cY (dZ m f) (cY (dZ m f) (JV q))⟩
 . rw[s];show CO (ints_map _) ?_;rw[r];show k
def LT(d:D)(ns:List Int):Prop:=d=bS ns\/d=aw ns
def Jp(d:D)(R:List (List Int)):Prop:=d=Cg R\/d=dP R
def LT.it(h:LT d ns)(st:ag):items? st d=some (ao ns):=by rcases h with rfl|rfl<;>rfl
def Jp.ex{R:List (List Int)}(h:Jp d R):∃b,(∀st,items? st d=some b)/\b.length=R.length/\∀i,i<R.length->∃e,b[i]?=some e/\LT e (R.getD i []):=by
 rcases h with rfl|rfl
 . show⟨_,λ_=>rfl,Xk _,λi a=>⟨bS (R.getD i []),?_,.inl rfl⟩⟩;rw[XB,Xv a,Mx.aN a];rfl
 . show⟨_,λ_=>rfl,Xk _,λi a=>⟨aw (R.getD i []),?_,.inr rfl⟩⟩;rw[XB,Xv a,Mx.aN a];rfl
def Jp.rows(h:Jp d R)(st:ag):j4 st d R:=by
 rcases h with rfl|rfl
 . show Oq
 . show vK
def LT.from{ns:List Int}{st:ag}{K:DK}(h:LT d ns)(k:∀e,LT e (ns.drop p)->K e st):ka d (some (p:Int)) none st K:=by
 let e:L3.cutD (ao ns) (some (p:Int)) none=ao (ns.drop p):=by rw[xO];show ab0.symm
 rcases h with rfl|rfl
 . show AU ?_;rw[e];show k _ (.inl rfl)
 . show mO ?_;rw[e];show k _ (.inr rfl)
structure rp(T:Pl.Tk):Prop where
 ok:T.Ok
 n1:1<=T.n
 n8:T.n<=16
 w8:T.w<=16
 m8:T.m<=T.n
 sc:uv T.c
 sR:∀r∈T.R,uv r
abbrev q_(dc dr dd dl dh:D)(F:List (List Int)):List (Str×D):=[("costs",dc),("rows",dr),("due",dd),("low",dl),("high",dh),("steps",dP F)]
structure KQ(T:Pl.Tk)(dc dr dd dl dh:D):Prop where
 c:LT dc T.c
 r:Jp dr T.R
 d:LT dd T.d
 l:LT dl T.l
 h:LT dh T.h
def Ah(st:ag)(T:Pl.Tk)(a t:Nat):Prop:=st[a]?=some (.ins dj [("place",.int ((T.eU t:Nat):Int)),("lows",.lst ((List.range T.w).map λj=> .int (T.low t j))),("highs",.lst ((List.range T.w).map λj=> .int (T.high t j))),("open_cost",.int (T.cut t T.c))])
def jq:bV:=λd st K=>∃(a b t:Nat) (T:Pl.Tk) (dc dr dd dl dh:D),d=[.ref a,.ref b,.int ((T.eU t:Nat):Int)]/\a≠b/\st[a]?=some (.ins dj [])/\st[b]?=some (.ins aR (q_ dc dr dd dl dh T.F))/\rp T/\KQ T dc dr dd dl dh/\∀c,Ah c T a t->c.length=st.length->(∀m,m≠a->c[m]?=st[m]?)->K .au c
def mq:List Str:=["self","task","place","low","high"]
def x6:DS:=(ay (aL 3 (iu (bO aR "low" (aa 1)) (jZ (aa 2)) fW))
 (ay (aL 4 (iu (bO aR "high" (aa 1)) (jZ (aa 2)) fW))
 (ay (fy dj "place" (aa 0) (aa 2))
 (ay (fy dj "lows" (aa 0) (dX (o9 (ae (bO aR "rows" (aa 1)) (ae (bO aR "due" (aa 1)) ai))) [none,none,some 2,some 3,some 4] (gT 0 1) cT (aj jP (aa 1) (aB sN (ae (iu (aa 0) (jZ (aa 2)) fW) (ae (aa 3) (ae (aa 4) ai)))))))
 (ay (fy dj "highs" (aa 0) (dX (o9 (ae (bO aR "rows" (aa 1)) (ae (bO aR "due" (aa 1)) ai))) [none,none,some 2,some 3,some 4] (gT 0 1) cT (aj jP (aa 1) (aB oo (ae (iu (aa 0) (jZ (aa 2)) fW) (ae (aa 3) (ae (aa 4) ai)))))))
 (fy dj "open_cost" (aa 0) (aB oo (ae (iu (bO aR "costs" (aa 1)) (jZ (aa 2)) fW) (ae (aa 3) (ae (aa 4) ai))))))))))
def zip_rows{st:ag}{c:List D}{R:List (List Int)}{ns:List Int}(r:c.length=R.length)(G:ns.length=R.length)(A:∀i,i<R.length->∃e,c[i]?=some e/\LT e (R.getD i [])){h:Nat->Int}{K:List D->ag->Prop}(t:ok st)
 (z:∀i e,i<R.length->LT e (R.getD i [])->∀w,w (.int (h i)) st->∃f,m (.tup [e,.int (ns.getD i 0)]) l=some f/\n f st w) (k:K ((List.range R.length).map λi=> .int (h i)) st):eQ m cT n ok l (fg c (ao ns)) [] st K:=by
 show iz (λrest b a=>st=a/\∃i,i+rest.length=R.length/\rest=(fg c (ao ns)).drop i/\b=(List.range i).map λi=> .int (h i)) ?_ ?_ _ _ _ ⟨rfl,0,by rw[gn,Xk];lia,rfl,rfl⟩
 . rintro b a ⟨rfl,i,g,_,rfl⟩;rw[Zo,ab4]at g;subst g;show⟨t,k⟩
 . rintro x rest b a ⟨rfl,i,g,d,rfl⟩ next
   rw[XH]at g;let q:i<(fg c (ao ns)).length:=by rw[gn,Xk];lia
   rw[XN q]at d;injection d with e1 e2;let F:(fg c (ao ns))[i]?=some x:=by rw[Xv q,e1]
   obtain⟨u,v,s,ev,rfl⟩:=mv F;obtain⟨e,B,r⟩:=A i (by lia);rw[B]at s;cases s
   let p:v= .int (ns.getD i 0):=by
    rw[XB,Xv (show i<ns.length by lia)]at ev;cases ev;rw[Mx.aN (by lia)]
   subst p;obtain⟨f,E,C⟩:=z i _ (by lia) r (λy o=>eQ m cT n ok l rest (((List.range i).map λi=> .int (h i))++[y]) o K) (next _ _ ⟨rfl,i+1,by lia,e2,by rw[aal,YS];rfl⟩);show⟨t,f,E,C⟩
def uv.drop{a:List Int}(h:uv a):uv (a.drop p):=λx b=>h x (List.mem_of_mem_drop b)
def wm:Xh jq 3 x6 mq:=by
 rintro ds st K ⟨a,b,t,T,dc,Z,dd,dl,dh,rfl,J,O,N,to,p,k⟩;show⟨rfl,?_⟩;let o:=to.ok;let F:=o.lR.len;let la:a<st.length:=(Xm.mp O).1;show aM N rfl (p.l.from λL G=>aM N rfl (p.h.from λM H=>?_));let E:∀ {s:ag} {fs:List (Str×D)} {v:D} {f:Str},s[b]?=some (.ins aR (q_ dc Z dd dl dh T.F))->s[a]?=some (.ins dj fs)->(s.set a (.ins dj (putD f v fs)))[b]?=some (.ins aR (q_ dc Z dd dl dh T.F))/\(s.set a (.ins dj (putD f v fs)))[a]?=some (.ins dj (putD f v fs)):=λh1 z=>⟨by rw[Xq J];show h1,Xx (Xm.mp z).1⟩
 obtain⟨rs,C,S,W⟩:=p.r.ex;let y:T.d.length=T.R.length:=by rw[o.Jn,F]
 let w8:=to.w8;let n8:=to.n8
 let len:∀i,i<T.R.length->((T.R.getD i []).drop (T.eU t)).length<=1000:=λi r=>by
  rw[YC,o.lR.row (by lia)];let:=to.n8;lia
 let R:∀i,i<T.R.length->uv ((T.R.getD i []).drop (T.eU t)):=λi r=>(to.sR _ (by rw[Mx.aN r];show Yy _)).drop;show dD O (Xo rfl) ?_;obtain⟨d,n⟩:=E (f:="place") (v:= .int ((T.eU t:Nat):Int)) N O;generalize x:st.set a _=s1 at d n⊢;let Y:∀m,m≠a->s1[m]?=st[m]?:=λm g=>by rw[<-x,Xq (Xp g)]
 let V:s1.length=st.length:=by rw[<-x,XA]
 clear x;show aM d rfl (aM d rfl (mZ (C _) (p.d.it _) λok Q=>⟨cL (by rw[gn,Xk];lia),?_⟩));show zip_rows (h:=λi=>T.low t i) S y W (Q _ (C _) (p.d.it _)) (λi e r I K' q=>⟨_,rfl,I.from λP z=>?_⟩) ?_
 . show⟨P,L,M,_,_,_,rfl,z.it _,G.it _,H.it _,len i r,R i r,ib q⟩
 show dD n (Xo rfl) ?_;rw[F];obtain⟨c,l⟩:=E (f:="lows") (v:= .lst ((List.range T.w).map λj=> .int (T.low t j))) d n;generalize w:s1.set a _=s2 at c l⊢;let X:∀m,m≠a->s2[m]?=st[m]?:=λm g=>by rw[<-w,Xq (Xp g),Y m g]
 let U:s2.length=st.length:=by rw[<-w,XA,V]
 clear w Y V n d;show aM c rfl (aM c rfl (mZ (C _) (p.d.it _) λok Q=>⟨cL (by rw[gn,Xk];lia),?_⟩));show zip_rows (h:=λi=>T.high t i) S y W (Q _ (C _) (p.d.it _)) (λi e r I K' q=>⟨_,rfl,I.from λP z=>?_⟩) ?_
 . show⟨P,L,M,_,_,_,rfl,z.it _,G.it _,H.it _,len i r,R i r,ib q⟩
 show dD l (Xo rfl) ?_;rw[F];obtain⟨A,B⟩:=E (f:="highs") (v:= .lst ((List.range T.w).map λj=> .int (T.high t j))) c l;generalize u:s2.set a _=s3 at A B⊢;let f3:∀m,m≠a->s3[m]?=st[m]?:=λm g=>by rw[<-u,Xq (Xp g),X m g]
 let l3:s3.length=st.length:=by rw[<-u,XA,U]
 clear u X U l c;show aM A rfl (p.c.from λec hc=>?_);show⟨ec,L,M,_,_,_,rfl,hc.it _,G.it _,H.it _,by rw[YC,o.lc];lia,to.sc.drop,?_⟩;show dD B (Xo rfl) ?_;show k _ ?_ (by rw[XA,l3]) λm g=>by rw[Xq (Xp g),f3 m g]
 unfold Ah;rw[Xx (by lia)];rfl
def dG(st:ag)(b:Nat)(T:Pl.Tk):Prop:=∃(e a d dl c:D) (L:Nat),KQ T e a d dl c/\st[b]?=some (.ins aR (q_ e a d dl c T.F++([("layers",.lst ((List.range (T.m+1)).map λj=> .ref (L+j)))]:List (Str×D))))/\∀t,t<=T.m->Ah st T (L+t) t
def mW:bV:=λc st K=>∃(b:Nat) (T:Pl.Tk) (dc dr dd dl dh:D),c=[.ref b,dc,dr,dd,dl,dh,dP T.F]/\st[b]?=some (.ins aR [])/\rp T/\KQ T dc dr dd dl dh/\∀a,dG a b T->st.length<=a.length->(∀m,m<st.length->m≠b->a[m]?=st[m]?)->K .au a
def m4:List Str:=["self","costs","rows","due","low","high","steps"]
def zk:DS:=(ay (fy aR "costs" (aa 0) (aa 1))
 (ay (fy aR "rows" (aa 0) (aa 2))
 (ay (fy aR "due" (aa 0) (aa 3))
 (ay (fy aR "low" (aa 0) (aa 4))
 (ay (fy aR "high" (aa 0) (aa 5))
 (ay (fy aR "steps" (aa 0) (aa 6))
 (fy aR "layers" (aa 0) (aj cQ (dX (fC (aa 6)) [none,some 0] (cB 0) cT (pB dj jq (ae (aa 1) (ae (aB ir (ae (aa 0) ai)) ai)))) (tN (ae (pB dj jq (ae (aa 0) (ae (ck dY (ae (aa 1) ai)) ai))) ai))))))))))
def CY{F:List (List Int)}{m n k:Nat}{ld:Nat->Nat}(e:Mx.dk m n F)(s:Mx.fb F m n ld)(c:k<m):jd (F.getD k [])= .int ((ld k:Nat):Int):=by
 obtain⟨d,b,a⟩:=s.lead k c;unfold jd;rw[A8 a (ZX b)]
def xN:Xh mW 7 zk m4:=by
 rintro ds st K ⟨b,T,h,d,g,dl,e,rfl,eb,to,B,k⟩;show⟨rfl,?_⟩;let o:=to.ok;let n8:=to.n8;let L:b<st.length:=(Xm.mp eb).1;let q:∀ {s:ag} {fs:List (Str×D)} {v:D} {f:Str},s[b]?=some (.ins aR fs)->s.length=st.length->(∀m,m≠b->s[m]?=st[m]?)->(s.set b (.ins aR (putD f v fs)))[b]?=some (.ins aR (putD f v fs))/\(s.set b (.ins aR (putD f v fs))).length=st.length/\∀m,m≠b->(s.set b (.ins aR (putD f v fs)))[m]?=st[m]?:=λh1 V h3=>⟨Xx (by lia),by rw[XA,V],λm c=>by rw[Xq (Xp c)];show h3 m c⟩
 show dD eb (Xo rfl) ?_;obtain⟨I,R,f1⟩:=q (f:="costs") (v:=h) eb rfl λ_ _=>rfl;generalize st.set b _=s1 at I R f1⊢;show dD I (Xo rfl) ?_;obtain⟨H,Q,f2⟩:=q (f:="rows") (v:=d) I R f1;generalize s1.set b _=s2 at H Q f2⊢;show dD H (Xo rfl) ?_;obtain⟨G,P,f3⟩:=q (f:="due") (v:=g) H Q f2;generalize s2.set b _=s3 at G P f3⊢;show dD G (Xo rfl) ?_;obtain⟨F,O,Z⟩:=q (f:="low") (v:=dl) G P f3;generalize s3.set b _=s4 at F O Z⊢;show dD F (Xo rfl) ?_;obtain⟨E,N,Y⟩:=q (f:="high") (v:=e) F O Z;generalize s4.set b _=s5 at E N Y⊢;show dD E (Xo rfl) ?_;obtain⟨w,l6,f6⟩:=q (f:="steps") (v:=dP T.F) E N Y;generalize s5.set b _=s6 at w l6 f6⊢;clear I R f1 H Q f2 G P f3 F O Z E N Y;let w:s6[b]?=some (.ins aR (q_ h d g dl e T.F)):=w;let lF:=o.lF.len;let m8:=to.m8;show jJ ⟨cL (by rw[Xk];lia),?_⟩;show iz (λrest p a=>∃i,i+rest.length=T.m/\rest=(T.F.map aw).drop i/\p=((List.range i).map λj=> .ref (st.length+j))/\a.length=st.length+i/\(∀j,j<i->Ah a T (st.length+j) j)/\∀m,m<st.length->a[m]?=s6[m]?) ?_ ?_ _ _ _ ⟨0,by rw[Xk];lia,rfl,rfl,l6,λj hj=>absurd hj (XS _),λ_ _=>rfl⟩
 . rintro p a ⟨i,C,_,rfl,l,U,u⟩;rw[Zo,ab4]at C;subst C;show⟨trivial,?_⟩;let S:T.eU T.m=T.n:=Xn (by lia);show cK (B.c.it _) ?_;rw[Xk,o.lc,<-S]
   let n:(a++[Cell.ins dj []])[b]?=some (.ins aR (q_ h d g dl e T.F)):=by
    rw[Xs (by lia),u b L];show w
   show⟨a.length,b,T.m,T,h,d,g,dl,e,rfl,by lia,by simp,n,to,B,λy J M X=>⟨rfl,?_⟩⟩;let r:∀m,m<a.length->y[m]?=a[m]?:=λm c=>by rw[X m (by lia),Xs c]
   let e8:y[b]?=some (.ins aR (q_ h d g dl e T.F)):=by rw[r b (by lia),u b L];show w
   show⟨Xo rfl,?_⟩;show Fs (cL (by simp;lia)) ?_;show dD e8 (Xo rfl) ?_;let ab:y.length=st.length+T.m+1:=by rw[M,Yn,l];rfl
   show k _ ⟨h,d,g,dl,e,st.length,B,?_,λt ht=>?_⟩ (by rw[XA];lia) λm c A=>?_
   . rw[Xx (by lia)];let:((List.range T.m).map λj=>D.ref (st.length+j))++[.ref a.length]=(List.range (T.m+1)).map λj=> .ref (st.length+j):=by rw[aal,YS,l];rfl
     rw[this];rfl
   . unfold Ah;rw[Xq (by lia)];by_cases z:t=T.m
     . subst z;rw[<-l];show J
     . rw[r _ (by lia)];show U t (by lia)
   . rw[Xq (Xp A),r m (by lia),u m c,f6 m A]
 . rintro x rest p a ⟨i,C,hx,rfl,l,U,u⟩ next
   rw[XH]at C;let li:i<(T.F.map aw).length:=by rw[Xk];lia
   rw[XN li]at hx;injection hx with h1 V;let W:x=aw (T.F.getD i []):=by rw[h1,Zf,Mx.aN (by lia)]
   subst W;show⟨trivial,_,rfl,?_⟩;show⟨_,_,rfl,rfl,?_⟩;rw[CY o.lF o.st (show i<T.m by lia)];let S:T.eU i=T.ld i:=Xr (by lia);rw[<-S]
   let n:(a++[Cell.ins dj []])[b]?=some (.ins aR (q_ h d g dl e T.F)):=by
    rw[Xs (by lia),u b L];show w
   show⟨a.length,b,i,T,h,d,g,dl,e,rfl,by lia,by simp,n,to,B,λy J M X=>⟨rfl,?_⟩⟩;let r:∀m,m<a.length->y[m]?=a[m]?:=λm c=>by rw[X m (by lia),Xs c]
   show next _ _ ⟨i+1,by lia,V,by rw[aal,YS,l];rfl,by rw[M,Yn,l];rfl,λj hj=>?_,λm c=>by rw[r m (by lia),u m c]⟩
   by_cases z:j=i
   . subst z;rw[<-l];show J
   . unfold Ah;rw[r _ (by lia)];show U j (by lia)
def jB:bV:=λa st K=>∃(b t:Nat) (T:Pl.Tk),a=[.ref b,.int (t:Int)]/\dG st b T/\T.Ok/\K (.bl (decide (t=T.m))) st
def o8:List Str:=["self","taken"]
def BK:DS:=(aU (aj jx (aa 1) (ck dY (ae (bO aR "steps" (aa 0)) ai))))
def zF:Xh jB 2 BK o8:=by
 rintro d st K ⟨b,t,T,rfl,⟨l,e,g,dl,f,L,c,a,_⟩,o,k⟩;show⟨rfl,aM a rfl (cK rfl (eq2 (λh=>?_) λh=>?_))⟩
 . rw[Xk,o.lF.len]at h;rw[XQ (by lia)]at k;show k
 . rw[Xk,o.lF.len]at h;rw[XG (by lia)]at k;show k
def j9:bV:=λa st K=>∃(b t:Nat) (T:Pl.Tk) (dr:D) (row:List Int),a=[.ref b,.int (t:Int),dr]/\dG st b T/\t<=T.m/\LT dr row/\K (aw (row.take (T.eU t))) st
def pY:List Str:=["self","taken","row"]
def DG:DS:=(aU (ck dN (ae (iu (aa 2) fW (jZ (bO dj "place" (aj aJ (bO aR "layers" (aa 0)) (aa 1))))) ai)))
def dG.lay{st:ag}{T:Pl.Tk}(a:t<=T.m):eP ((List.range (T.m+1)).map λj=>D.ref (L+j)) (t:Int)=some (.ref (L+t)):=by
 show gc ?_;rw[XB,aah (by lia)];rfl
def LT.to{ns:List Int}{st:ag}{K:DK}(h:LT d ns)(k:∀e,LT e (ns.take p)->K e st):ka d none (some (p:Int)) st K:=by
 let e:L3.cutD (ao ns) none (some (p:Int))=ao (ns.take p):=by
  unfold L3.cutD;rw[HT.vO,HT.sV];simp![abV,abz];unfold ao;rw[Xk,<-abc];congr 1;by_cases z:p<=ns.length
  . rw[aak z]
  . rw[aaI (by lia),Yu (Xl _),Yu (by lia)]
 rcases h with rfl|rfl
 . show AU ?_;rw[e];show k _ (.inl rfl)
 . show mO ?_;rw[e];show k _ (.inr rfl)
def BA:Xh j9 3 DG pY:=by
 rintro l st K ⟨b,t,T,m,row,rfl,⟨p,q,o,dl,n,L,h,g,c⟩,a,d,k⟩;show⟨rfl,?_⟩;show aM g rfl (az rfl (dG.lay (st:=st) a) (aM (c t a) rfl (d.to λe f=>dz (f.it _) k)))
def k_:bV:=λa st K=>∃(b c:Nat) (T:Pl.Tk) (dr:D) (row:List Int),a=[.ref b,.int (c:Int),dr]/\dG st b T/\T.Ok/\LT dr row/\row.length=T.n/\c<T.n/\K (.bl (!(decide (T.l.getD c 0<=row.getD c 0)&&decide (row.getD c 0<=T.h.getD c 0)))) st
def kZ:List Str:=["self","place","row"]
def wq:DS:=(aU (yZ (aV (oH yQ yQ (aj aJ (bO aR "low" (aa 0)) (aa 1)) (aj aJ (aa 2) (aa 1)) (aj aJ (bO aR "high" (aa 0)) (aa 1))))))
def LT.at{ns:List Int}{st:ag}{K:DK}(h:LT d ns)(a:c<ns.length)(k:K (.int (ns.getD c 0)) st):aJ d (.int (c:Int)) st K:=
 az (h.it st) (gc (by rw[XB,Xv a,Mx.aN a];rfl)) k
def uH:Xh k_ 3 wq kZ:=by
 rintro m st K ⟨b,c,T,n,row,rfl,⟨r,s,q,dl,p,L,d,f,l⟩,o,h,g,a,k⟩;show⟨rfl,?_⟩;show aM f rfl (d.l.at (by rw[o.ll];show a) (h.at (by rw[g];show a) (yh ?_)));cases e:decide (T.l.getD c 0<=row.getD c 0)with
 |false=>rw[e]at k;show k
 |true=>
  rw[e]at k;show aM f rfl (d.h.at (by rw[o.lh];show a) (yh k))
def mj:bV:=λa st K=>∃(b j t:Nat) (T:Pl.Tk) (f:List Int),a=[.ref b,.int (j:Int),.int (t:Int),aw f]/\dG st b T/\rp T/\t<=T.m/\j<T.w/\K (.bl (!(decide (T.low t j<=Mx.bN (T.R.getD j []) f)&&decide (Mx.bN (T.R.getD j []) f<=T.high t j)))) st
def mE:List Str:=["self","k","taken","fixed","layer"]
def xf:DS:=(ay (aL 4 (aj aJ (bO aR "layers" (aa 0)) (aa 2)))
 (aU (yZ (aV (oH yQ yQ (aj aJ (bO dj "lows" (aa 4)) (aa 1)) (aB vZ (ae (aj aJ (bO aR "rows" (aa 0)) (aa 1)) (ae (aa 3) ai))) (aj aJ (bO dj "highs" (aa 4)) (aa 1)))))))
def JK{h:Nat->Int}{w j:Nat}(a:j<w):eP ((List.range w).map λj=>D.int (h j)) (j:Int)=some (.int (h j)):=by
 show gc ?_;rw[XB,aah a];rfl
def uv.dot{a b:List Int}(h:uv a):∀x∈a,∀y∈b,IntMulOk x y:=λx c _ _=>dZ (h x c).1 (h x c).2
def wd:Xh mj 4 xf mE:=by
 rintro v st K ⟨b,j,t,T,f,rfl,⟨y,z,x,dl,w,L,h,g,d⟩,to,a,c,k⟩;show⟨rfl,?_⟩;let o:=to.ok;let u:=o.lR.len;let r:=to.n8;obtain⟨q,p,s,l⟩:=h.r.ex;obtain⟨e,n,m⟩:=l j (by lia);let mem:T.R.getD j []∈T.R:=by rw[Mx.aN (by lia)];show Yy _
 show aM g rfl (az rfl (dG.lay (st:=st) a) (aM (d t a) rfl (az rfl (JK c) (aM g rfl (az (p _) (gc n) ?_)))));show⟨e,aw f,_,f,rfl,m.it _,rfl,by rw[o.lR.row c];lia,(to.sR _ mem).dot,yh ?_⟩;cases e:decide (T.low t j<=Mx.bN (T.R.getD j []) f)with
 |false=>rw[e]at k;show k
 |true=>
  rw[e]at k;show aM (d t a) rfl (az rfl (JK c) (yh k))
def iK:bV:=λa st K=>∃(b t:Nat) (T:Pl.Tk) (f:List Int),a=[.ref b,.int (t:Int),aw f]/\dG st b T/\rp T/\t<=T.m/\K (.int (Mx.bN T.c f+T.cut t T.c)) st
def lu:List Str:=["self","taken","fixed"]
def wj:DS:=(aU (aj cQ (aB vZ (ae (bO aR "costs" (aa 0)) (ae (aa 2) ai))) (bO dj "open_cost" (aj aJ (bO aR "layers" (aa 0)) (aa 1)))))
def uX:Xh iK 3 wj lu:=by
 rintro h st K ⟨b,t,T,f,rfl,⟨n,o,m,dl,l,L,d,c,e⟩,to,a,k⟩;show⟨rfl,?_⟩;let g:=to.n8;show aM c rfl ⟨_,_,_,f,rfl,d.c.it _,rfl,by rw[to.ok.lc];lia,to.sc.dot,?_⟩;show aM c rfl (az rfl (dG.lay (st:=st) a) (aM (e t a) rfl (dm k)))
def my:bV:=λa st K=>∃(b t:Nat) (T:Pl.Tk) (f p:List Int) (c:Int),a=[.ref b,.int (t:Int),aw f,.int c,aw p]/\dG st b T/\rp T/\t<=T.m/\∀v:Bool,K (.bl v) st
def mx:List Str:=["self","taken","fixed","cost","plan","least"]
def xZ:DS:=(ay (aL 5 (cE aR "least_cost" iK (aa 0) (ae (aa 1) (ae (aa 2) ai))))
 (aU (MF (aj tZ (aa 5) (aa 3)) (qG (aj jx (aa 5) (aa 3)) (aj Df (aa 2) (ck dN (ae (iu (aa 4) fW (jZ (ck dY (ae (aa 2) ai)))) ai)))))))
def Al:oM (n+1) (aw f) (aw p)=true:=by
 unfold oM;show Yi.mpr λj a=>?_;rw[YM,Xk,Xk]at a
 let e:∀ {q:List Int},j<q.length->(ao q).getD j .au= .int (q.getD j 0):=λ{q} h=>by
  rw[Xw,XB,Xv h,Mx.aN h];rfl
 change(pl 30 ((ao f).getD j .au)&&pl 30 ((ao p).getD j .au)&&oM n ((ao f).getD j .au) ((ao p).getD j .au))=true;rw[e (by lia),e (by lia)];cases n<;>rfl
def wu:Xh my 5 xZ mx:=by
 rintro n st K ⟨b,t,T,f,p,c,rfl,tk,to,d,k⟩;show⟨rfl,?_⟩;let a:=tk;obtain⟨r,s,q,dl,o,L,l,h,m⟩:=a;show cS h rfl ⟨b,t,T,f,rfl,tk,to,d,BY ?_⟩;cases (decide (c<Mx.bN T.c f+T.cut t T.c))with
 |true=>show k true
 |false=>
  show yc ?_;cases (decide (Mx.bN T.c f+T.cut t T.c=c))with
  |false=>show k false
  |true=>
   show cK rfl ?_;rw[Xk];show LT.to (.inr rfl) λe g=>dz (g.it _) (R8 Al (k _))
structure Upd(st:ag)(n:Nat)(st':ag):Prop where
 len:st'.length=st.length
 same:∀m,m≠n->st'[m]?=st[m]?
def Upd.refl{st:ag}:Upd st n st:=⟨rfl,λ_ _=>rfl⟩
def Upd.trans{st d c:ag}(a:Upd st n d)(b:Upd d n c):Upd st n c:=⟨b.len.trans a.len,λm h=>(b.same m h).trans (a.same m h)⟩
def Upd.set{st:ag}:Upd st n (st.set n c):=⟨XA,λm h=>Xq (Xp h)⟩
abbrev Ky:=Pl.Ky
abbrev k0:Ky:=(0,[],0,[])
def kD(k:Ky):D:= .tup [.int k.1,aw k.2.1,.int k.2.2.1,aw k.2.2.2]
abbrev Hp(H:List Ky):Prop:=Pl.Heap Pl.mK k0 H
structure iN(st:ag)(a hc:Nat)(H:List Ky):Prop where
 ea:st[a]?=some (.ins bX [("heap",.ref hc)])
 eh:st[hc]?=some (.lst (H.map kD))
 ne:a≠hc
def kb:bV:=λc st K=>∃(a:Nat),c=[.ref a]/\st[a]?=some (.ins bX [])/\∀b,iN b a st.length []->b.length=st.length+1->(∀m,m<st.length->m≠a->b[m]?=st[m]?)->K .au b
def kc:List Str:=["self"]
def u_:DS:=(fy bX "heap" (aa 0) (Ac ai))
def ug:Xh kb 1 u_ kc:=by
 rintro g st K ⟨a,rfl,c,k⟩;let d:=(Xm.mp c).1;let f:(st++[Cell.lst []])[a]?=some (.ins bX []):=by rw[Xs d];show c
 show⟨rfl,⟨Xo rfl,dD f (Xo rfl) (k _ ⟨?_,?_,by lia⟩ (by simp) λm e b=>?_)⟩⟩
 . rw[Xx (by simp;lia)];rfl
 . rw[Xq (by lia)];simp
 . rw[Xq (Xp b),Xs e]
def ie:bV:=λc st K=>∃(a b:Nat) (H:List Ky),c=[.ref a]/\iN st a b H/\K (.bl (decide (H.length=0))) st
def ku:List Str:=["self"]
def ur:DS:=(aU (aj jx (ck dY (ae (bO bX "heap" (aa 0)) ai)) (dC (.int 0))))
def t_:Xh ie 1 ur ku:=by
 rintro c st K ⟨a,b,H,rfl,w,k⟩;show⟨rfl,aM w.ea rfl (cK (aO w.eh) (yc ?_))⟩;rw[Xk];let:decide ((H.length:Int)=0)=decide (H.length=0):=aaa.mpr (by lia);rw[this];show k
def oZ:bV:=λe st K=>∃(a c:Nat) (H:List Ky) (x:Ky),e=[.ref a,kD x]/\iN st a c H/\Hp H/\H.length<=16000000/\∀b d,iN b a c d->Hp d->d.Perm (x::H)->Upd st c b->K .au b
def o4:List Str:=["self","thing","heap","place"]
def BB:DS:=(ay (aL 2 (bO bX "heap" (aa 0)))
 (ay (aL 3 (ck dY (ae (aa 2) ai)))
 (ay (gf (i5 (aa 2) (aa 1)))
 (ay (m6 (qU (aV (aj tZ (aa 3) (dC (.int 0)))) (aV (aj tS (aa 1) (aj aJ (aa 2) (aj mi (aj jP (aa 3) (dC (.int 1))) (dC (.int 2))))))) (ay (d9 (aa 2) (aa 3) (aj aJ (aa 2) (aj mi (aj jP (aa 3) (dC (.int 1))) (dC (.int 2)))))
 (aL 3 (aj mi (aj jP (aa 3) (dC (.int 1))) (dC (.int 2))))))
 (d9 (aa 2) (aa 3) (aa 1))))))
def AV{e l:Nat->Bool}:∀(k i:Nat),gZ e l a k (i+1)=gZ (λj=>e (j+1)) (λj=>l (j+1)) a k i
 |0,_=>rfl
 |k+1,i=>by
  change(if e (i+1)=true then gZ e l a k (i+1+1)else l (i+1))=if e (i+1)=true then gZ (λj=>e (j+1)) (λj=>l (j+1)) a k (i+1)else l (i+1)
  rw[AV k (i+1)]
def eq_int{i j:Int}:cC (.int i) (.int j)=decide (i=j):=by unfold cC;show FP i j
def D4:∀(f g:List Int),m9 false (n+1) (aw f) (aw g)=Pl.h8 f g
 | [],[]=>rfl
 | [],_::_=>rfl
 |_::_,[]=>rfl
 |x::f,y::g=>by
  let a:=D4 (n:=n) f g;change gZ (λj=>cC ((ao (x::f)).getD j .au) ((ao (y::g)).getD j .au)) (λj=>m9 false n ((ao (x::f)).getD j .au) ((ao (y::g)).getD j .au)) (decide ((ao (x::f)).length<(ao (y::g)).length)) (min (ao (x::f)).length (ao (y::g)).length) 0=if x=y then Pl.h8 f g else decide (x<y)
  let b:min (ao (x::f)).length (ao (y::g)).length=min (ao f).length (ao g).length+1:=by simp
  let c:decide ((ao (x::f)).length<(ao (y::g)).length)=decide ((ao f).length<(ao g).length):=aaa.mpr (by simp);rw[b,c];unfold gZ;change(if cC (.int x) (.int y)=true then _ else m9 false n (.int x) (.int y))=_;rw[eq_int];by_cases h:x=y
  . rw[Xr (XQ h),Xr h,AV];show a
  . rw[Xn (by rw[XG h];decide),Xn h];cases n<;>rfl
def C1{f g:List Int}:cC (aw f) (aw g)=decide (f=g):=by unfold cC;show AL f g
def RQ(a b:Ky):m9 false 3 (kD a) (kD b)=Pl.mK a b:=by
 obtain⟨p,o,n,m⟩:=a;obtain⟨l,k,h,g⟩:=b;change(if cC (.int p) (.int l)=true then(if cC (aw o) (aw k)=true then(if cC (.int n) (.int h)=true then(if cC (aw m) (aw g)=true then decide (4<4)else m9 false 2 (aw m) (aw g))else m9 false 2 (.int n) (.int h))else m9 false 2 (aw o) (aw k))else m9 false 2 (.int p) (.int l))=_;rw[eq_int,eq_int,C1,C1,D4,D4];unfold Pl.mK Pl.sA;dsimp only;by_cases e:p=l
 . rw[Xr (XQ e),Xr e];by_cases d:o=k
   . rw[Xr (XQ d),Xr d];by_cases c:n=h
     . rw[Xr (XQ c),Xr c];by_cases f:m=g
       . rw[Xr (XQ f),f,Pl.vG];rfl
       . rw[Xn (by rw[XG f];decide)]
     . rw[Xn (by rw[XG c];decide),Xn c];rfl
   . rw[Xn (by rw[XG d];decide),Xn d]
 . rw[Xn (by rw[XG e];decide),Xn e];rfl
def S_(a b:Ky):oM 3 (kD a) (kD b)=true:=by
 let e:oM 2 (aw a.2.1) (aw b.2.1)=true:=Al;let d:oM 2 (aw a.2.2.2) (aw b.2.2.2)=true:=Al;let p:∀f:List Int,pl 30 (aw f)=true:=λf=>vB;change((List.range 4).all λj=>pl 30 ([D.int a.1,aw a.2.1,.int a.2.2.1,aw a.2.2.2].getD j .au)&&pl 30 ([D.int b.1,aw b.2.1,.int b.2.2.1,aw b.2.2.2].getD j .au)&&oM 2 ([D.int a.1,aw a.2.1,.int a.2.2.1,aw a.2.2.2].getD j .au) ([D.int b.1,aw b.2.1,.int b.2.2.1,aw b.2.2.2].getD j .au))=true;show Yi.mpr λj c=>?_;let c:j<4:=YM.mp c;match j,c with
 |0,_=>rfl
 |1,_=>change(pl 30 (aw a.2.1)&&pl 30 (aw b.2.1)&&oM 2 (aw a.2.1) (aw b.2.1))=true;rw[p,p,e];rfl
 |2,_=>rfl
 |3,_=>change(pl 30 (aw a.2.2.2)&&pl 30 (aw b.2.2.2)&&oM 2 (aw a.2.2.2) (aw b.2.2.2))=true;rw[p,p,d];rfl
def zY{st:ag}{K:DK}{a b:Ky}(k:K (.bl (Pl.mK a b)) st):tS (kD a) (kD b) st K:=RC (S_ a b) (by rw[RQ];show k)
def ql{L:List Ky}{i:Nat}(h:i<L.length):eP (L.map kD) (i:Int)=some (kD (L.getD i k0)):=gc (by rw[XB,Xv h,Mx.aN h];rfl)
def half{p:Nat}(h:0<p):((p:Int)-1).fdiv 2=(((p-1)/2:Nat):Int):=by
 rw[Yh _ (by decide)];lia
def zp:Xh oZ 2 BB o4:=by
 rintro C st K ⟨a,c,H,x,rfl,w,y,B,k⟩;show⟨rfl,?_⟩;let v:=(Xm.mp w.eh).1;show aM w.ea rfl (cK (aO w.eh) ?_);rw[Xk];show vi rfl w.eh (r_ rfl (rZ w.eh (by rw[Zg,Xk];lia) ?_));let A:H.map kD++[kD x]=(H++[x]).map kD:=by rw[YS];rfl
 rw[A];let s:Upd st c (st.set c (.lst ((H++[x]).map kD))):=Upd.set;let r:(st.set c (.lst ((H++[x]).map kD)))[c]?=some (.lst ((H++[x]).map kD)):=Xx v;generalize st.set c (.lst ((H++[x]).map kD))=s0 at s r⊢;let t:Pl.Up Pl.mK k0 (H++[x]) H.length x:=Pl.Up.start y
 let u:((H++[x]).set H.length x).Perm (x::H):=by
  rw[show(H++[x]).set H.length x=H++[x] by simp];show abd x H
 show⟨λm σ b=>∃L:List Ky,σ=[some (.ref a),some (kD x),some (.ref c),some (.int (m:Int))]/\b[c]?=some (.lst (L.map kD))/\Pl.Up Pl.mK k0 L m x/\(L.set m x).Perm (x::H)/\Upd st c b,⟨H.length,H++[x],rfl,r,t,u,s⟩,?_⟩;rintro m σ b ⟨L,rfl,h,l,q,U⟩;let n:=l.lp;let f:=(Xm.mp h).1
 let g:Pl.Heap Pl.mK k0 (L.set m x)->(d9 (aa 2) (aa 3) (aa 1)) {nx:=λ_ b=>K .au b,rt:=K} [some (.ref a),some (kD x),some (.ref c),some (.int (m:Int))] b:=λz=>by
  show gK h (by rw[Xk];show iX n) ?_;let p:(L.map kD).set m (kD x)=(L.set m x).map kD:=by rw[ZD]
  rw[p];show k _ (L.set m x) ⟨?_,Xx f,w.ne⟩ z q (U.trans Upd.set);rw[Xq (Xp w.ne),U.same a w.ne];show w.ea
 show Q8 (λd=>?_) λd=>?_
 . have d:0<m:=by lia
   let o:(m-1)/2<L.length:=by lia
   show ib (pM (by decide) (by decide) ?_);rw[half d];show az (aO h) (ql o) (zY ?_);cases e:Pl.mK x (L.getD ((m-1)/2) k0)with
   |false=>show g (l.done (.inr e))
   |true=>
    show du ?_;show ib (pM (by decide) (by decide) ?_);rw[half d];show az (aO h) (ql o) (gK h (by rw[Xk];show iX n) ?_);let p:(L.map kD).set m (kD (L.getD ((m-1)/2) k0))=(L.set m (L.getD ((m-1)/2) k0)).map kD:=by rw[ZD]
    rw[p];show ib (pM (by decide) (by decide) ?_);rw[half d];show⟨(m-1)/2,by lia,_,rfl,Xx f,l.step Pl.oz d e,?_,U.trans Upd.set⟩;show(Pl.swap_perm n o (by lia)).trans q
 . show g (l.done (.inl (by lia)))
structure gI(L:List Ky)(p b:Nat):Prop where
 b0:0<b
 lt:b<L.length
 par:(b-1)/2=p
 le:∀i,0<i->i<L.length->(i-1)/2=p->Pl.mK (L.getD i k0) (L.getD b k0)=false
def eZ:bV:=λd st K=>∃(a c p:Nat) (L:List Ky),d=[.ref a,.int (p:Int)]/\iN st a c L/\p<L.length/\L.length<=16000000/\(L.length<=2*p+1->K .au st)/\∀b,gI L p b->K (.int (b:Int)) st
def iB:List Str:=["self","place","left"]
def rg:DS:=(ay (aL 2 (aj cQ (aj cR (dC (.int 2)) (aa 1)) (dC (.int 1))))
 (ay (di (aV (aj FX (aa 2) (ck dY (ae (bO bX "heap" (aa 0)) ai)))) (aU (dC .au)) cJ)
 (ay (di (qU (aV (aj qQ (aj cQ (aa 2) (dC (.int 1))) (ck dY (ae (bO bX "heap" (aa 0)) ai)))) (aV (aj tS (aj aJ (bO bX "heap" (aa 0)) (aj cQ (aa 2) (dC (.int 1)))) (aj aJ (bO bX "heap" (aa 0)) (aa 2))))) (aU (aj cQ (aa 2) (dC (.int 1)))) cJ)
 (aU (aa 2)))))
def qC:Xh eZ 2 rg iB:=by
 rintro s st K ⟨a,f,p,L,rfl,w,q,r,n,d⟩;show⟨rfl,cY (dZ (by decide) (by decide)) (dm ?_)⟩;let o:(2:Int)*(p:Int)+1=((2*p+1:Nat):Int):=by lia
 rw[o];show aM w.ea rfl (cK (aO w.eh) (N8 ?_));rw[Xk];by_cases h:L.length<=2*p+1
 . rw[XQ (by lia)];show n h
 . rw[XG (by lia)];let c:2*p+1<L.length:=by lia
   show dm (aM w.ea rfl (cK (aO w.eh) (Ct ?_)));rw[Xk];let g:((2*p+1:Nat):Int)+1=((2*p+2:Nat):Int):=by lia
   rw[g];let b:=Pl.oz.sf;by_cases m:2*p+2<L.length
   . rw[XQ (by lia)];show aM w.ea rfl (dm ?_);rw[g];show az (aO w.eh) (ql m) (aM w.ea rfl (az (aO w.eh) (ql c) (zY ?_)));cases e:Pl.mK (L.getD (2*p+2) k0) (L.getD (2*p+1) k0)with
     |true=>
      show du (dm ?_);rw[g];show d _ ⟨by lia,m,by lia,λi k l f=>?_⟩;let:i=2*p+1\/i=2*p+2:=by lia
      rcases this with rfl|rfl
      . show Pl.oz.DU e
      . show b _
     |false=>
      show d _ ⟨by lia,c,by lia,λi k l f=>?_⟩;let:i=2*p+1\/i=2*p+2:=by lia
      rcases this with rfl|rfl
      . show b _
      . show e
   . rw[XG (by lia)];show d _ ⟨by lia,c,by lia,λi k l f=>?_⟩;let:i=2*p+1:=by lia
     subst this;show b _
def nF:bV:=λe st K=>∃(a c:Nat) (L:List Ky) (x:Ky),e=[.ref a,kD x]/\iN st a c L/\Pl.Dn Pl.mK k0 L 0 x/\L.length<=16000000/\∀b d,iN b a c d->Hp d->d.Perm (L.set 0 x)->Upd st c b->K .au b
def nS:List Str:=["self","thing","heap","place","below"]
def zP:DS:=(ay (aL 2 (bO bX "heap" (aa 0)))
 (ay (aL 3 (dC (.int 0)))
 (ay (aL 4 (cE bX "lesser_below" eZ (aa 0) (ae (aa 3) ai)))
 (ay (m6 (qU (aV (aj pG (aa 4) (dC .au))) (aV (aj tS (aj aJ (aa 2) (aa 4)) (aa 1)))) (ay (d9 (aa 2) (aa 3) (aj aJ (aa 2) (aa 4)))
 (ay (aL 3 (aa 4))
 (aL 4 (cE bX "lesser_below" eZ (aa 0) (ae (aa 3) ai))))))
 (d9 (aa 2) (aa 3) (aa 1))))))
def yV:Xh nF 2 zP nS:=by
 rintro T st K ⟨a,g,o,x,rfl,w,r,Q,k⟩;show⟨rfl,?_⟩;show aM w.ea rfl ?_;let wt:∀ {f:ag} {L:List Ky},Upd st g f->f[g]?=some (.lst (L.map kD))->iN f a g L:=λU e=>⟨(U.same a w.ne).trans w.ea,e,w.ne⟩
 let N:∀(L:List Ky) (p:Nat) (l:D) (f:ag),(l= .au/\L.length<=2*p+1)\/(∃b:Nat,l= .int (b:Int)/\gI L p b)->f[g]?=some (.lst (L.map kD))->Pl.Dn Pl.mK k0 L p x->(L.set p x).Perm (o.set 0 x)->Upd st g f->L.length=o.length->ay (m6 (qU (aV (aj pG (aa 4) (dC .au))) (aV (aj tS (aj aJ (aa 2) (aa 4)) (aa 1)))) (ay (d9 (aa 2) (aa 3) (aj aJ (aa 2) (aa 4)))
  (ay (aL 3 (aa 4))
  (aL 4 (cE bX "lesser_below" eZ (aa 0) (ae (aa 3) ai))))))
  (d9 (aa 2) (aa 3) (aa 1)) {nx:=λ_ f=>K .au f,rt:=K} [some (.ref a),some (kD x),some (.ref g),some (.int (p:Int)),some l] f:=by
  intro L p l f B q s u U v;show⟨λm σ f=>∃(L:List Ky) (p:Nat) (l:D),m=o.length-p/\σ=[some (.ref a),some (kD x),some (.ref g),some (.int (p:Int)),some l]/\((l= .au/\L.length<=2*p+1)\/∃b:Nat,l= .int (b:Int)/\gI L p b)/\f[g]?=some (.lst (L.map kD))/\Pl.Dn Pl.mK k0 L p x/\(L.set p x).Perm (o.set 0 x)/\Upd st g f/\L.length=o.length,⟨_,L,p,l,rfl,rfl,B,q,s,u,U,v⟩,?_⟩;clear B q s u U v;rintro m σ f ⟨L,p,l,rfl,rfl,B,q,s,u,U,v⟩;let G:=s.lp;let y:=(Xm.mp q).1
  let z:Pl.Heap Pl.mK k0 (L.set p x)->(d9 (aa 2) (aa 3) (aa 1)) {nx:=λ_ f=>K .au f,rt:=K} [some (.ref a),some (kD x),some (.ref g),some (.int (p:Int)),some l] f:=λR=>by
   show gK q (by rw[Xk];show iX G) ?_;let I:(L.map kD).set p (kD x)=(L.set p x).map kD:=by rw[ZD]
   rw[I];show k _ (L.set p x) (wt (U.trans Upd.set) (Xx y)) R u (U.trans Upd.set)
  rcases B with⟨rfl,C⟩|⟨b,rfl,h⟩
  . show oR rfl ?_;show z (s.done Pl.oz λi J M g=>by lia)
  . show oR rfl ?_;show az (aO q) (ql h.lt) (zY ?_);cases e:Pl.mK (L.getD b k0) x with
    |false=>
     show z (s.done Pl.oz λi J M g=>Pl.oz.le e (h.le i J M g))
    |true=>
     show du ?_;show az (aO q) (ql h.lt) (gK q (by rw[Xk];show iX G) ?_);let I:(L.map kD).set p (kD (L.getD b k0))=(L.set p (L.getD b k0)).map kD:=by rw[ZD]
     rw[I];let F:=U.trans (Upd.set (st:=f) (n:=g) (c:= .lst ((L.set p (L.getD b k0)).map kD)));let E:(f.set g (.lst ((L.set p (L.getD b k0)).map kD)))[g]?=some (.lst ((L.set p (L.getD b k0)).map kD)):=Xx y;let A:=s.step Pl.oz h.b0 h.lt h.par h.le e;let O:=h.par;let b0:=h.b0;let t:=(Pl.swap_perm (x:=x) (d:=k0) G h.lt (by lia)).trans u;let P:=h.lt;show cS (wt F E).ea rfl ?_;show⟨a,g,b,L.set p (L.getD b k0),rfl,wt F E,by rw[XA];show P,by rw[XA];lia,λC=>?_,λS H=>?_⟩
     . show⟨o.length-b,by lia,_,b,_,rfl,rfl,.inl ⟨rfl,C⟩,E,A,t,F,by rw[XA];show v⟩
     . show⟨o.length-b,by lia,_,b,_,rfl,rfl,.inr ⟨S,rfl,H⟩,E,A,t,F,by rw[XA];show v⟩
 show cS w.ea rfl ?_;show⟨a,g,0,o,rfl,w,r.lp,Q,λC=>?_,λb h=>?_⟩
 . show N o 0 _ st (.inl ⟨rfl,C⟩) w.eh r (abW _) Upd.refl rfl
 . show N o 0 _ st (.inr ⟨b,rfl,h⟩) w.eh r (abW _) Upd.refl rfl
def gB:bV:=λe st K=>∃(a c:Nat) (H:List Ky),e=[.ref a]/\iN st a c H/\Hp H/\0<H.length/\H.length<=16000000/\∀b d,iN b a c d->Hp d->H.Perm (H.getD 0 k0::d)->Upd st c b->K (kD (H.getD 0 k0)) b
def jr:List Str:=["self","heap","least","last"]
def sM:DS:=(ay (aL 1 (bO bX "heap" (aa 0)))
 (ay (aL 2 (aj aJ (aa 1) (dC (.int 0))))
 (ay (aL 3 (vP (aa 1)))
 (ay (di (aV (aj tZ (ck dY (ae (aa 1) ai)) (dC (.int 0)))) (gf (cE bX "sink" nF (aa 0) (ae (aa 3) ai))) cJ)
 (aU (aa 2))))))
def r9:Xh gB 1 sM jr:=by
 rintro I st K ⟨a,c,H,rfl,w,t,p,G,k⟩;show⟨rfl,?_⟩;let s:=(Xm.mp w.eh).1;show aM w.ea rfl (az (aO w.eh) (ql (i:=0) p) ?_)
 let b:(H.map kD)[(H.map kD).length-1]?=some (kD (H.getD (H.length-1) k0)):=by
  rw[Xk,XB,Xv (by lia),Mx.aN (by lia)];rfl
 show Ox (λJ h=>h) w.eh b ?_;let v:(H.map kD).dropLast=H.dropLast.map kD:=List.map_dropLast.symm;rw[v];let e:Upd st c (st.set c (.lst (H.dropLast.map kD))):=Upd.set;let n:(st.set c (.lst (H.dropLast.map kD)))[c]?=some (.lst (H.dropLast.map kD)):=Xx s;generalize st.set c (.lst (H.dropLast.map kD))=s0 at e n⊢;let f:iN s0 a c H.dropLast:=⟨(e.same a w.ne).trans w.ea,n,w.ne⟩
 show cK (aO n) (BY ?_);rw[Xk]
 obtain⟨y,T,rfl⟩:∃y T,H=y::T:=by cases H with
  |nil=>simp at p
  |cons y T=>show⟨y,T,rfl⟩
 by_cases m:0<(y::T).dropLast.length
 . rw[XQ (by lia)];show du (cS f.ea rfl ?_);show⟨a,c,_,_,rfl,f,Pl.Dn.start t m,by rw[Z0];lia,λg C r l o U=>?_⟩;show k g C r l ?_ (e.trans U);let d:T≠ []:=λz=>by subst z;simp at m
   let B:(y::T).dropLast=y::T.dropLast:=List.dropLast_cons_of_ne_nil d;let E:0<T.length:=List.length_pos_iff.mpr d
   let A:(y::T).getD ((y::T).length-1) k0=T.getLast d:=by
    rw[Mx.aN (by simp),List.getLast_eq_getElem];let:(y::T).length-1=(T.length-1)+1:=by simp;lia
    simp![this,List.getElem_cons_succ]
   rw[B,A,List.set_cons_zero]at o;let x:((y::T).getD 0 k0)=y:=rfl;rw[x];show List.Perm.cons y ?_;show List.Perm.trans ?_ o.symm;let q:=abd (T.getLast d) T.dropLast;rw[List.dropLast_concat_getLast]at q;show q
 . rw[XG (by lia)]
   let d:T=[]:=by
    cases T with
    |nil=>rfl
    |cons z T=>simp at m
   subst d;show k s0 [] f (λi F u=>by simp at u) (abW _) e
structure yp(T:Pl.Tk)(x0:List Int)(B W:Nat):Prop where
 to:rp T
 red:Mx.zH T.F T.m T.ld
 lx:x0.length=T.n
 x0:∀k,k<T.m->0<=x0.getD (T.ld k) 0/\x0.getD (T.ld k) 0<Mx.g T.F k (T.ld k)
 lo:∀c,c<T.n->(T.l.getD c 0).natAbs<=B
 hi:∀c,c<T.n->(T.h.getD c 0).natAbs<=B
 SX:B<=2^40
 sp:∀c,c<T.n->T.h.getD c 0-T.l.getD c 0<=(W:Int)
 wt:(W+2)^T.m<=16000000
structure rX(T:Pl.Tk)(x0:List Int)(B t:Nat)(row:List Int):Prop where
 len:row.length=T.n
 ex:∃z:Nat->Int,(∀k,k<t->(z k).natAbs<=2^k*(B+1))/\∀c,c<T.n->row.getD c 0=x0.getD c 0+Mx.S t λk=>z k*Mx.g T.F k c
def kids(T:Pl.Tk)(t:Nat)(row:List Int):Nat:=(T.lst t row+1-T.jm t row).toNat
def qd(T:Pl.Tk)(t:Nat)(row:List Int)(i:Nat):List Int:=Mx.gm row (T.jm t row+i) (T.F.getD t [])
def gL:bV:=λa st K=>∃(b t B W:Nat) (T:Pl.Tk) (x0 row:List Int),a=[.ref b,.int (t:Int),aw row]/\dG st b T/\yp T x0 B W/\t<T.m/\rX T x0 B t row/\K (.tup [.int (T.jm t row),.lst ((List.range (kids T t row)).map λi=>aw (qd T t row i))]) st
def qw:List Str:=["task","taken","row","step","lead","first","last"]
def xr:DS:=(ay (aL 3 (aj aJ (bO aR "steps" (aa 0)) (aa 1)))
 (ay (aL 4 (aB ir (ae (aa 3) ai)))
 (ay (aL 5 (qV lD (aj ki (aj jP (aj aJ (aa 2) (aa 4)) (aj aJ (bO aR "low" (aa 0)) (aa 4))) (aj aJ (aa 3) (aa 4)))))
 (ay (aL 6 (aj ki (aj jP (aj aJ (bO aR "high" (aa 0)) (aa 4)) (aj aJ (aa 2) (aa 4))) (aj aJ (aa 3) (aa 4))))
 (aU (dA (ae (aa 5) (ae (dX (pH (ae (aa 5) (ae (aj cQ (aa 6) (dC (.int 1))) ai))) [none,some 2,some 3] (cB 0) cT (ck dN (ae (aB mN (ae (aa 1) (ae (aa 0) (ae (aa 2) ai)))) ai))) ai))))))))
def jg{x s:Int}(a:0<s)(h:x.natAbs<=s.natAbs*M):(x.fdiv s).natAbs<=M:=by
 rw[Yh _ (by lia)];obtain⟨c,rfl⟩:∃c:Nat,s=(c:Int):=⟨s.toNat,by lia⟩
 rw[Int.natAbs_natCast]at h;let d:x<=(c:Int)*(M:Int):=by rw[<-Int.natCast_mul];lia
 let b: -((c:Int)*(M:Int))<=x:=by rw[<-Int.natCast_mul];lia
 let f:x/(c:Int)<=(M:Int):=Int.ediv_le_of_le_mul a (by rw[Y_];show d);let e: -(M:Int)<=x/(c:Int):=(aaD a).mpr (by rw[Zv,Y_];show b);lia
def FQ{z f:Nat->Int}:∀t,(∀k,k<t->(z k).natAbs<=2^k*(B+1))->(∀k,k<t->(f k).natAbs<=s)->(Mx.S t λk=>z k*f k).natAbs<=s*((2^t-1)*(B+1))
 |0,_,_=>by change(0:Int).natAbs<=_;simp
 |t+1,a,b=>by
  let g:=FQ t (λk c=>a k (by lia)) λk c=>b k (by lia);change((Mx.S t λk=>z k*f k)+z t*f t).natAbs<=_;let l:=Int.natAbs_add_le (Mx.S t λk=>z k*f k) (z t*f t);let h:(z t*f t).natAbs<=2^t*(B+1)*s:=by rw[Ym];show X6 (a t (by lia)) (b t (by lia))
  let e:s*((2^(t+1)-1)*(B+1))=s*((2^t-1)*(B+1))+2^t*(B+1)*s:=by
   let p:0<2^t:=ZQ (by decide);let d:2^(t+1)-1=(2^t-1)+2^t:=by rw[YA];lia
   rw[d,aaf,Nat.mul_add,YV (2^t*(B+1)) s]
  lia
def rX.near{T:Pl.Tk}(a:yp T d B W)(h:rX T d B t row)(c:t<T.m):(T.jm t row).natAbs<=2^t*(B+1)/\(T.lst t row).natAbs<=2^t*(B+1):=by
 let o:=a.to.ok;obtain⟨b,f,F⟩:=o.st.lead t c;obtain⟨z,q,g⟩:=h.ex;let g:=g (T.ld t) b;obtain⟨E,C⟩:=a.x0 t c
 let A:∀k,k<t->(Mx.g T.F k (T.ld t)).natAbs<=(Mx.g T.F t (T.ld t)).natAbs:=λk w=>by
  let:=a.red k t w c;lia
 let r:=FQ t q A;let s:=a.lo (T.ld t) b;let x:=a.hi (T.ld t) b;let p:0<2^t:=ZQ (by decide)
 let key:∀y:Int,y.natAbs<=B->(row.getD (T.ld t) 0-y).natAbs<=(Mx.g T.F t (T.ld t)).natAbs*(2^t*(B+1)):=λy G=>by
  let e:2^t*(B+1)=(2^t-1)*(B+1)+(B+1):=by
   rw[<-YU];congr 1;lia
  rw[e,Nat.mul_add];let n:1<=(Mx.g T.F t (T.ld t)).natAbs:=by lia
  let m:(Mx.g T.F t (T.ld t)).natAbs*(B+1)=(Mx.g T.F t (T.ld t)).natAbs*B+(Mx.g T.F t (T.ld t)).natAbs:=Nat.mul_succ _ _;let l:B<=(Mx.g T.F t (T.ld t)).natAbs*B:=abJ _ n;generalize(Mx.g T.F t (T.ld t)).natAbs*((2^t-1)*(B+1))=u at r⊢;generalize(Mx.g T.F t (T.ld t)).natAbs*B=v at m l⊢;lia
 constructor
 . unfold Pl.Tk.jm;rw[YX];show jg f (key _ s)
 . unfold Pl.Tk.lst;show jg f ?_;let:=key _ x;lia
def yp.kids{T:Pl.Tk}{e row:List Int}(c:yp T e B W)(g:t<T.m):kids T t row<=W+1:=by
 obtain⟨f,d,h⟩:=c.to.ok.st.lead t g;let k:=c.sp (T.ld t) f;unfold Prog.kids Pl.Tk.jm Pl.Tk.lst;rw[Yh _ (by lia),Yh _ (by lia)];let o:=Int.ediv_mul_le (T.h.getD (T.ld t) 0-row.getD (T.ld t) 0) (ZX d);let n:=Int.ediv_mul_le (row.getD (T.ld t) 0-T.l.getD (T.ld t) 0) (ZX d);generalize(T.h.getD (T.ld t) 0-row.getD (T.ld t) 0)/Mx.g T.F t (T.ld t)=a at*;generalize(row.getD (T.ld t) 0-T.l.getD (T.ld t) 0)/Mx.g T.F t (T.ld t)=b at*;let m:(a+b)*Mx.g T.F t (T.ld t)<=W:=by rw[Int.add_mul];lia
 let l:a+b<=W:=by
  rcases Int.lt_or_le (a+b) 0 with z|z
  . lia
  . have:=Zb (show(1:Int)<=Mx.g T.F t (T.ld t) by lia) z;lia
 lia
def T4(d:B<=2^40)(a:t<=16):2^t*(B+1)<=2^58:=by
 let c:2^t<=2^16:=XD (by decide) a;let b:B+1<=2^41:=by lia
 show Xu (X6 c b) (by decide)
def wb:Xh gL 3 xr qw:=by
 rintro S st K ⟨b,t,B,W,T,E,row,rfl,⟨X,Y,V,dl,U,L,n,l,J⟩,a,c,p,k⟩;show⟨rfl,?_⟩;let o:=a.to.ok;let H:=a.to.n8;let I:=a.to.m8;obtain⟨r,P,O⟩:=o.st.lead t c;let N:=o.lF.len;let M:=p.len;let v:=o.lF.row c;let e:eP (T.F.map aw) (t:Int)=some (aw (T.F.getD t [])):=gc (by rw[XB,Xv (by lia),Mx.aN (by lia)];rfl);obtain⟨G,F⟩:=p.near a c;let u:=T4 a.SX (show t<=16 by lia);show aM l rfl (az rfl e ⟨_,_,rfl,rfl,?_⟩);rw[CY o.lF o.st c];let tr:LT (aw row) row:= .inr rfl;let m:LT (aw (T.F.getD t [])) (T.F.getD t []):= .inr rfl;let h:(T.F.getD t []).getD (T.ld t) 0=Mx.g T.F t (T.ld t):=rfl;show tr.at (by lia) (aM l rfl (n.l.at (by rw[o.ll];show r) (ib (m.at (by lia) (jf (by rw[h];lia) (ko ?_))))));show aM l rfl (n.h.at (by rw[o.lh];show r) (tr.at (by lia) (ib (m.at (by lia) (jf (by rw[h];lia) ?_)))));rw[h];let C: -((row.getD (T.ld t) 0-T.l.getD (T.ld t) 0).fdiv (Mx.g T.F t (T.ld t)))=T.jm t row:=rfl;let A:(T.h.getD (T.ld t) 0-row.getD (T.ld t) 0).fdiv (Mx.g T.F t (T.ld t))=T.lst t row:=rfl;rw[C,A];show dm (zN ⟨by lia,by lia,by lia,by lia⟩ ?_)
 let cl:kids T t row<=16000000:=by
  let R:=a.kids (row:=row) c;let Q:=a.wt;let w:(W+2)^1<=(W+2)^T.m:=XD (by lia) (by lia);rw[Nat.pow_one]at w;lia
 show⟨by rw[iq,Zg];unfold kids at cl;lia,?_⟩
 let y:∀i,i<kids T t row->((T.jm t row+i:Int)).natAbs<=2^58:=λi f=>by
  unfold kids at f;lia
 show comp_map (g:=λd=>match d with| .int z=>aw (Mx.gm row z (T.F.getD t []))|_=> .au) trivial _ (λd s Z q=>?_) ?_
 . unfold dS at s;obtain⟨i,f,rfl⟩:=X5.mp s;let f:=YM.mp f;let:=y i f;show⟨_,rfl,_,_,_,_,_,rfl,rfl,rfl,by lia,λb _=>dZ (by lia) (by lia),dz rfl q⟩
 . have x:(dS (T.jm t row) (T.lst t row+1-T.jm t row).toNat).map (λd=>match d with| .int z=>aw (Mx.gm row z (T.F.getD t []))|_=>D.au)=(List.range (kids T t row)).map λi=>aw (qd T t row i):=by
    unfold dS;rw[Yk];rfl
   rw[x];show⟨Xo rfl,k⟩
def kU:bV:=λa st K=>∃(b t:Nat) (T:Pl.Tk) (row:List Int),a=[.ref b,.int (t:Int),aw row]/\dG st b T/\rp T/\t<=T.m/\row.length=T.n/\(T.Open t row->K .au st)/\(¬T.Open t row->∀s (i:Nat),K (.tup [.str s,.int (i:Int)]) st)
def sh:List Str:=["task","taken","row","fixed","place","k"]
def Av:DS:=(ay (aL 3 (cE aR "fixed" j9 (aa 0) (ae (aa 1) (ae (aa 2) ai))))
 (ay (iy (gE (ae (ck dY (ae (aa 3) ai)) ai)) (cB 4) (di (aV (cE aR "is_outside" k_ (aa 0) (ae (aa 4) (ae (aa 2) ai)))) (aU (dA (ae (dC (.str "out")) (ae (aa 4) ai)))) cJ))
 (ay (iy (gE (ae (ck dY (ae (bO aR "rows" (aa 0)) ai)) ai)) (cB 5) (di (aV (cE aR "is_broken" mj (aa 0) (ae (aa 5) (ae (aa 1) (ae (aa 3) ai))))) (aU (dA (ae (dC (.str "row")) (ae (aa 5) ai)))) cJ))
 (aU (dC .au)))))
def zd:Xh kU 3 Av sh:=by
 rintro N st K ⟨b,t,T,row,rfl,tk,to,w,y,B,v⟩;show⟨rfl,?_⟩;let o:=to.ok;let H:=to.n8;let F:=to.w8;let M:=o.yM t;let A:=o.lR.len;let m:=tk;obtain⟨Q,R,P,dl,O,L,x,l,I⟩:=m;obtain⟨G,E,p,J⟩:=x.r.ex;show cS l rfl ⟨b,t,T,_,row,rfl,tk,w,.inr rfl,?_⟩;show cK rfl ?_;let lt:(ao (row.take (T.eU t))).length=T.eU t:=by rw[Xk,Yx];lia
 rw[lt];show jH ⟨by lia,by lia⟩ ?_;rw[XX];show j8 (T.eU t) (λj σ s=>s=st/\(∃f d:Option D,σ=[some (.ref b),some (.int (t:Int)),some (aw row),some (aw (row.take (T.eU t))),f,d])/\∀c,c<j->T.l.getD c 0<=row.getD c 0/\row.getD c 0<=T.h.getD c 0) ?_ ?_ ⟨rfl,⟨none,none,rfl⟩,λc q=>absurd q (XS _)⟩
 . rintro σ s ⟨rfl,⟨f,d,rfl⟩,a⟩;show aM l rfl (cK (E _) ?_);rw[p,A];show jH ⟨by lia,by lia⟩ ?_;rw[XX];show j8 T.w (λj σ n=>n=s/\(∃f d:Option D,σ=[some (.ref b),some (.int (t:Int)),some (aw row),some (aw (row.take (T.eU t))),f,d])/\∀i,i<j->T.low t i<=Mx.bN (T.R.getD i []) (row.take (T.eU t))/\Mx.bN (T.R.getD i []) (row.take (T.eU t))<=T.high t i) ?_ ?_ ⟨rfl,⟨_,_,rfl⟩,λc q=>absurd q (XS _)⟩
   . rintro σ n ⟨rfl,⟨f,d,rfl⟩,g⟩;show B ⟨a,g⟩
   . rintro j σ n rest k ⟨rfl,⟨f,d,rfl⟩,g⟩ next
     show⟨_,rfl,?_⟩;show cS l rfl ⟨b,j,t,T,_,rfl,tk,to,w,k,?_⟩;cases e:(decide (T.low t j<=Mx.bN (T.R.getD j []) (row.take (T.eU t)))&&decide (Mx.bN (T.R.getD j []) (row.take (T.eU t))<=T.high t j))with
     |true=>
      rw[X9,Zs,Zs]at e;show next _ _ ⟨rfl,⟨_,_,rfl⟩,λi C=>?_⟩
      by_cases z:i=j
      . subst z;show e
      . show g i (by lia)
     |false=>
      show du ⟨Xo rfl,v (λh=>?_) _ _⟩;obtain⟨u,r⟩:=h.eqs j k;rw[XQ u,XQ r]at e;cases e
 . rintro j σ s rest k ⟨rfl,⟨f,d,rfl⟩,a⟩ next
   show⟨_,rfl,?_⟩;show cS l rfl ⟨b,j,T,_,row,rfl,tk,o,.inr rfl,y,by lia,?_⟩;cases e:(decide (T.l.getD j 0<=row.getD j 0)&&decide (row.getD j 0<=T.h.getD j 0))with
   |true=>
    rw[X9,Zs,Zs]at e;show next _ _ ⟨rfl,⟨_,_,rfl⟩,λi C=>?_⟩
    by_cases z:i=j
    . subst z;show e
    . show a i (by lia)
   |false=>
    show du ⟨Xo rfl,v (λh=>?_) _ _⟩;obtain⟨u,r⟩:=h.box j k;rw[XQ u,XQ r]at e;cases e
def dG.upd{st a:ag}(h:dG st b T)(U:Upd st d a)(e:st[d]?=some (.lst f)):dG a b T:=by
 obtain⟨q,r,p,dl,o,L,g,n,k⟩:=h
 let c:∀ {m:Nat} {C:Addr} {fs:List (Str×D)},st[m]?=some (.ins C fs)->a[m]?=some (.ins C fs):=λ{m C fs} h=>by
  rw[U.same m λz=>by subst z;rw[e]at h;cases h];show h
 show⟨q,r,p,dl,o,L,g,c n,λt l=>c (k t l)⟩
def jF:bV:=λf st K=>∃(a b d t:Nat) (T:Pl.Tk) (row:List Int) (H:List Ky),f=[.ref a,.ref b,.int (t:Int),aw row]/\dG st b T/\rp T/\t<=T.m/\row.length=T.n/\iN st a d H/\Hp H/\H.length<=16000000/\(T.Open t row->∀c e,iN c a d e->Hp e->e.Perm (T.key t row::H)->Upd st d c->K .au c)/\(¬T.Open t row->K .au st)
def t6:List Str:=["waiting","task","taken","row","fixed"]
def Bu:DS:=(di (aV (aj w6 (aB kU (ae (aa 1) (ae (aa 2) (ae (aa 3) ai)))) (dC .au))) (ay (aL 4 (cE aR "fixed" j9 (aa 1) (ae (aa 2) (ae (aa 3) ai))))
 (gf (cE bX "put" oZ (aa 0) (ae (dA (ae (cE aR "least_cost" iK (aa 1) (ae (aa 2) (ae (aa 4) ai))) (ae (aa 4) (ae (aa 2) (ae (aa 3) ai))))) ai)))) cJ)
def Ay:Xh jF 4 Bu t6:=by
 rintro z st K ⟨a,b,u,t,T,row,H,rfl,tk,to,e,l,w,o,r,m,n⟩;show⟨rfl,?_⟩;let c:=tk;obtain⟨C,E,B,dl,A,L,x,g,y⟩:=c;show⟨b,t,T,row,rfl,tk,to,e,l,λp=>lS rfl ?_,λq s i=>lS rfl (n q)⟩;show cS g rfl ⟨b,t,T,_,row,rfl,tk,e,.inr rfl,?_⟩;show cS w.ea rfl ?_;show cS g rfl ⟨b,t,T,_,rfl,tk,to,e,⟨Xo rfl,?_⟩⟩;show⟨a,u,H,T.key t row,rfl,w,o,r,λd v h f k U=>m p d v h f k U⟩
def rj:bV:=λc st K=>∃(b B W:Nat) (T:Pl.Tk) (x0:List Int),c=[.ref b,aw x0]/\dG st b T/\yp T x0 B W/\((∀x,T.jw x->T.lZ 0 x0 x->False)->∀a,Ext st a->K .au a)/\∀row a,Ext st a->T.jw row->(∀x,T.jw x->T.lZ 0 x0 x->Pl.ltB (Mx.bN T.c x,x) (Mx.bN T.c row,row)=false)->K (aw row) a
def wH:List Str:=["task","answer","waiting","least","taken","row"]
def Fl:DS:=(ay (aL 2 (pB bX kb ai))
 (ay (gf (aB jF (ae (aa 2) (ae (aa 0) (ae (dC (.int 0)) (ae (aa 1) ai))))))
 (ay (m6 (pF (aV (cE bX "is_empty" ie (aa 2) ai))) (ay (aL 3 (cE bX "take_least" gB (aa 2) ai))
 (ay (aL 4 (aj aJ (aa 3) (dC (.int 2))))
 (ay (di (aV (cE aR "is_end" jB (aa 0) (ae (aa 4) ai))) (aU (aj aJ (aa 3) (dC (.int 3)))) cJ)
 (iy (fC (aj aJ (aB gL (ae (aa 0) (ae (aa 4) (ae (aj aJ (aa 3) (dC (.int 3))) ai)))) (dC (.int 1)))) (cB 5) (gf (aB jF (ae (aa 2) (ae (aa 0) (ae (aj cQ (aa 4) (dC (.int 1))) (ae (aa 5) ai)))))))))))
 (aU (dC .au)))))
def Ext.ups{st s s':ag}(X:Ext st s)(U:Upd s a s')(h:st.length<=a):Ext st s':=⟨by rw[U.len];show X.len,λm b=>(U.same m (by lia)).trans (X.same m b)⟩
def dG.ext{st a:ag}(h:dG st b T)(X:Ext st a):dG a b T:=by
 obtain⟨n,o,l,dl,k,L,d,g,e⟩:=h;let c:∀ {m:Nat} {x:Cell},st[m]?=some x->a[m]?=some x:=λh=>(X.same _ (Xm.mp h).1).trans h;show⟨n,o,l,dl,k,L,d,c g,λt f=>c (e t f)⟩
def SD(W m:Nat)(k:Ky):Nat:=(W+2)^(m-k.2.2.1.toNat)
def i7(W m:Nat)(H:List Ky):Nat:=(H.map (SD W m)).sum
def xg{H a:List Ky}(h:H.Perm a):i7 W m H=i7 W m a:=(h.map _).sum_nat
def zX:∀H:List Ky,H.length<=i7 W m H
 | []=>Xl _
 |k::H=>by
  let a:=zX (W:=W) (m:=m) H;let e:i7 W m (k::H)=SD W m k+i7 W m H:=by unfold i7;rw[Ye,ZJ]
  let p:0<SD W m k:=ZQ (by lia);rw[e,XH];lia
def Good(T:Pl.Tk)(a:List Int)(B:Nat)(H:List Ky):Prop:=∀k∈H,∃t row,t<=T.m/\k=T.key t row/\T.Open t row/\rX T a B t row
def Cv(T:Pl.Tk)(H:List Ky)(x:List Int):Prop:=∃t row,T.key t row∈H/\t<=T.m/\row.length=T.n/\T.lZ t row x
def rX.qd{T:Pl.Tk}{B W t i:Nat}(b:yp T a B W)(h:rX T a B t row)(l:t<T.m)(p:i<kids T t row):rX T a B (t+1) (qd T t row i):=by
 let d:=b.to.ok.lF.row l;obtain⟨z,n,o⟩:=h.ex;obtain⟨s,r⟩:=h.near b l;unfold kids at p;show⟨by unfold Prog.qd;rw[Mx.nZ (by rw[h.len,d])];show h.len,λk=>if k<t then z k else T.jm t row+i,λk m=>?_,λc q=>?_⟩
 . by_cases e:k<t
   . dsimp only;rw[Xr e];show n k e
   . dsimp only;rw[Xn e];let:k=t:=by lia
     subst this;lia
 . unfold Prog.qd;rw[Mx.sv (by rw[h.len,d]),o c q];change _=a.getD c 0+(Mx.S t (λk=>(if k<t then z k else T.jm t row+i)*Mx.g T.F k c)+(if t<t then z t else T.jm t row+i)*Mx.g T.F t c);rw[Xn (YL t),Mx.aE (f:=λk=>(if k<t then z k else T.jm t row+(i:Int))*Mx.g T.F k c) (g:=λk=>z k*Mx.g T.F k c) λk m=>by rw[Xr m],abZ];rfl
def Dt:Xh rj 2 Fl wH:=by
 rintro ds st K ⟨b,B,W,T,g,rfl,tk,G,kN,kR⟩;show⟨rfl,?_⟩;let to:=G.to;let o:=to.ok;let lF:=o.lF.len;let e1:(st++[Cell.ins bX []]).length=st.length+1:=by simp
 show⟨st.length,rfl,by simp,λar w2 l2 f2=>⟨rfl,?_⟩⟩;rw[e1]at w2 l2 f2;let X2:Ext st ar:=⟨by lia,λm hm=>by rw[f2 m (by lia) (by lia),Xs hm]⟩
 let V:=tk.ext X2;let aK:st.length<=st.length+1:=by lia
 generalize st.length+1=M at w2 aK;let sX:∀ {s s':ag},Ext st s->Upd s M s'->Ext st s':=λX U=>X.ups U aK;generalize ha:st.length=a at w2⊢
 let R:∀(H:List Ky) (s:ag) (v3 v4 A:Option D),iN s a M H->Hp H->Good T g B H->(∀x,T.jw x->T.lZ 0 g x->Cv T H x)->i7 W T.m H<=16000000->dG s b T->Ext st s->(ay (m6 (pF (aV (cE bX "is_empty" ie (aa 2) ai))) (ay (aL 3 (cE bX "take_least" gB (aa 2) ai))
  (ay (aL 4 (aj aJ (aa 3) (dC (.int 2))))
  (ay (di (aV (cE aR "is_end" jB (aa 0) (ae (aa 4) ai))) (aU (aj aJ (aa 3) (dC (.int 3)))) cJ)
  (iy (fC (aj aJ (aB gL (ae (aa 0) (ae (aa 4) (ae (aj aJ (aa 3) (dC (.int 3))) ai)))) (dC (.int 1)))) (cB 5) (gf (aB jF (ae (aa 2) (ae (aa 0) (ae (aj cQ (aa 4) (dC (.int 1))) (ae (aa 5) ai)))))))))))
  (aU (dC .au))) {nx:=λ_ a4=>K .au a4,rt:=K} [some (.ref b),some (aw g),some (.ref a),v3,v4,A] s:=by
  intro H s v3 v4 A w hp gd cv tl tk X;show⟨λm σ s=>∃(H:List Ky) (v3 v4 A:Option D),m=i7 W T.m H/\σ=[some (.ref b),some (aw g),some (.ref a),v3,v4,A]/\iN s a M H/\Hp H/\Good T g B H/\(∀x,T.jw x->T.lZ 0 g x->Cv T H x)/\i7 W T.m H<=16000000/\dG s b T/\Ext st s,⟨_,H,v3,v4,A,rfl,rfl,w,hp,gd,cv,tl,tk,X⟩,?_⟩;clear w hp gd cv tl tk X;rintro m σ s ⟨H,v3,v4,A,rfl,rfl,w,hp,gd,cv,tl,tk,X⟩;let hl:=Xu (zX (W:=W) (m:=T.m) H) tl;show cS w.ea rfl ⟨a,M,H,rfl,w,?_⟩;by_cases h0:H.length=0
  . rw[XQ h0];show kN (λx s u=>?_) s X;obtain⟨t,row,f,_⟩:=cv x s u;rw[List.eq_nil_of_length_eq_zero h0]at f;cases f
  . rw[XG h0];show du (cS w.ea rfl ⟨a,M,H,rfl,w,hp,by lia,hl,λs3 H' w3 aq pm U3=>?_⟩)
    let S:∀k∈H,Pl.mK k (H.getD 0 k0)=false:=λk f=>by
     obtain⟨i,v,rfl⟩:=X8.mp f;let:=hp.least Pl.oz i v;rw[Mx.aN v]at this;show this
    let au:H.getD 0 k0∈H:=by rw[Mx.aN (by lia)];show Yy _
    obtain⟨t,row,ht,el,op,rn⟩:=gd _ au;rw[el]at S pm⊢;let X3:=sX X U3;let F:=tk.upd U3 w.eh;let a3:=F;obtain⟨dc,dR,dd,dl,dh,L,tf,eb,ly⟩:=a3;show az rfl rfl (cS eb rfl ⟨b,t,T,rfl,F,o,?_⟩);by_cases hm:t=T.m
    . rw[XQ hm];subst hm;show du (az rfl rfl (kR row s3 X3 (op.sol o rn.len) ?_))
      let wt:T.Wt (λx=>T.lZ 0 g x) H:=⟨λk f=>by
       obtain⟨t,r,n,l,y,h4⟩:=gd k f;show⟨t,r,n,l,h4.len,y⟩,cv⟩
      show wt.best o S rn.len
    . rw[XG hm];let ht:t<T.m:=by lia
      show az rfl rfl ?_;show⟨b,t,B,W,T,g,row,rfl,F,G,ht,rn,az rfl rfl (vX ?_)⟩;let bj:=G.kids (row:=row) ht
      let et:i7 W T.m H=(W+2)^(T.m-t)+i7 W T.m H':=by
       rw[xg pm];unfold i7;rw[Ye,ZJ];rfl
      let ep:(W+2)^(T.m-t)=(W+1)*(W+2)^(T.m-(t+1))+(W+2)^(T.m-(t+1)):=by
       rw[show T.m-t=(T.m-(t+1))+1 by lia,YA,YV,<-YU]
      let pp:0<(W+2)^(T.m-(t+1)):=ZQ (by lia);let Q:∀i,i<=kids T t row->i*(W+2)^(T.m-(t+1))<=(W+1)*(W+2)^(T.m-(t+1)):=λi v=>YK _ (by lia);generalize hP:(W+2)^(T.m-(t+1))=P at ep pp Q;show gD (λrest σ s=>∃(i:Nat) (p:List Ky) (A:Option D),i+rest.length=kids T t row/\rest=((List.range (kids T t row)).map λi=>aw (qd T t row i)).drop i/\σ=[some (.ref b),some (aw g),some (.ref a),some (kD (T.key t row)),some (.int (t:Int)),A]/\iN s a M p/\Hp p/\Good T g B p/\i7 W T.m p<=i7 W T.m H'+i*P/\(∀x,T.jw x->T.lZ 0 g x->Cv T p x\/∃j,i<=j/\j<kids T t row/\T.lZ (t+1) (qd T t row j) x)/\dG s b T/\Ext st s) ?_ ?_ _ _ _ ⟨0,H',A,by simp,rfl,rfl,w3,aq,λk f=>gd k (pm.symm.subset (XM _ f)),by lia,λx q E=>?_,F,X3⟩
      . rintro σ s4 ⟨i,p,A,v,_,rfl,w4,J,N,a0,O,C,X4⟩;rw[Zo,ab4]at v;subst v;let:=Q _ (Xl _);show⟨trivial,i7 W T.m p,by lia,p,_,_,_,rfl,rfl,w4,J,N,λx q E=>?_,by lia,C,X4⟩;rcases O x q E with h|⟨j,n,l,_⟩
        . show h
        . lia
      . rintro d rest σ s4 ⟨i,p,A,v,hd,rfl,w4,J,N,a0,O,C,X4⟩ next
        rw[XH]at v;let li:i<((List.range (kids T t row)).map λi=>aw (qd T t row i)).length:=by rw[Xk,ZS];lia
        rw[XN li]at hd;injection hd with n l;rw[Zf,aa8]at n;subst n;let a7:i<kids T t row:=by lia
        let rk:=rn.qd G ht a7;let bi:=Q i (by lia);let bh:=Q (i+1) (by lia);rw[YU]at bh;let bb:(t:Int)+1=((t+1:Nat):Int):=by lia
        show⟨trivial,_,rfl,dm ?_⟩;rw[bb];let l4:=zX (W:=W) (m:=T.m) p;show⟨a,b,M,t+1,T,qd T t row i,p,rfl,C,to,by lia,rk.len,w4,J,by lia,λop s5 H5 w5 a6 I U5=>?_,λah=>?_⟩
        . have e5:i7 W T.m H5=P+i7 W T.m p:=by
           rw[xg I,<-hP];unfold i7;rw[Ye,ZJ];rfl
          show next _ _ ⟨i+1,H5,_,by lia,l,rfl,w5,a6,λk f=>?_,by rw[YU];lia,λx q E=>?_,C.upd U5 w4.eh,sX X4 U5⟩
          . rcases XJ.mp (I.subset f)with rfl|f
            . show⟨t+1,_,by lia,rfl,op,rk⟩
            . show N k f
          . rcases O x q E with⟨Y,Z,n,l,y⟩|⟨j,n,l,y⟩
            . show .inl ⟨Y,Z,I.symm.subset (XM _ n),l,y⟩
            . by_cases z:j=i
              . subst z;show .inl ⟨t+1,_,I.symm.subset XT,by lia,rk.len,y⟩
              . show .inr ⟨j,by lia,l,y⟩
        . show next _ _ ⟨i+1,p,_,by lia,l,rfl,w4,J,N,by rw[YU];lia,λx q E=>?_,C,X4⟩
          rcases O x q E with h|⟨j,n,l,y⟩
          . show .inl h
          . by_cases z:j=i
            . subst z;show absurd (y.Vu o (by lia) rk.len q) ah
            . show .inr ⟨j,by lia,l,y⟩
      . obtain⟨Y,Z,n,l,y,h4⟩:=cv x q E;rcases XJ.mp (pm.subset n)with e|n
        . have bc:Y=t:=by
           let:=YQ (λk:Ky=>k.2.2.1) e;unfold Pl.Tk.key at this;dsimp only at this;lia
          let er:Z=row:=YQ (λk:Ky=>k.2.2.2) e;subst bc er;obtain⟨z,z1,z2,z3⟩:=h4.next o ht y q;show .inr ⟨(z-T.jm Y Z).toNat,XY _,by unfold kids;lia,?_⟩;unfold qd;rw[show T.jm Y Z+((z-T.jm Y Z).toNat:Int)=z by lia];show z3
        . show .inl ⟨Y,Z,n,l,y,h4⟩
 let a5:rX T g B 0 g:=⟨G.lx,λ_=>0,λk f=>absurd f (XS _),λc M=>(YD _).symm⟩
 show⟨a,b,M,0,T,g,[],rfl,V,to,XY _,G.lx,w2,λi i0 v=>by simp at v,by simp,λop s3 H3 w3 aq ab U3=>?_,λah=>?_⟩
 . show R H3 s3 none none none w3 aq (λk f=>?_) (λx q E=>?_) ?_ (V.upd U3 w2.eh) (sX X2 U3)
   . have:=ab.subset f;rw[XW]at this;subst this;show⟨0,g,XY _,rfl,op,a5⟩
   . show⟨0,g,ab.symm.subset XT,XY _,G.lx,E⟩
   . rw[xg ab];show G.wt
 . show R [] ar none none none w2 (λi i0 v=>by simp at v) (λk f=>by cases f) (λx q E=>?_) (XY _) V X2;show absurd (E.Vu o (XY _) G.lx q) ah
structure Se(st:ag)(g b:Nat)(T:Pl.Tk)(dp dc:D):Prop where
 eg:st[g]?=some (.ins bK [("task",.ref b),("plan",dp),("told_cost",dc)])
 pl:(dp= .au/\dc= .au)\/∃p:List Int,dp=aw p/\dc= .int (Mx.bN T.c p)
def iM:bV:=λc st K=>∃(g b:Nat) (T:Pl.Tk) (dp:D),c=[.ref g,.ref b,dp]/\st[g]?=some (.ins bK [])/\(∀a,(∀m,m≠g->a[m]?=st[m]?)->dG a b T)/\rp T/\(dp= .au\/∃p:List Int,dp=aw p)/\∀a d,Se a g b T dp d->Upd st g a->K .au a
def lg:List Str:=["self","task","plan"]
def wc:DS:=(ay (fy bK "task" (aa 0) (aa 1))
 (ay (fy bK "plan" (aa 0) (aa 2))
 (fy bK "told_cost" (aa 0) (JN (aV (aj pG (aa 2) (dC .au))) (aB vZ (ae (bO aR "costs" (aa 1)) (ae (aa 2) ai))) (dC .au)))))
def vd:Xh iM 3 wc lg:=by
 rintro x st K ⟨g,b,T,a,rfl,n,t,to,r,k⟩;show⟨rfl,?_⟩;let v:=to.n8;show dD n (Xo rfl) ?_;let o:Upd st g (st.set g (.ins bK (putD "task" (.ref b) []))):=Upd.set;let f:(st.set g (.ins bK (putD "task" (.ref b) [])))[g]?=some (.ins bK [("task",.ref b)]):=Xx (Xm.mp n).1;generalize st.set g _=s1 at o f⊢;show dD f (Xo rfl) ?_;let l:Upd st g (s1.set g (.ins bK (putD "plan" a [("task",.ref b)]))):=o.trans Upd.set;let e:(s1.set g (.ins bK (putD "plan" a [("task",.ref b)])))[g]?=some (.ins bK [("task",.ref b),("plan",a)]):=Xx (Xm.mp f).1;generalize s1.set g _=s2 at l e⊢;let d:∀c,((a= .au/\c= .au)\/∃p:List Int,a=aw p/\c= .int (Mx.bN T.c p))->K .au (s2.set g (.ins bK (putD "told_cost" c [("task",.ref b),("plan",a)]))):=λc h=>k _ c ⟨Xx (Xm.mp e).1,h⟩ (l.trans Upd.set);rcases r with rfl|⟨p,rfl⟩
 . show oR rfl (dD e (Xo rfl) (d .au (.inl ⟨rfl,rfl⟩)))
 . show oR rfl (du ?_);obtain⟨c,A,z,dl,y,L,q,u,w⟩:=t s2 λm s=>l.same m s;show aM u rfl ⟨_,_,_,p,rfl,q.c.it _,rfl,by rw[to.ok.lc];lia,to.sc.dot,?_⟩;show dD e (Xo rfl) (d _ (.inr ⟨p,rfl,rfl⟩))
def kC:bV:=λa st K=>∃(g b t:Nat) (T:Pl.Tk) (dp dc:D) (row:List Int),a=[.ref g,.int (t:Int),aw row]/\Se st g b T dp dc/\dG st b T/\rp T/\t<=T.m/\∀v:Bool,K (.bl v) st
def km:List Str:=["self","taken","row"]
def ve:DS:=(ay (di (aV (aj w6 (bO bK "plan" (aa 0)) (dC .au))) (aU (dC (.bl false))) cJ)
 (aU (cE aR "is_dearer" my (bO bK "task" (aa 0)) (ae (aa 1) (ae (cE aR "fixed" j9 (bO bK "task" (aa 0)) (ae (aa 1) (ae (aa 2) ai))) (ae (bO bK "told_cost" (aa 0)) (ae (bO bK "plan" (aa 0)) ai)))))))
def uh:Xh kC 3 ve km:=by
 rintro l st K ⟨g,b,t,T,m,q,row,rfl,a,tk,to,d,k⟩;show⟨rfl,?_⟩;let c:=tk;obtain⟨s,r,o,dl,n,L,f,e,h⟩:=c;show aM a.eg rfl ?_;rcases a.pl with⟨rfl,rfl⟩|⟨p,rfl,rfl⟩
 . show lS rfl (k false)
 . show lS rfl ?_;show aM a.eg rfl (cS e rfl ?_);show aM a.eg rfl (cS e rfl ⟨b,t,T,_,row,rfl,tk,d,.inr rfl,?_⟩);show aM a.eg rfl (aM a.eg rfl ⟨b,t,T,_,p,_,rfl,tk,to,d,k⟩)
def gg:Nat->bV
 |0=>λ_ _ _=>False
 |n+1=>λa st K=>∃(g b t B W:Nat) (T:Pl.Tk) (dp dc:D) (x0 row:List Int),a=[.ref g,.int (t:Int),aw row]/\Se st g b T dp dc/\dG st b T/\yp T x0 B W/\t<=T.m/\T.m<=t+n/\rX T x0 B t row/\∀d,K d st
def yO:∀a st K,¬gg 0 a st K:=λ_ _ _ h=>h
def oU:List Str:=["self","taken","row","against","further"]
def BJ(a:bV):DS:=(ay (aL 3 (aB kU (ae (bO bK "task" (aa 0)) (ae (aa 1) (ae (aa 2) ai)))))
 (ay (di (aV (aj pG (aa 3) (dC .au))) (aU (aa 3)) cJ)
 (ay (di (aV (cE bK "is_dearer" kC (aa 0) (ae (aa 1) (ae (aa 2) ai)))) (aU (dA (ae (dC (.str "cost")) ai))) cJ)
 (ay (di (aV (cE aR "is_end" jB (bO bK "task" (aa 0)) (ae (aa 1) ai))) (aU (dA (ae (dC (.str "here")) ai))) cJ)
 (ay (aL 4 (aB gL (ae (bO bK "task" (aa 0)) (ae (aa 1) (ae (aa 2) ai)))))
 (aU (dA (ae (dC (.str "all")) (ae (aj aJ (aa 4) (dC (.int 0))) (ae (ck dN (ae (dX (fC (aj aJ (aa 4) (dC (.int 1)))) [none,some 0,some 1] (cB 0) cT (cE bK "node" a (aa 1) (ae (aj cQ (aa 2) (dC (.int 1))) (ae (aa 0) ai)))) ai)) ai))))))))))
def Ad:∀n l st K,gg (n+1) l st K->l.length=3/\BJ (gg n) {nx:=λ_ a=>K .au a,rt:=K} (aI oU l) st:=by
 rintro n l st K ⟨g,b,t,B,W,T,z,A,u,row,rfl,c,tk,e,f,M,p,k⟩;show⟨rfl,?_⟩;let to:=e.to;let o:=to.ok;let m:=tk;obtain⟨Q,P,O,dl,N,L,I,H,J⟩:=m;show aM c.eg rfl ⟨b,t,T,row,rfl,tk,to,f,p.len,λop=>?_,λC s i=>oR rfl (du (k _))⟩;show oR rfl ?_;show cS c.eg rfl ⟨g,b,t,T,z,A,row,rfl,c,tk,to,f,λv=>?_⟩;cases v with
 |true=>show du ⟨Xo rfl,k _⟩
 |false=>
  show aM c.eg rfl (cS H rfl ⟨b,t,T,rfl,tk,o,?_⟩);by_cases w:t=T.m
  . rw[XQ w];show du ⟨Xo rfl,k _⟩
  . rw[XG w];let f:t<T.m:=by lia
    show aM c.eg rfl ⟨b,t,B,W,T,u,row,rfl,tk,e,f,p,?_⟩;show az rfl rfl (az rfl rfl (vX ⟨?_,?_⟩))
    . have q:=e.kids (row:=row) f;let y:=e.wt;let G:(W+2)^1<=(W+2)^T.m:=XD (by lia) (by lia);rw[Nat.pow_one]at G;rw[Xk,ZS,Zg];lia
    . show iz (λrest h a=>st=a/\∃i,i+rest.length=kids T t row/\rest=((List.range (kids T t row)).map λi=>aw (qd T t row i)).drop i) ?_ ?_ _ _ _ ⟨rfl,0,by simp,rfl⟩
      . rintro h a ⟨rfl,_⟩;show⟨trivial,dz rfl ⟨Xo rfl,k _⟩⟩
      . rintro d rest h a ⟨rfl,i,F,x⟩ next
        rw[XH]at F;let E:i<((List.range (kids T t row)).map λi=>aw (qd T t row i)).length:=by rw[Xk,ZS];lia
        rw[XN E]at x;injection x with q y;rw[Zf,aa8]at q;subst q;let r:(t:Int)+1=((t+1:Nat):Int):=by lia
        show⟨trivial,_,rfl,cS c.eg rfl (dm ?_)⟩;rw[r];cases n with
        |zero=>lia
        |succ n=>show⟨g,b,t+1,B,W,T,z,A,u,_,rfl,c,tk,e,by lia,by lia,p.qd e f (by lia),λd=>next _ _ ⟨rfl,i+1,by lia,y⟩⟩
structure rR(T:Pl.Tk)(B W:Nat):Prop where
 n1:1<=T.n
 n8:T.n<=8
 w1:1<=T.w
 w8:T.w<=8
 lc:T.c.length=T.n
 lR:Mx.dk T.w T.n T.R
 Jn:T.d.length=T.w
 ll:T.l.length=T.n
 lh:T.h.length=T.n
 bR:∀r∈T.R,∀x∈r,x.natAbs<=2^28
 bd:∀x∈T.d,x.natAbs<=2^70
 sc:uv T.c
 lo:∀c,c<T.n->(T.l.getD c 0).natAbs<=B
 hi:∀c,c<T.n->(T.h.getD c 0).natAbs<=B
 SX:B<=2^40
 sp:∀c,c<T.n->T.h.getD c 0-T.l.getD c 0<=(W:Int)
 wt:(W+2)^T.n<=16000000
def oA:bV:=λk st K=>∃(h d g dl e:D) (T:Pl.Tk) (B W:Nat) (f:Bool),k=[h,d,g,dl,e]/\KQ T h d g dl e/\rR T B W/\st[0]?=some (gY f)/\((∀x,¬T.jw x)->∀a c b,Bk st a->K (.tup [.str "none",.tup [c,b]]) a)/\∀x a c b,Bk st a->T.jw x->(∀y,T.jw y->Pl.ltB (Mx.bN T.c y,y) (Mx.bN T.c x,x)=false)->K (.tup [.str "told",.int (Mx.bN T.c x),aw x,.tup [c,b]]) a
def AB:List Str:=["costs","rows","due","low","high","told","task","grower","paper"]
def JD:DS:=(ay (aL 5 (aB u7 (ae (aa 1) (ae (aa 2) ai))))
 (ay (di (aV (aj jx (aj aJ (aa 5) (dC (.int 0))) (dC (.str "none")))) (aU (dA (ae (dC (.str "none")) (ae (dA (ae (aa 5) (ae (dA ai) ai))) ai)))) cJ)
 (ay (aL 6 (pB aR mW (ae (aa 0) (ae (aa 1) (ae (aa 2) (ae (aa 3) (ae (aa 4) (ae (aj aJ (aa 5) (dC (.int 2))) ai))))))))
 (ay (aL 7 (pB bK iM (ae (aa 6) (ae (aB rj (ae (aa 6) (ae (aj aJ (aa 5) (dC (.int 1))) ai))) ai))))
 (ay (aL 8 (dA (ae (aa 5) (ae (cE bK "node" (gg 9) (aa 7) (ae (dC (.int 0)) (ae (aj aJ (aa 5) (dC (.int 1))) ai))) ai))))
 (ay (di (aV (aj w6 (bO bK "plan" (aa 7)) (dC .au))) (aU (dA (ae (dC (.str "none")) (ae (aa 8) ai)))) cJ)
 (aU (dA (ae (dC (.str "told")) (ae (bO bK "told_cost" (aa 7)) (ae (bO bK "plan" (aa 7)) (ae (aa 8) ai))))))))))))
def K5.not{f:List (List Int)}{N a:Nat}{d:List Int}{x:Nat->Int}{b:List Rat}(k:∀n,n<N->Mx.Wh (Mx.dq b a (Mx.g f n)))(g:¬Mx.Wh (Mx.dq b a λc=>d.getD c 0))(h:∀q,q<a->(Mx.S N λn=>x n*Mx.g f n q)=1*d.getD q 0):False:=by
 let e:Mx.dq b a (λc=>d.getD c 0)=Mx.dq b a λq=>Mx.S N λn=>x n*Mx.g f n q:=Mx.xt λq l=>by rw[h q l,Zu]
 rw[e,Mx.Ei]at g;show g (Mx.Ho λi m=>(k i m).mul _)
def Mg(h:aw p=aw q):p=q:=by
 injection h with h;show List.map_inj_right (λ_ _ e=>D.int.inj e) |>.mp h
def Ni{F:List (List Int)}{m n:Nat}{ld:Nat->Nat}(s:Mx.fb F m n ld):m<=n:=by
 let h:∀i,i<m->i<=ld i:=λi=>by
  induction i with
  |zero=>show λ_=>XY _
  |succ i a=>show λb=>by let:=a (by lia);let:=s.mono i (i+1) (by lia) b;lia
 by_cases z:m=0
 . lia
 . have d:=h (m-1) (by lia);let c:=(s.lead (m-1) (by lia)).1;lia
def Cf(T:Pl.Tk)(F:List (List Int))(m:Nat):Pl.Tk:={T with m:=m,F:=F,ld:=Mx.c9 F}
def Gp{T:Pl.Tk}(p:rR T B W){x:List Int}(s:T.jw x)(a:q<T.w):(Mx.S T.n λn=>x.getD n 0*Mx.g (Mx.i_ T.R T.n) n q)=T.d.getD q 0:=by
 let b:x.length=T.n:=by rw[<-(Pl.yv s.box).1];show p.ll
 let h:=s.eqs q a;rw[Mx.KP (by rw[p.lR.row a,b]),b]at h;rw[<-h];show Mx.aE λn c=>by rw[Mx.yg p.lR a c,Y_];rfl
def F8{T:Pl.Tk}(p:rR T B W){m f top:Nat}(A:K5 (Mx.i_ T.R T.n) T.n T.w T.d a F m f c top)(s:T.jw x):(Cf T F m).lZ 0 a x:=by
 let d:x.length=T.n:=by rw[<-(Pl.yv s.box).1];show p.ll
 show⟨d,?_⟩
 let k:Mx.gH F m T.n λn=>x.getD n 0-a.getD n 0:=(A.JJ _).mp λq b=>by
  let e:(Mx.S T.n λn=>(x.getD n 0-a.getD n 0)*Mx.g (Mx.i_ T.R T.n) n q)=(Mx.S T.n λn=>x.getD n 0*Mx.g (Mx.i_ T.R T.n) n q)-Mx.S T.n λn=>a.getD n 0*Mx.g (Mx.i_ T.R T.n) n q:=by
   rw[aar,<-Mx.zc,<-Mx.jX];show Mx.aE λn _=>by rw[Int.sub_mul,aar]
  rw[e,Gp p s b,A.sum q b,Int.sub_self]
 obtain⟨z,h⟩:=k;show⟨z,λq b=>?_⟩;let l:x.getD q 0-a.getD q 0=Mx.S m λk=>z k*Mx.g F k q:=h q b;change x.getD q 0=a.getD q 0+Mx.S (m-0) λk=>z k*Mx.g F (0+k) q;rw[abz,Mx.aE (g:=λk=>z k*Mx.g F k q) λk _=>by rw[aao]];lia
def rR.WZ{T:Pl.Tk}(p:rR T B W){m f top:Nat}(A:K5 (Mx.i_ T.R T.n) T.n T.w T.d a F m f c top):yp (Cf T F m) a B W:=by
 let b:m<=T.n:=Ni A.wg.st;let h:=p.n8;let g:=p.w8;show⟨⟨⟨p.lc,p.lR,p.Jn,p.ll,p.lh,A.wg.is,A.wg.st⟩,p.n1,by change T.n<=16;lia,by change T.w<=16;lia,b,p.sc,λr e x d=>by let:=p.bR r e x d;lia⟩,A.red,A.la,A.S0,p.lo,p.hi,p.SX,p.sp,Xu (XD (by lia) b) p.wt⟩
def dG.keep{st a:ag}(h:dG st b T)(f:∀m,m<st.length->a[m]?=st[m]?):dG a b T:=by
 obtain⟨o,p,n,dl,l,L,d,k,e⟩:=h;let c:∀ {m:Nat} {x:Cell},st[m]?=some x->a[m]?=some x:=λh=>(f _ (Xm.mp h).1).trans h;show⟨o,p,n,dl,l,L,d,c k,λt g=>c (e t g)⟩
def wX{E:m7}{st:ag}{T:Pl.Tk}(tk:dG st b T)(q:yp T a B W)(n:T.m<=8)(z:h= .au\/∃p:List Int,h=aw p)
 (y:h= .au->∀g d,Ext st g->E.rt (.tup [.str "none",.tup [.tup [.str "told",aw a,dP F,t,u],d]]) g) (x:∀p,h=aw p->∀g d,Ext st g->E.rt (.tup [.str "told",.int (Mx.bN T.c p),aw p,.tup [.tup [.str "told",aw a,dP F,t,u],d]]) g):
 iM [.ref st.length,.ref b,h] (st++[.ins bK []]) λr e=>r= .au/\(ay (aL 8 (dA (ae (aa 5) (ae (cE bK "node" (gg 9) (aa 7) (ae (dC (.int 0)) (ae (aj aJ (aa 5) (dC (.int 1))) ai))) ai))))
 (ay (di (aV (aj w6 (bO bK "plan" (aa 7)) (dC .au))) (aU (dA (ae (dC (.str "none")) (ae (aa 8) ai)))) cJ)
 (aU (dA (ae (dC (.str "told")) (ae (bO bK "told_cost" (aa 7)) (ae (bO bK "plan" (aa 7)) (ae (aa 8) ai)))))))) E [some L,some J,some I,some H,some G,some (.tup [.str "told",aw a,dP F,t,u]),some (.ref b),some (.ref st.length),w] e:=by
 show⟨st.length,b,T,h,rfl,by simp,λg f=>tk.keep λm n=>by rw[f m (by lia),Xs n],q.to,z,λe C l U=>⟨rfl,?_⟩⟩;let v:∀m,m<st.length->e[m]?=st[m]?:=λm n=>by rw[U.same m (by lia),Xs n]
 let o:=tk.keep v;let X:Ext st e:=⟨by rw[U.len];simp,v⟩
 show cS l.eg rfl (az rfl rfl ?_);let s:rX T a B 0 a:=⟨q.lx,λ_=>0,λk A=>absurd A (XS _),λc M=>(YD _).symm⟩
 show⟨st.length,b,0,B,W,T,h,C,a,a,rfl,l,o,q,XY _,by lia,s,λd=>⟨Xo rfl,?_⟩⟩;show aM l.eg rfl ?_;rcases l.pl with⟨rfl,rfl⟩|⟨p,rfl,rfl⟩
 . show lS rfl (du ⟨Xo rfl,y rfl e d X⟩)
 . show lS rfl ?_;show aM l.eg rfl (aM l.eg rfl ⟨Xo rfl,x p rfl e d X⟩)
def HY:Xh oA 5 JD AB:=by
 rintro ds st K ⟨dc,N,O,dl,dh,T,B,W,f,rfl,k,p,Q,I,U⟩;show⟨rfl,?_⟩;let z:=Mx.u6 p.lR;let eR:Mx.i_ (Mx.i_ T.R T.n) T.w=T.R:=Gh p.lR
 let bA:∀r∈Mx.i_ T.R T.n,∀x∈r,x.natAbs<=2^28:=λr J x X=>by
  obtain⟨i,L,rfl⟩:=X8.mp J;obtain⟨c,M,rfl⟩:=X8.mp X;let H:i<T.n:=by rw[<-z.len];show L
  let R:c<T.w:=by rw[<-z.nq _ J];show M
  let e:=Mx.yg p.lR R H;unfold Mx.g at e;rw[Mx.aN L,Mx.aN M]at e;rw[e];let lR:=p.lR.len;let u:T.R.getD c []∈T.R:=by rw[Mx.aN (by lia)];show Yy _
  show p.bR _ u _ (getD_mem (by rw[p.lR.nq _ u];show H))
 let P1:Vm (Mx.i_ T.R T.n) T.n T.w T.d:=⟨z,p.n1,p.n8,p.w8,bA,p.Jn,p.bd⟩
 show⟨N,O,Mx.i_ T.R T.n,T.d,T.n,T.w,f,rfl,by rw[eR];show k.r.rows st,k.d.it _,P1,p.w1,Q,λb y G V=>?_⟩;rcases V with⟨a,F,m,fq,c,top,A,rfl⟩|⟨ps,rfl,lp,hP,Y,hn⟩
 . have C:cC (.str "told") (.str "none")=false:=by decide
   show az rfl rfl (B_ rfl rfl ?_);rw[C];let t:=p.WZ A;let to:=t.to;show az rfl rfl ?_;show⟨b.length,Cf T F m,dc,N,O,dl,dh,rfl,by simp,to,⟨k.c,k.r,k.d,k.l,k.h⟩,λw g S f2=>⟨rfl,?_⟩⟩;let P:Ext b w:=⟨by simp at S;lia,λm u=>by rw[f2 m (by simp;lia) (by lia),Xs u]⟩
   show az rfl rfl ?_;show⟨b.length,B,W,Cf T F m,a,rfl,g,t,λnone v o=>?_,λrow v o sol best=>?_⟩
   . have B3:=G.ext (P.trans o);show wX (g.ext o) t A.wg.m8 (.inl rfl) (λ_ l d E=>I (λx s=>none x ⟨s.box,s.eqs⟩ (F8 p A s)) l _ _ (B3.ext E)) (λp h=>by cases h)
   . have B3:=G.ext (P.trans o);show wX (g.ext o) t A.wg.m8 (.inr ⟨row,rfl⟩) (λh=>by cases h) (λq h l d E=>?_);cases Mg h;show U row l _ _ (B3.ext E) ⟨sol.box,sol.eqs⟩ λy s=>best y ⟨s.box,s.eqs⟩ (F8 p A s)
 . have C:cC (.str "none") (.str "none")=true:=by decide
   show az rfl rfl (B_ rfl rfl ?_);rw[C];show du ⟨Xo rfl,⟨Xo rfl,⟨Xo rfl,?_⟩⟩⟩;show I (λx s=>K5.not (x:=λn=>x.getD n 0) Y hn λq Z=>by rw[Zu];show Gp p s Z) b _ _ G
def xy:bV:=λb st K=>∃(a:List Int) (k:Int),b=[.lst (a.map .int),.int k]/\0<=k/\∀c,K (.int c) st
def DL:List Str:=["_law_script","_law_k"]
def Mm:DS:=(ay (di (aV (oH yQ qQ (dC (.int 0)) (aa 1) (ck dY (ae (aa 0) ai)))) (aU (aj aJ (aa 0) (aa 1))) cJ)
 (aU (dC (.int 0))))
def KD:Xh xy 2 Mm DL:=by
 rintro c st K ⟨a,k,rfl,k0,b⟩;show⟨rfl,yh ?_⟩;rw[XQ k0];show cK rfl (Ct ?_);rw[Xk];by_cases h:k<(a.length:Int)
 . rw[XQ h];obtain⟨j,rfl⟩:∃j:Nat,k=(j:Int):=⟨k.toNat,by lia⟩
   show du (LT.at (d:=bS a) (.inl rfl) (by lia) (b _))
 . rw[XG h];show b 0
structure Hk(st:ag)(n:Nat)(q:Int):Prop where
 ex:∃(a b c:Int),st[n]?=some (.lst [.int a,.int b,.int c])/\0<=a/\0<=b/\b<2^62/\0<=c/\c<=q
def Hk.mono{st:ag}(h:Hk st n b)(l:b<=a):Hk st n a:=let⟨x,y,z,e,h1,h2,h3,h4,h5⟩:=h.ex;⟨x,y,z,e,h1,h2,h3,h4,by lia⟩
def Hk.lt{st:ag}(B:Hk st n b):n<st.length:=by
 obtain⟨_,_,_,e,_⟩:=B.ex;show(Xm.mp e).1
def Hk.cell{st a:ag}(B:Hk st n b)(e:a[n]?=st[n]?):Hk a n b:=by
 obtain⟨x,y,z,c,r⟩:=B.ex;show⟨x,y,z,e.trans c,r⟩
def FT{st:ag}{b ys:List D}{i:Int}{j:Nat}{K:ag->Prop}(h:st[n]?=some (.lst b))(e:ke b.length i=some j)(c:b.set j d=ys)(k:∀a,a[n]?=some (.lst ys)->Upd st n a->K a):CF (.ref n) (.int i) d st K:=gK h e (by
 rw[c];show k _ (Xx (Xm.mp h).1) Upd.set)
def tu:bV:=λc st K=>∃(b:List Int) (k:Int),c=[.lst (b.map .int),.int k]/\0<=k/\k<=1000/\∀a,Hk a st.length 0->Ext st a->K (.ref st.length) a
def zg:List Str:=["_law_script","_law_k","_law_cell"]
def G_:DS:=(ay (aL 2 (aB xy (ae (aa 0) (ae (aa 1) ai))))
 (aU (Ac (ae (aj cR (aa 2) (ck Dp (ae (aj FX (aa 2) (aj CI (dC (.int 10)) (dC (.int 18)))) ai))) (ae (aj cQ (aj cQ (aj mF (aa 2) (dC (.int 2305843009213693951))) (aj cR (dC (.int 7919)) (aa 1))) (dC (.int 3))) (ae (dC (.int 0)) ai))))))
def Fj:Xh tu 2 G_ zg:=by
 rintro m st K ⟨b,k,rfl,k0,l,f⟩;show⟨rfl,⟨b,k,rfl,k0,λc=>?_⟩⟩;show Rl ⟨by decide,by decide,by decide⟩ (N8 (OA (cY (Gv (by split<;>decide) (by split<;>decide)) ?_)));show qt (by decide) (cY (dZ (by decide) (by decide)) (dm (dm ⟨Xo rfl,?_⟩)));let e:=Yv c (show(0:Int)<2305843009213693951 by decide);let d:=YG c (show(0:Int)<2305843009213693951 by decide);generalize c.fmod 2305843009213693951=u at e d⊢;let g:∀a:List D,(st++[Cell.lst a])[st.length]?=some (.lst a):=λa=>by simp
 show f _ ⟨_,_,_,g _,?_,by lia,by lia,aa2 0,aa2 0⟩ Ext.push;by_cases h:(10:Int)^(18:Int).toNat<=c
 . rw[XQ h];let:(0:Int)<=10^(18:Int).toNat:=by decide
   change 0<=c*1;lia
 . rw[XG h];change 0<=c*0;lia
def dw:bV:=λb st K=>∃(n:Nat) (m q:Int),b=[.ref n,.int m]/\Hk st n q/\q<=1000000000/\0<m/\m<2^62/\∀r a,0<=r->r<m->Hk a n (q+1)->Upd st n a->K (.int r) a
def yx:List Str:=["_law_hand_here","_law_many","_law_digit","_law_turn","_law_m"]
def GU:DS:=(ay (di (aV (aj tZ (aj aJ (aa 0) (dC (.int 0))) (dC (.int 0)))) (ay (aL 2 (aj mF (aj aJ (aa 0) (dC (.int 0))) (aa 1)))
 (ay (d9 (aa 0) (dC (.int 0)) (aj mi (aj aJ (aa 0) (dC (.int 0))) (aa 1)))
 (aU (aa 2)))) cJ)
 (ay (d9 (aa 0) (dC (.int 2)) (aj cQ (aj aJ (aa 0) (dC (.int 2))) (dC (.int 1))))
 (ay (aL 3 (aj aJ (aa 0) (dC (.int 2))))
 (ay (aL 4 (aj mF (aj cR (aj aJ (aa 0) (dC (.int 1))) (aj cQ (aj cQ (dC (.int 48271)) (aj cR (aj cR (dC (.int 2)) (aa 3)) (aa 3))) (aj cR (dC (.int 65537)) (aa 3)))) (dC (.int 2305843009213693921))))
 (ay (aL 4 (aj mF (aj cR (aa 4) (aj cQ (aj cQ (aj mF (aa 4) (dC (.int 1000003))) (aj cR (aa 3) (dC (.int 99991)))) (dC (.int 11)))) (dC (.int 2305843009213693907))))
 (aU (aj mF (aj cQ (aj mi (aa 4) (dC (.int 97))) (aj mi (aa 4) (dC (.int 1000033)))) (aa 1))))))))
def Ju{m:Int}(a:0<m)(h:m<2^62):m.natAbs.log2<9000:=by
 let:m.natAbs.log2<62:=(Nat.log2_lt (by lia)).mpr (by lia);lia
def Ev(A:DE)(σ:cz)(st:ag)(d:D):Prop:=∀K:DK,K d st->A σ st K
def gS{x:D->D->ag->DK->Prop}{A B:DE}{σ:cz}{st:ag}{a b d:D}(f:Ev A σ st a)(e:Ev B σ st b)(c:∀K:DK,K d st->x a b st K):Ev (aj x A B) σ st d:=λK k=>f _ (e _ (c K k))
def pX{st:ag}:Ev (dC d) σ st d:=λK k=>k
def lP{i:Nat}{st:ag}(h:σ[i]?=some (some d)):Ev (aa i) σ st d:=λK k=>r_ h k
def Ka{i:Nat}{σ:cz}{st:ag}(h:Ev A σ st d)(k:B E (σ.set i (some d)) st):ay (aL i A) B E σ st:=h _ k
def take_one{st:ag}(g:σ[0]?=some (some (.ref n)))(f:σ[3]?=some (some (.int t)))(e:st[n]?=some (.lst [.int a,.int b,.int c]))(b0:0<=b)(w:b<2^62)(u:0<=t)(s:t<2^40):∃v:Int,0<=v/\v<2305843009213693921/\Ev (aj mF (aj cR (aj aJ (aa 0) (dC (.int 1))) (aj cQ (aj cQ (dC (.int 48271)) (aj cR (aj cR (dC (.int 2)) (aa 3)) (aa 3))) (aj cR (dC (.int 65537)) (aa 3)))) (dC (.int 2305843009213693921))) σ st (.int v):=by
 let r:Ev (aj aJ (aa 0) (dC (.int 1))) σ st (.int b):=gS (lP g) pX λK k=>az (aO e) (by rfl) k;let q:=gS (st:=st) (d:= .int (2*t)) (pX (d:= .int 2)) (lP f) λK k=>cY (dZ (by decide) (by decide)) k;let p:=gS (st:=st) (d:= .int (2*t*t)) q (lP f) λK k=>cY (dZ (by lia) (by lia)) k;let o:=gS (st:=st) (d:= .int (48271+2*t*t)) (pX (d:= .int 48271)) p λK k=>dm k;let m:=gS (st:=st) (d:= .int (65537*t)) (pX (d:= .int 65537)) (lP f) λK k=>cY (dZ (by decide) (by decide)) k;let l:=gS (st:=st) (d:= .int (48271+2*t*t+65537*t)) o m λK k=>dm k;let h:=gS (st:=st) (d:= .int (b*(48271+2*t*t+65537*t))) r l λK k=>cY (dZ (by lia) (by lia)) k;show⟨_,Yv _ (by decide),YG _ (by decide),gS (st:=st) h (pX (d:= .int 2305843009213693921)) λK k=>qt (by decide) k⟩
def Nm{st:ag}(a:σ[4]?=some (some (.int u)))(b:σ[3]?=some (some (.int t)))(m:0<=u)(l:u<2305843009213693921)(o:0<=t)(n:t<2^40):∃v:Int,0<=v/\v<2305843009213693907/\Ev (aj mF (aj cR (aa 4) (aj cQ (aj cQ (aj mF (aa 4) (dC (.int 1000003))) (aj cR (aa 3) (dC (.int 99991)))) (dC (.int 11)))) (dC (.int 2305843009213693907))) σ st (.int v):=by
 let h:=gS (st:=st) (d:= .int (u.fmod 1000003)) (lP a) (pX (d:= .int 1000003)) λK k=>qt (by decide) k;let g:=gS (st:=st) (d:= .int (t*99991)) (lP b) (pX (d:= .int 99991)) λK k=>cY (Gv (by decide) (by decide)) k;let f:=gS (st:=st) (d:= .int (u.fmod 1000003+t*99991)) h g λK k=>dm k;let e:=gS (st:=st) (d:= .int (u.fmod 1000003+t*99991+11)) f (pX (d:= .int 11)) λK k=>dm k;let c:=gS (st:=st) (d:= .int (u*(u.fmod 1000003+t*99991+11))) (lP a) e λK k=>cY (dZ (by lia) (by lia)) k;show⟨_,Yv _ (by decide),YG _ (by decide),gS (st:=st) c (pX (d:= .int 2305843009213693907)) λK k=>qt (by decide) k⟩
def LP{st:ag}(b:σ[4]?=some (some (.int u)))(c:σ[1]?=some (some (.int m)))(a:0<m):∃v:Int,0<=v/\v<m/\Ev (aj mF (aj cQ (aj mi (aa 4) (dC (.int 97))) (aj mi (aa 4) (dC (.int 1000033)))) (aa 1)) σ st (.int v):=by
 let g:=gS (st:=st) (d:= .int (u.fdiv 97)) (lP b) (pX (d:= .int 97)) λK k=>pM (by decide) (by decide+kernel) k;let f:=gS (st:=st) (d:= .int (u.fdiv 1000033)) (lP b) (pX (d:= .int 1000033)) λK k=>pM (by decide) (by decide+kernel) k;let e:=gS (st:=st) (d:= .int (u.fdiv 97+u.fdiv 1000033)) g f λK k=>dm k;show⟨_,Yv _ a,YG _ a,gS (st:=st) e (lP c) λK k=>qt (by lia) k⟩
def E2:Xh dw 2 GU yx:=by
 rintro M st K ⟨n,m,q,rfl,⟨a,b,c,e,y,b0,w,H,N⟩,L,f,p,k⟩;show⟨rfl,?_⟩;show az (aO e) (by rfl) (Q8 (λh=>du ?_) λh=>?_)
 . show az (aO e) (by rfl) (qt (by lia) (az (aO e) (by rfl) (pM (by lia) (Ju f p) ?_)));show FT (ys:=[.int (a.fdiv m),.int b,.int c]) e (by rfl) (by rfl) λd g x=>?_;show k _ _ (Yv _ f) (YG _ f) ⟨_,b,c,g,by rw[Yh _ (by lia)];show Int.ediv_nonneg y (by lia),b0,w,H,by lia⟩ x
 . show az (aO e) (by rfl) (dm (FT (ys:=[.int a,.int b,.int (c+1)]) e (by rfl) (by rfl) λd g x=>?_));show az (aO g) (by rfl) ?_;let s:Hk d n (q+1):=⟨a,b,c+1,g,y,b0,w,by lia,by lia⟩
   let o:0<=c+1:=by lia
   let l:c+1<2^40:=by lia
   generalize c+1=t at g o l⊢;obtain⟨u,A,z,G⟩:=take_one (σ:=[some (.ref n),some (.int m),none,some (.int t),none]) rfl rfl g b0 w o l;show Ka G ?_;obtain⟨v,J,I,F⟩:=Nm (σ:=[some (.ref n),some (.int m),none,some (.int t),some (.int u)]) (st:=d) rfl rfl A z o l;show Ka F ?_;obtain⟨r,C,B,E⟩:=LP (σ:=[some (.ref n),some (.int m),none,some (.int t),some (.int v)]) (st:=d) rfl rfl f;show E _ (k r d C B s x)
abbrev oS:bV:=vZ
def Bg:List Str:=["_law_one","_law_other"]
def IU:DS:=(aU (ck uJ (ae (dX (o9 (ae (aa 0) (ae (aa 1) ai))) [none,none] (gT 0 1) cT (aj cR (aa 0) (aa 1))) ai)))
def Hw:Xh oS 2 IU Bg:=Lb
def kj:bV:=λb st K=>∃(n w s:Nat) (q:Int),b=[.ref n,.int (w:Int),.int (s:Int)]/\Hk st n q/\q<=900000000/\w<=8/\s<=100/\∀r a,r.length=w->(∀x∈r,x.natAbs<=s)->Hk a n (q+8)->Upd st n a->K (aw r) a
def Bf:List Str:=["_law_hand_here","_law_wide","_law_size"]
def IP:DS:=(aU (ck dN (ae (dX (gE (ae (aa 1) ai)) [none,some 0,some 2] (cB 0) cT (aj jP (aB dw (ae (aa 1) (ae (aj cQ (aj cR (dC (.int 2)) (aa 2)) (dC (.int 1))) ai))) (aa 2))) ai)))
def Ig:Xh kj 3 IP Bf:=by
 rintro C st K ⟨n,w,s,q,rfl,B,A,u,m,k⟩;show⟨rfl,?_⟩;show jH ⟨by lia,by lia⟩ ⟨cL (by rw[iq];lia),?_⟩;rw[XX];show iz (λrest b a=>∃l:List Int,b=ao l/\l.length+rest.length=w/\(∀x∈l,x.natAbs<=s)/\Hk a n (q+l.length)/\Upd st n a) ?_ ?_ _ _ _ ⟨[],rfl,by rw[iq];simp,by simp,B.mono (by simp),Upd.refl⟩
 . rintro b a ⟨l,rfl,c,f,h,g⟩;let c:l.length=w:=by simpa using c
   show⟨trivial,dz rfl (k l a c f (h.mono (by lia)) g)⟩
 . rintro d rest b a ⟨l,rfl,c,f,h,g⟩ next
   let p:l.length<8:=by simp at c;lia
   show⟨trivial,_,rfl,?_⟩;show cY (dZ (by decide) (by decide)) (dm ⟨n,_,_,rfl,h,by lia,by lia,by lia,λi o y v t r=>ib ?_⟩);change eQ _ _ _ _ _ _ _ _ _;rw[ints_app];show next _ _ ⟨l++[i-s],rfl,by simp at c⊢;lia,λz e=>?_,t.mono (by simp;lia),g.trans r⟩
   rcases XZ.mp e with e|e
   . show f z e
   . rw[XW.mp e];lia
def sY:bV:=λb st K=>∃(n w m:Nat) (q:Int),b=[.ref n,.int (w:Int),.int (m:Int)]/\Hk st n q/\q<=800000000/\w<=8/\m<=3/\∀A a,Mx.dk m w A->(∀r∈A,∀x∈r,x.natAbs<=100)->Hk a n (q+100)->(∀k,k<st.length->k≠n->a[k]?=st[k]?)->K (dP A) a
def yB:List Str:=["_law_hand_here","_law_wide","_law_many","_law_rows_here","_law_k","_law_how"]
def GA:DS:=(ay (aL 3 (Ac ai))
 (ay (iy (gE (ae (aa 2) ai)) (cB 4) (ay (aL 5 (aB dw (ae (aa 0) (ae (dC (.int 8)) ai))))
 (di (qU (aV (aj jx (aa 5) (dC (.int 0)))) (aV (aj DY (aa 3) (tN ai)))) (gf (i5 (aa 3) (ck dN (ae (dX (fC (aj aJ (aa 3) (qV lD (dC (.int 1))))) [none] (cB 0) cT (aj cR (dC (.int 2)) (aa 0))) ai)))) (di (aV (aj jx (aa 5) (dC (.int 1)))) (gf (i5 (aa 3) (aj cR (dA (ae (dC (.int 0)) ai)) (aa 1)))) (gf (i5 (aa 3) (aB kj (ae (aa 0) (ae (aa 1) (ae (aj aJ (dA (ae (dC (.int 1)) (ae (dC (.int 1)) (ae (dC (.int 2)) (ae (dC (.int 3)) (ae (dC (.int 5)) (ae (dC (.int 5)) (ae (dC (.int 9)) (ae (dC (.int 9)) ai))))))))) (aa 5)) ai))))))))))
 (aU (ck dN (ae (aa 3) ai)))))
def Mu{A:List (List Int)}:(A.map aw).all (pl 39)=true:=Yi.mpr λd a=>by
 obtain⟨r,_,rfl⟩:=X5.mp a;show vB
def Mz{A:List (List Int)}(h:A.length=n+1):eP (A.map aw) (-1)=some (aw (A.getD n [])):=by
 let e:ke (n+1) (-1)=some n:=by unfold ke;simp;lia
 unfold eP;rw[Xk,h,e];change(A.map aw)[n]?=_;rw[XB,Xv (by lia),Mx.aN (by lia)];rfl
def I_{A:List (List Int)}:A.map aw++[aw r]=(A++[r]).map aw:=by rw[YS];rfl
def AA:∀w:Nat,(List.replicate w [D.int 0]).flatten=ao (List.replicate w 0)
 |0=>rfl
 |w+1=>by
  rw[Yp,YO,AA w,Yp];rfl
def Pm:DS:=(di (aV (aj jx (aa 5) (dC (.int 1)))) (gf (i5 (aa 3) (aj cR (dA (ae (dC (.int 0)) ai)) (aa 1)))) (gf (i5 (aa 3) (aB kj (ae (aa 0) (ae (aa 1) (ae (aj aJ (dA (ae (dC (.int 1)) (ae (dC (.int 1)) (ae (dC (.int 2)) (ae (dC (.int 3)) (ae (dC (.int 5)) (ae (dC (.int 5)) (ae (dC (.int 9)) (ae (dC (.int 9)) ai))))))))) (aa 5)) ai)))))))
def ya{E:m7}{A:List (List Int)}(t:Hk b n f)(H:f<=900000000)(u:w<=8)(l:n≠L)(c:b[L]?=some (.lst (A.map aw)))(a:(A.map aw).length<sizeLine)(G:0<=v)(F:v<8)(m:∀(r:List Int) (s3:ag),r.length=w->(∀x∈r,x.natAbs<=9)->s3[L]?=some (.lst (A.map aw))->Hk s3 n (f+8)->Upd b n s3->E.nx [some (.ref n),some (.int (w:Int)),q,some (.ref L),p,some (.int v)] (s3.set L (.lst (A.map aw++[aw r])))):Pm E [some (.ref n),some (.int (w:Int)),q,some (.ref L),p,some (.int v)] b:=by
 show eq2 (λh=>du ?_) λh=>?_
 . show vi rfl c ⟨Xo rfl,PK ⟨by lia,by lia,cL (by simp;lia)⟩ ?_⟩;rw[XX];let B:(List.replicate w [D.int 0]).flatten=ao (List.replicate w 0):=AA w;rw[B];show rZ c a (m _ b (by simp) (λx g=>?_) c (t.mono (by lia)) Upd.refl);rw[(List.mem_replicate.mp g).2];simp
 . obtain⟨d,z,k⟩:∃d:Nat,eP [D.int 1,.int 1,.int 2,.int 3,.int 5,.int 5,.int 9,.int 9] v=some (.int (d:Int))/\d<=9:=by
    let e:v=0\/v=1\/v=2\/v=3\/v=4\/v=5\/v=6\/v=7:=by lia
    rcases e with rfl|rfl|rfl|rfl|rfl|rfl|rfl|rfl
    . show⟨1,rfl,by decide⟩
    . show⟨1,rfl,by decide⟩
    . show⟨2,rfl,by decide⟩
    . show⟨3,rfl,by decide⟩
    . show⟨5,rfl,by decide⟩
    . show⟨5,rfl,by decide⟩
    . show⟨9,rfl,by decide⟩
    . show⟨9,rfl,by decide⟩
   show vi rfl c ⟨Xo rfl,az rfl z ?_⟩;show⟨n,w,d,_,rfl,t,by lia,u,by lia,λr s3 y C B3 s=>?_⟩;let o:=(s.same L (Xp l)).trans c;show rZ o a (m r s3 y (λx g=>Xu (C x g) k) o B3 s)
def E1:Xh sY 3 GA yB:=by
 rintro ds st K ⟨n,w,m,q,rfl,B,hq,Z,m3,k⟩;show⟨rfl,⟨Xo rfl,?_⟩⟩;let hB:=B.lt;let B0:Hk (st++[.lst []]) n q:=B.cell (Xs hB);let V:(st++[Cell.lst []])[st.length]?=some (.lst (([]:List (List Int)).map aw)):=by simp
 let U:∀k,k<st.length->k≠n->(st++[Cell.lst []])[k]?=st[k]?:=λk o _=>Xs o;let b:n≠st.length:=by lia
 generalize st++[Cell.lst []]=s0 at B0 V U⊢;generalize hL:st.length=L at V U b hB⊢;show jH ⟨by lia,by lia⟩ ?_;rw[XX];show j8 m (λj σ s=>∃(A:List (List Int)) (Q G:Option D),σ=[some (.ref n),some (.int (w:Int)),some (.int (m:Int)),some (.ref L),Q,G]/\s[L]?=some (.lst (A.map aw))/\Mx.dk j w A/\(∀r∈A,∀x∈r,x.natAbs<=9*2^j)/\Hk s n (q+20*j)/\∀k,k<L->k≠n->s[k]?=st[k]?) ?_ ?_ ⟨[],none,none,rfl,V,⟨rfl,λr h=>by cases h⟩,λr h=>by(cases h),B0.mono (by lia),U⟩
 . rintro σ s ⟨A,Q,G,rfl,e,J,P,Y,T⟩;show dz (aO e) (k A s J (λr hr x a=>Xu (P r hr x a) ?_) (Y.mono (by lia)) (by rw[hL];show T));let:2^m<=2^3:=XD (by decide) m3;lia
 rintro j σ s rest hj ⟨A,Q,G,rfl,e,J,P,Y,T⟩ next
 show⟨_,rfl,?_⟩;generalize ab:(jR (cB 4) _ (λ_=>True) _ rest)=NX at next⊢
 let lA:=J.len;let p1:1<=2^j:=ZO;let p2:2^(j+1)=2*2^j:=by rw[YA,YV]
 show⟨n,8,_,rfl,Y,by lia,by decide,by decide,λh R h0 h1 X U2=>?_⟩;let F:R[L]?=some (.lst (A.map aw)):=(U2.same L (Xp b)).trans e;let C:∀k,k<L->k≠n->R[k]?=st[k]?:=λk o f=>(U2.same k f).trans (T k o f);let lL:∀ {s:ag} {c:Cell},s[L]?=some c->L<s.length:=λh=>(Xm.mp h).1
 let E:∀(r:List Int) (l:ag) (G:Option D),r.length=w->(∀x∈r,x.natAbs<=9*2^(j+1))->l[L]?=some (.lst (A.map aw))->Hk l n (q+20*j+1+8)->(∀k,k<L->k≠n->l[k]?=st[k]?)->NX [some (.ref n),some (.int (w:Int)),some (.int (m:Int)),some (.ref L),some (.int (j:Int)),G] (l.set L (.lst (A.map aw++[aw r]))):=λr l G I O N B3 S=>by
  rw[I_];show next _ _ ⟨A++[r],_,_,rfl,Xx (lL N),⟨by simp[lA],λx a=>?_⟩,λx a y M=>?_,?_,λk o f=>by rw[Xq (by lia)];show S k o f⟩
  . rcases XZ.mp a with z|z
    . show J.nq x z
    . rw[XW.mp z];show I
  . rcases XZ.mp a with z|z
    . have:=P x z y M;lia
    . rw[XW.mp z]at M;show O y M
  . show(B3.cell (Xq (Xp b))).mono (by lia)
 let u:(A.map aw).length<sizeLine:=by rw[Xk,Zg];lia
 show eq2 (λhh=>?_) λhh=>ya X (by lia) Z b F u h0 h1 λr l I O N B3 W=>E r l _ I (λx a=>by let:=O x a;lia) N B3 λk o f=>(W.same k f).trans (C k o f);subst hh;show⟨Xo rfl,SM F Mu rfl ?_⟩;cases A with
 |nil=>show ya (v:=0) X (by lia) Z b F u (by decide) (by decide) λr l I O N B3 W=>E r l _ I (λx a=>by let:=O x a;lia) N B3 λk o f=>(W.same k f).trans (C k o f)
 |cons H p=>
  have en:cC (.lst ((H::p).map aw)) (.lst [])=false:=by unfold cC;rfl
  rw[en];show du ?_;let mem:(H::p).getD p.length []∈H::p:=by rw[Mx.aN (by simp)];show Yy _
  let ll:=J.nq _ mem;show vi rfl F (ko (az (aO F) (Mz (n:=p.length) (by simp)) (jJ ⟨cL (by rw[Xk,ll];lia),?_⟩)));show comp_map (g:=λd=>match d with| .int x=> .int (2*x)|_=> .au) trivial _ (λd hd K' t=>?_) ?_
  . obtain⟨x,_,rfl⟩:=X5.mp hd;show⟨_,rfl,cY (dZ (by decide) (by decide)) t⟩
  . have em:(ao ((H::p).getD p.length [])).map (λd=>match d with| .int x=>D.int (2*x)|_=> .au)=ao (((H::p).getD p.length []).map λx=>2*x):=by
     unfold ao;rw[Yk,Yk];rfl
    rw[em];show dz rfl (rZ F u (E _ R _ (by rw[Xk];show ll) (λx a=>?_) F (X.mono (by lia)) C));obtain⟨y,M,rfl⟩:=X5.mp a;let:=P _ mem y M;lia
structure Q4(l h:List Int)(w:Nat):Prop where
 ll:l.length=w
 lh:h.length=w
 bl:∀c,c<w->(l.getD c 0).natAbs<=4
 bh:∀c,c<w->(h.getD c 0).natAbs<=8
 sp:∀c,c<w->h.getD c 0-l.getD c 0<=4
def u5:bV:=λb st K=>∃(n w:Nat) (q:Int),b=[.ref n,.int (w:Int),.int 5]/\Hk st n q/\q<=800000000/\1<=w/\w<=8/\∀l h a,Q4 l h w->Hk a n (q+20)->Upd st n a->K (.tup [aw l,aw h]) a
def Bd:List Str:=["_law_hand_here","_law_wide","_law_span","_law_low","_law_high","_law_at_here"]
def IJ:DS:=(ay (aL 3 (aB kj (ae (aa 0) (ae (aa 1) (ae (dC (.int 4)) ai)))))
 (ay (aL 4 (ck dN (ae (dX (fC (aa 3)) [none,some 0,some 2] (cB 0) cT (aj cQ (aa 0) (aB dw (ae (aa 1) (ae (aa 2) ai))))) ai)))
 (ay (di (aV (aj jx (aB dw (ae (aa 0) (ae (dC (.int 16)) ai))) (dC (.int 0)))) (ay (aL 5 (aB dw (ae (aa 0) (ae (aa 1) ai))))
 (aL 4 (aj cQ (aj cQ (iu (aa 4) fW (jZ (aa 5))) (dA (ae (aj jP (aj jP (aj aJ (aa 3) (aa 5)) (dC (.int 1))) (aB dw (ae (aa 0) (ae (dC (.int 3)) ai)))) ai))) (iu (aa 4) (jZ (aj cQ (aa 5) (dC (.int 1)))) fW)))) cJ)
 (aU (dA (ae (aa 3) (ae (aa 4) ai)))))))
def DB{l:List Int}(h:∀x∈l,x.natAbs<=s):(l.getD c 0).natAbs<=s:=by
 by_cases z:c<l.length
 . rw[Mx.aN z];show h _ (Yy _)
 . rw[Mx.kI (by lia)];simp
def LQ{l:List Int}:(l++[x]).getD c 0=if c<l.length then l.getD c 0 else if c=l.length then x else 0:=by
 by_cases h:c<l.length
 . rw[Xr h,Xw,Xs h,Xw]
 . rw[Xn h];by_cases e:c=l.length
   . rw[Xr e,e,Mx.aN (by simp)];simp
   . rw[Xn e,Mx.kI (by simp;lia)]
def Ot{ns:List Int}{p:Nat}:L3.cutD (ao ns) none (some (p:Int))=ao (ns.take p):=by
 unfold L3.cutD;rw[HT.vO,HT.sV];simp![abV,abz];unfold ao;rw[Xk,<-abc];congr 1;by_cases z:p<=ns.length
 . rw[aak z]
 . rw[aaI (by lia),Yu (Xl _),Yu (by lia)]
def Kp{ns:List Int}{p:Nat}:L3.cutD (ao ns) (some (p:Int)) none=ao (ns.drop p):=by rw[xO];show ab0.symm
def OX{h:List Int}(b:a<h.length):ao (h.take a)++[.int v]++ao (h.drop (a+1))=ao (h.set a v):=by
 rw[List.set_eq_take_append_cons_drop,Xr b];unfold ao;rw[YS,Ye,ZR];rfl
def HD:Xh u5 3 IJ Bd:=by
 rintro ds st K ⟨n,w,q,rfl,B,hq,Y,H,k⟩;show⟨rfl,?_⟩;show⟨n,w,4,q,rfl,B,by lia,H,by decide,λl s1 s Q X U=>?_⟩;show jJ ⟨cL (by rw[Xk];lia),?_⟩;show iz (λrest f g=>∃h:List Int,h.length+rest.length=w/\rest=(ao l).drop h.length/\f=ao h/\(∀c,c<h.length->0<=h.getD c 0-l.getD c 0/\h.getD c 0-l.getD c 0<=4)/\Hk g n (q+8+h.length)/\Upd st n g) ?_ ?_ _ _ _ ⟨[],by rw[Xk];simpa using s,rfl,rfl,λc b=>by simp at b,X.mono (by simp),U⟩
 . rintro f L ⟨h,u,_,rfl,m,x,p⟩;let C:h.length=w:=by simpa using u
   show⟨trivial,dz rfl ?_⟩;let e:∀c,c<w->(l.getD c 0).natAbs<=4:=λc _=>DB Q
   let G:∀c,c<w->(h.getD c 0).natAbs<=8:=λc b=>by
    let:=m c (by lia);let:=e c b;lia
   show⟨n,16,_,rfl,x,by lia,by decide,by decide,λr A N M B3 o=>eq2 (λO=>du ?_) λO=>?_⟩
   . show⟨n,_,_,rfl,B3,by lia,by lia,by lia,λa s4 a0 a1 W T=>?_⟩;obtain⟨a,rfl⟩:∃R:Nat,a=(R:Int):=⟨a.toNat,by lia⟩
     let F:a<h.length:=by lia
     show mO ?_;rw[Ot];let I:LT (aw l) l:= .inr rfl;show I.at (by lia) (ib ⟨n,3,_,rfl,W,by lia,by decide,by decide,λv J v0 Z V S=>ib ⟨Xo rfl,vH (cL (by simp;lia)) (dm (mO ?_))⟩⟩);rw[show(a:Int)+1=((a+1:Nat):Int) by lia,Kp];show vH (cL (by simp;lia)) ?_;rw[OX F];let la:=e a (by lia)
     let gs:∀c,(h.set a (l.getD a 0-1-v)).getD c 0=if a=c then l.getD a 0-1-v else h.getD c 0:=λc=>by
      rw[Pl.gs];by_cases z:a=c
      . rw[Xr ⟨z,F⟩,Xr z]
      . rw[Xn λy=>z y.1,Xn z]
     show⟨Xo rfl,k l _ J ⟨s,by rw[XA];show C,e,λc b=>?_,λc b=>?_⟩ (V.mono (by lia)) (((p.trans o).trans T).trans S)⟩
     . rw[gs c];by_cases z:a=c
       . rw[Xr z];lia
       . rw[Xn z];show G c b
     . rw[gs c];by_cases z:a=c
       . rw[Xr z];subst z;lia
       . rw[Xn z];show(m c (by lia)).2
   . show⟨Xo rfl,k l h A ⟨s,C,e,G,λc b=>(m c (by lia)).2⟩ (B3.mono (by lia)) (p.trans o)⟩
 . rintro d rest f L ⟨h,u,E,rfl,m,x,p⟩ next
   rw[XH]at u;let t:h.length<(ao l).length:=by rw[Xk];lia
   rw[XN t]at E;injection E with h1 h2;rw[Zf]at h1;subst h1;let P:l[h.length]'(by rw[Xk]at t;show t)=l.getD h.length 0:=(Mx.aN _).symm;rw[P];show⟨trivial,_,rfl,?_⟩;show⟨n,5,_,rfl,x,by lia,by decide,by decide,λr A N M B3 o=>dm ?_⟩;change eQ _ _ _ _ _ _ _ _ _;rw[ints_app];show next _ _ ⟨h++[l.getD h.length 0+r],by simp;lia,by rw[h2];simp,rfl,λc b=>?_,B3.mono (by simp;lia),p.trans o⟩
   rw[LQ];by_cases z:c<h.length
   . rw[Xr z];show m c z
   . have:c=h.length:=by simp at b;lia
     rw[Xn z,Xr this,this];lia
def rB:bV:=λb st K=>∃(n w:Nat) (q:Int) (l h:List Int),b=[.ref n,aw l,aw h]/\Hk st n q/\q<=800000000/\w<=8/\Q4 l h w/\∀r a,r.length=w->(∀x∈r,x.natAbs<=9)->Hk a n (q+10)->Upd st n a->K (aw r) a
def wO:List Str:=["_law_hand_here","_law_low","_law_high","_law_found","_law_one","_law_other"]
def Fo:DS:=(ay (aL 3 (dA ai))
 (ay (iy (o9 (ae (aa 1) (ae (aa 2) ai))) (gT 4 5) (aL 3 (aj cQ (aa 3) (dA (ae (aj cQ (aa 4) (aB dw (ae (aa 0) (ae (ck zV (ae (dC (.int 1)) (ae (aj cQ (aj jP (aa 5) (aa 4)) (dC (.int 1))) ai))) ai)))) ai)))))
 (aU (aa 3))))
def DQ:Xh rB 3 Fo wO:=by
 rintro W st K ⟨n,w,q,l,h,rfl,B,V,P,b,k⟩;let R:=b.ll;let S:=b.lh;show⟨rfl,⟨Xo rfl,?_⟩⟩;show mZ rfl rfl λok G=>?_;show gD (λrest σ s=>∃(r:List Int) (e c:Option D),r.length+rest.length=w/\rest=(fg (ao l) (ao h)).drop r.length/\σ=[some (.ref n),some (aw l),some (aw h),some (aw r),e,c]/\(∀x∈r,x.natAbs<=9)/\Hk s n (q+r.length)/\Upd st n s) ?_ ?_ _ _ _ ⟨[],none,none,by rw[gn,Xk,Xk];simp;lia,rfl,rfl,by simp,B.mono (by simp),Upd.refl⟩
 . rintro σ s ⟨r,e,c,f,_,rfl,g,p,o⟩;let H:r.length=w:=by simpa using f
   show⟨G _ rfl rfl,k r s H g (p.mono (by lia)) o⟩
 . rintro d rest σ s ⟨r,e,c,f,C,rfl,g,p,o⟩ next
   rw[XH]at f;let t:r.length<(fg (ao l) (ao h)).length:=by rw[gn,Xk,Xk];lia
   rw[XN t]at C;injection C with h1 h2;let I:(fg (ao l) (ao h))[r.length]?=some d:=by rw[Xv t,h1]
   obtain⟨x,y,ex,E,rfl⟩:=mv I
   let L:x= .int (l.getD r.length 0):=by
    rw[XB,Xv (show r.length<l.length by lia)]at ex;cases ex;rw[Mx.aN (by lia)]
   let J:y= .int (h.getD r.length 0):=by
    rw[XB,Xv (show r.length<h.length by lia)]at E;cases E;rw[Mx.aN (by lia)]
   subst L J;let N:=b.bl r.length (by lia);let F:=b.sp r.length (by lia);let M:=b.bh r.length (by lia);show⟨G _ rfl rfl,_,rfl,?_⟩;generalize l.getD r.length 0=u at N F;generalize h.getD r.length 0=v at F M;show ib (dm (JV ?_));let A:0<(if v-u+1>1 then v-u+1 else 1)/\(if v-u+1>1 then v-u+1 else 1)<=5:=by split<;>lia
   generalize(if v-u+1>1 then v-u+1 else 1)=m at A⊢;show⟨n,m,_,rfl,p,by lia,A.1,by lia,λi Q U T B3 O=>dm ⟨Xo rfl,vH (cL (by simp;lia)) ?_⟩⟩;rw[ints_app];show next _ _ ⟨r++[u+i],_,_,by simp;lia,by rw[h2];simp,rfl,λz a=>?_,B3.mono (by simp;lia),o.trans O⟩
   rcases XZ.mp a with a|a
   . show g z a
   . rw[XW.mp a];lia
def yT(T:Pl.Tk):D:= .tup [aw T.c,dP T.R,aw T.d,aw T.l,aw T.h]
def tQ:bV:=λb st K=>∃(n w m:Nat) (q:Int),b=[.ref n,.int (w:Int),.int (m:Int),.int 5]/\Hk st n q/\q<=500000000/\1<=w/\w<=4/\1<=m/\m<=3/\∀T a,rR T 16 4->T.n=w->Hk a n (q+300)->(∀k,k<st.length->k≠n->a[k]?=st[k]?)->K (yT T) a
def zl:List Str:=["_law_hand_here","_law_wide","_law_many","_law_span","_law_rows_here","_law_low","_law_high","_law_inner_here","_law_due","_law_costs"]
def Ir:DS:=(ay (aL 4 (aB sY (ae (aa 0) (ae (aa 1) (ae (aa 2) ai)))))
 (ay (GO (gT 5 6) (aB u5 (ae (aa 0) (ae (aa 1) (ae (aa 3) ai)))))
 (ay (aL 7 (aB rB (ae (aa 0) (ae (aa 5) (ae (aa 6) ai)))))
 (ay (aL 8 (oK (fC (aa 4)) [none,some 7] (cB 0) cT (aB oS (ae (aa 0) (ae (aa 1) ai)))))
 (ay (di (aV (aj jx (aB dw (ae (aa 0) (ae (dC (.int 4)) ai))) (dC (.int 0)))) (Eu (λi j=>i+j) (aa 8) (aB dw (ae (aa 0) (ae (aa 2) ai))) (aj jP (aB dw (ae (aa 0) (ae (dC (.int 9)) ai))) (dC (.int 4)))) cJ)
 (ay (aL 9 (aB kj (ae (aa 0) (ae (aa 1) (ae (aj aJ (dA (ae (dC (.int 0)) (ae (dC (.int 1)) (ae (dC (.int 3)) (ae (dC (.int 9)) ai))))) (aB dw (ae (aa 0) (ae (dC (.int 4)) ai)))) ai)))))
 (aU (dA (ae (aa 9) (ae (aa 4) (ae (ck dN (ae (aa 8) ai)) (ae (aa 5) (ae (aa 6) ai)))))))))))))
def Ft:∀ {a b:List Int} {s:Nat},(∀x∈a,x.natAbs<=m)->(∀x∈b,x.natAbs<=s)->(Mx.bN a b).natAbs<=a.length*(m*s)
 | [],_,_,_,_=>by change(0:Int).natAbs<=_;simp
 |_::_,[],_,_,_=>by change(0:Int).natAbs<=_;simp
 |x::a,y::b,s,f,d=>by
  let g:=Ft (a:=a) (b:=b) (λz c=>f z (XM _ c)) λz c=>d z (XM _ c);let e:Mx.bN (x::a) (y::b)=x*y+Mx.bN a b:=rfl
  let k:(x*y).natAbs<=m*s:=by
   rw[Ym];show X6 (f x XT) (d y XT)
  let h:=Int.natAbs_add_le (x*y) (Mx.bN a b);rw[e,XH,aaf,Zx];lia
def O_{w m:Nat}{c d l h:List Int}{A:List (List Int)}(f:1<=w)(e:w<=4)(g:1<=m)(v:m<=3)(k:c.length=w)(t:∀x∈c,x.natAbs<=9)(o:Mx.dk m w A)(u:∀r∈A,∀x∈r,x.natAbs<=100)(ld:d.length=m)(s:∀x∈d,x.natAbs<=10000)(bs:Q4 l h w):rR {n:=w,m:=0,w:=m,c:=c,R:=A,d:=d,l:=l,h:=h,F:=[],ld:=λ_=>0} 16 4:=by
 let p:(4+2)^w<=(4+2)^4:=XD (by decide) e;show⟨f,by change w<=8;lia,g,by change m<=8;lia,k,o,ld,bs.ll,bs.lh,λr q x a=>Xu (u r q x a) (by decide),λx a=>Xu (s x a) (by decide),λx a=>by let:=t x a;lia,λc b=>Xu (bs.bl c b) (by decide),λc b=>Xu (bs.bh c b) (by decide),by decide,λc b=>bs.sp c b,Xu p (by decide)⟩
def EJ:Xh tQ 4 Ir zl:=by
 rintro ds st K ⟨n,w,m,q,rfl,B,hq,w1,w4,m1,m3,k⟩;show⟨rfl,?_⟩;let hB:=B.lt;show⟨n,w,m,q,rfl,B,by lia,by lia,m3,λA H P R B1 f1=>?_⟩;let lA:=P.len;show⟨n,w,_,rfl,B1,by lia,w1,by lia,λl h s2 bs B2 U2=>⟨_,rfl,?_⟩⟩;show⟨n,w,_,l,h,rfl,B2,by lia,by lia,bs,λx E lx bx B3 U3=>?_⟩;show jJ ⟨cL (by rw[Xk];lia),?_⟩;show js (λr=> .int (Mx.bN r x)) trivial (A:=A) qj (λe r F he K' t=>⟨_,rfl,_,_,r,x,rfl,he,rfl,by rw[P.nq r F];lia,λa ha b hb=>dZ (by let:=R r F a ha;lia) (by let:=R r F a ha;lia),t⟩) ?_;let ed:A.map (λr=>D.int (Mx.bN r x))=ao (A.map λr=>Mx.bN r x):=by unfold ao;rw[Yk];rfl
 rw[ed];let C:(A.map λr=>Mx.bN r x).length=m:=by rw[Xk,lA]
 let p:∀y∈A.map (λr=>Mx.bN r x),y.natAbs<=9000:=λy I=>by
  obtain⟨r,F,rfl⟩:=X5.mp I;let h1:=Ft (R r F) bx;rw[P.nq r F]at h1;lia
 generalize A.map (λr=>Mx.bN r x)=d at C p
 let l1:st.length<=H.length:=by
  by_cases z:st.length<=H.length
  . show z
  . have e:n≠H.length->False:=λg=>by
     let:=f1 H.length (by lia) (Xp g);rw[ZU (Xl _),Xv (by lia)]at this;cases this
    let:=B1.lt;show absurd (λz:n=H.length=>by lia) (λg=>e g)
 let l3:E.length=H.length:=by rw[U3.len,U2.len]
 let B4:Hk (E++[.lst (ao d)]) n (q+100+20+10):=B3.cell (Xs B3.lt);let Y:(E++[Cell.lst (ao d)])[E.length]?=some (.lst (ao d)):=by simp
 let f4:∀k,k<st.length->k≠n->(E++[Cell.lst (ao d)])[k]?=st[k]?:=λk G g=>by
  rw[Xs (by lia),U3.same k g,U2.same k g];show f1 k G g
 let hL:st.length<=E.length:=by lia
 let o:n≠E.length:=XU B3.lt;generalize E++[Cell.lst (ao d)]=s4 at B4 Y f4⊢;generalize E.length=L at Y hL o⊢
 let J:∀(d:List Int) (s:ag) (z:Int),d.length=m->(∀y∈d,y.natAbs<=10000)->s[L]?=some (.lst (ao d))->Hk s n z->z<=q+140->(∀k,k<st.length->k≠n->s[k]?=st[k]?)->(ay (aL 9 (aB kj (ae (aa 0) (ae (aa 1) (ae (aj aJ (dA (ae (dC (.int 0)) (ae (dC (.int 1)) (ae (dC (.int 3)) (ae (dC (.int 9)) ai))))) (aB dw (ae (aa 0) (ae (dC (.int 4)) ai)))) ai)))))
  (aU (dA (ae (aa 9) (ae (aa 4) (ae (ck dN (ae (aa 8) ai)) (ae (aa 5) (ae (aa 6) ai)))))))) {nx:=λ_ T=>K .au T,rt:=K} [some (.ref n),some (.int (w:Int)),some (.int (m:Int)),some (.int 5),some (dP A),some (aw l),some (aw h),some (aw x),some (.ref L),none] s:=λd s z C p e B hz f=>by
  show⟨Xo rfl,n,4,z,rfl,B,by lia,by decide,by decide,λv V v0 v1 S N=>?_⟩
  obtain⟨O,hs,W⟩:∃O:Nat,eP [D.int 0,.int 1,.int 3,.int 9] v=some (.int (O:Int))/\O<=9:=by
   let e:v=0\/v=1\/v=2\/v=3:=by lia
   rcases e with rfl|rfl|rfl|rfl
   . show⟨0,rfl,by decide⟩
   . show⟨1,rfl,by decide⟩
   . show⟨3,rfl,by decide⟩
   . show⟨9,rfl,by decide⟩
  show az rfl hs ⟨n,w,O,_,rfl,S,by lia,by lia,by lia,λc U lc bc Z M=>?_⟩;let Q:U[L]?=some (.lst (ao d)):=(M.same L (Xp o)).trans ((N.same L (Xp o)).trans e);show dz (aO Q) ⟨Xo rfl,?_⟩;show k _ U (O_ w1 w4 m1 m3 lc (λx hx=>Xu (bc x hx) W) P R C p bs) rfl (Z.mono (by lia)) λk G g=>(M.same k g).trans ((N.same k g).trans (f k G g))
 show⟨n,4,_,rfl,B4,by lia,by decide,by decide,λr V r0 r1 S N=>?_⟩;let e5:=(N.same L (Xp o)).trans Y;let f5:∀k,k<st.length->k≠n->V[k]?=st[k]?:=λk G g=>(N.same k g).trans (f4 k G g);show eq2 (λF=>du ?_) λF=>?_
 . show⟨n,m,_,rfl,S,by lia,by lia,by lia,λi U i0 i1 Z M=>?_⟩;obtain⟨i,rfl⟩:∃i':Nat,i=(i':Int):=⟨i.toNat,by lia⟩
   let X:i<d.length:=by lia
   let Q:=(M.same L (Xp o)).trans e5;show Ou Q (by lia) (u:=d.getD i 0) (gc (by rw[XB,Xv X,Mx.aN X];rfl)) ?_;show⟨n,9,_,rfl,Z,by lia,by decide,by decide,λv s7 v0 v1 B7 U7=>ib ?_⟩;let e7:=(U7.same L (Xp o)).trans Q;show PV e7 (iX (by rw[Xk];show X)) ?_;let es:(ao d).set i (.int (d.getD i 0+(v-4)))=ao (d.set i (d.getD i 0+(v-4))):=by unfold ao;rw[ZD]
   rw[es];let bi:(d.getD i 0).natAbs<=9000:=DB p;show J _ _ _ (by rw[XA];show C) (λy I=>?_) (Xx (Xm.mp e7).1) (B7.cell (Xq (Xp o))) (by lia) λk G g=>?_
   . rcases Y5 I with z|rfl
     . have:=p y z;lia
     . lia
   . rw[Xq (by lia),U7.same k g,M.same k g];show f5 k G g
 . show J d V _ C (λy I=>by let:=p y I;lia) e5 S (by lia) f5
def va:bV:=λa st K=>∃(w:Nat) (l h:List Int),a=[aw l,aw h]/\l.length=w/\h.length=w/\w<=4/\(∀c,c<w->(l.getD c 0).natAbs<=16)/\(∀c,c<w->(h.getD c 0).natAbs<=16)/\(∀c,c<w->h.getD c 0-l.getD c 0<=4)/\K (.lst ((Pl.oY l h [[]]).map aw)) st
def AM:List Str:=["_law_low","_law_high","_law_found","_law_one","_law_other","_law_longer","_law_row_here"]
def IS:DS:=(ay (aL 2 (tN (ae (dA ai) ai)))
 (ay (iy (o9 (ae (aa 0) (ae (aa 1) ai))) (gT 3 4) (ay (aL 5 (tN ai))
 (ay (iy (fC (aa 2)) (cB 6) (aL 5 (aj cQ (aa 5) (dX (pH (ae (aa 3) (ae (aj cQ (aa 4) (dC (.int 1))) ai))) [none,some 6] (cB 0) cT (aj cQ (aa 1) (dA (ae (aa 0) ai)))))))
 (aL 2 (aa 5)))))
 (aU (aa 2))))
def drop_getD{l:List Int}{i:Nat}(h:i<l.length):l.drop i=l.getD i 0::l.drop (i+1):=by
 rw[XN h,Mx.aN h]
def Gz:Xh va 2 IS AM:=by
 rintro ds st K ⟨w,l,h,rfl,ll,lh,w4,bl,bh,T,k⟩;show⟨rfl,⟨Xo rfl,⟨Xo rfl,?_⟩⟩⟩;show mZ rfl rfl λok S=>?_;show gD (λrest σ s=>s=st/\∃(i:Nat) (F:List (List Int)) (E C B c:Option D),i+rest.length=w/\rest=(fg (ao l) (ao h)).drop i/\σ=[some (aw l),some (aw h),some (.lst (F.map aw)),E,C,B,c]/\Pl.oY (l.drop i) (h.drop i) F=Pl.oY l h [[]]/\F.length<=5^i/\∀r∈F,r.length=i) ?_ ?_ _ _ _ ⟨rfl,0,[[]],none,none,none,none,by rw[gn,Xk,Xk];lia,rfl,rfl,rfl,by simp,λr f=>by rw[XW.mp f];rfl⟩
 . rintro σ s ⟨rfl,i,F,E,C,B,c,o,_,rfl,b,_,_⟩;let o:i=w:=by simpa using o
   subst o;show⟨S _ rfl rfl,?_⟩;rw[Y2 (by lia),Y2 (by lia)]at b;let e:Pl.oY [] [] F=F:=rfl;rw[e]at b;rw[b];show k
 . rintro d rest σ s ⟨rfl,i,F,E,C,B,c,o,q,rfl,b,W,N⟩ next
   rw[XH]at o;let O:i<(fg (ao l) (ao h)).length:=by rw[gn,Xk,Xk];lia
   rw[XN O]at q;injection q with P h2;let Z:(fg (ao l) (ao h))[i]?=some d:=by rw[Xv O,P]
   obtain⟨x,y,ex,Q,rfl⟩:=mv Z
   let e1:x= .int (l.getD i 0):=by
    rw[XB,Xv (show i<l.length by lia)]at ex;cases ex;rw[Mx.aN (by lia)]
   let e2:y= .int (h.getD i 0):=by
    rw[XB,Xv (show i<h.length by lia)]at Q;cases Q;rw[Mx.aN (by lia)]
   subst e1 e2;let b1:=bl i (by lia);let b2:=bh i (by lia);let R:=T i (by lia);rw[drop_getD (show i<l.length by lia),drop_getD (show i<h.length by lia)]at b;let b:Pl.oY (l.drop (i+1)) (h.drop (i+1)) (Pl.exts F (l.getD i 0) (h.getD i 0+1-l.getD i 0).toNat)=Pl.oY l h [[]]:=b;show⟨S _ rfl rfl,_,rfl,⟨Xo rfl,?_⟩⟩;generalize l.getD i 0=u at b1 R b;generalize h.getD i 0=v at b2 R b;let M:(v+1-u).toNat<=5:=by lia
   generalize Y:(v+1-u).toNat=n at M b;let p5:5^i<=5^4:=XD (by decide) (by lia)
   let X:∀G:List (List Int),G.length<=F.length->(Pl.exts G u n).length<=3125:=λG m=>by
    rw[Pl.CM];let P:G.length*n<=5^4*5:=X6 (by lia) M;lia
   show vX ?_;show gD (λa σ I=>I=s/\∃(G:List (List Int)) (c:Option D),G.length+a.length=F.length/\a=(F.map aw).drop G.length/\G=F.take G.length/\σ=[some (aw l),some (aw h),some (.lst (F.map aw)),some (.int u),some (.int v),some (.lst ((Pl.exts G u n).map aw)),c]) ?_ ?_ _ _ _ ⟨rfl,[],c,by simp,rfl,rfl,rfl⟩
   . rintro σ I ⟨rfl,G,c,m,_,A,rfl⟩;let m:G.length=F.length:=by simpa using m
     rw[m,List.take_length]at A;subst A;show⟨trivial,next _ _ ⟨rfl,i+1,Pl.exts G u n,_,_,_,_,by lia,h2,rfl,b,?_,λr f=>?_⟩⟩
     . rw[Pl.CM,YA];show X6 W M
     . obtain⟨U,L,j,_,rfl⟩:=Pl.sQ.mp f;simp[N U L]
   . rintro d a σ I ⟨rfl,G,c,m,p,A,rfl⟩ Iz;rw[XH]at m;let V:G.length<(F.map aw).length:=by rw[Xk];lia
     rw[XN V]at p;injection p with g1 g2;rw[Zf]at g1;subst g1;let J:G.length<F.length:=by lia
     show⟨trivial,_,rfl,?_⟩;show dm (zN ⟨by lia,by lia,by lia,by lia⟩ ⟨cL (by rw[iq];lia),?_⟩);rw[Y];generalize f:F[G.length]=r;let lr:=N r (by rw[<-f];show Yy _);show comp_map (g:=λd=>match d with| .int z=>aw (r++[z])|_=> .au) trivial _ (λd q K' t=>?_) ?_
     . unfold dS at q;obtain⟨j,_,rfl⟩:=X5.mp q;show⟨_,rfl,⟨Xo rfl,vH (cL (by simp;lia)) ?_⟩⟩;rw[ints_app];show t
     . have er:(dS u n).map (λd=>match d with| .int z=>aw (r++[z])|_=>D.au)=((List.range n).map λ(j:Nat)=>r++[u+(j:Int)]).map aw:=by
        unfold dS;rw[Yk,Yk];rfl
       rw[er]
       let ex:Pl.exts (G++[r]) u n=Pl.exts G u n++(List.range n).map λ(j:Nat)=>r++[u+(j:Int)]:=by
        unfold Pl.exts;rw[List.flatMap_append];simp
       let H:=X (G++[r]) (by simp;lia);rw[ex,Yn]at H;show Fs ?_ ?_
       . rw[Xk,Xk,Zg];lia
       . rw[<-YS,<-ex];show Iz _ _ ⟨rfl,G++[r],_,by simp;lia,by rw[g2];simp,?_,rfl⟩;rw[Yn,aaK,List.take_succ_eq_append_getElem J,<-A,f]
def vD:Option (Int×List Int)->D
 |none=> .au
 |some (c,x)=> .tup [.int c,aw x]
def V3(T:Pl.Tk):Option (Int×List Int)->Prop
 |none=>∀x,¬T.jw x
 |some (c,x)=>T.jw x/\c=Mx.bN T.c x/\∀y,T.jw y->Pl.ltB (Mx.bN T.c y,y) (c,x)=false
def rO:bV:=λa st K=>∃(T:Pl.Tk),a=[yT T]/\rR T 16 4/\T.n<=4/\∀v,V3 T v->K (vD v) st
def wI:List Str:=["_law_task_here","_law_costs","_law_rows_here","_law_due","_law_low","_law_high","_law_best","_law_x","_law_cost"]
def ES:DS:=(ay (GO (yR 1 2 3 4 5) (aa 0))
 (ay (aL 6 (dC .au))
 (ay (iy (fC (aB va (ae (aa 4) (ae (aa 5) ai)))) (cB 7) (di (aV (aj jx (ck dN (ae (dX (fC (aa 2)) [none,some 7] (cB 0) cT (aB oS (ae (aa 0) (ae (aa 1) ai)))) ai)) (aa 3))) (ay (aL 8 (aB oS (ae (aa 1) (ae (aa 7) ai))))
 (di (tG (aV (aj w6 (aa 6) (dC .au))) (aV (aj qQ (aa 8) (aj aJ (aa 6) (dC (.int 0)))))) (aL 6 (dA (ae (aa 8) (ae (aa 7) ai)))) cJ)) cJ))
 (aU (aa 6)))))
def Au{T:Pl.Tk}{B W:Nat}(p:rR T B W){x:List Int}:(T.R.map λr=>Mx.bN r x)=T.d↔∀j,j<T.w->Mx.bN (T.R.getD j []) x=T.d.getD j 0:=by
 let c:=p.lR.len;let b:=p.Jn;constructor
 . intro h j a;rw[<-h,Xw (l:=T.R.map _),XB,Xv (by lia),Mx.aN (by lia)];rfl
 . intro h;show Mx.zM (n:=T.w) (by rw[Xk];show c) b λj a=>?_;rw[<-h j a,Xw (l:=T.R.map _),XB,Xv (by lia),Mx.aN (by lia)];rfl
def DR:Xh rO 1 ES wI:=by
 rintro X st K ⟨T,rfl,p,I,k⟩;show⟨rfl,⟨_,rfl,?_⟩⟩;let W:=p.lR.len;let U:=p.w8;show⟨T.n,T.l,T.h,rfl,p.ll,p.lh,I,p.lo,p.hi,p.sp,vX ?_⟩
 let mem:∀x,x∈Pl.oY T.l T.h [[]]↔Pl.Bx T.l T.h x:=λx=>by
  rw[Pl.FH _ _ _ _ (by rw[p.ll,p.lh])];constructor
  . rintro⟨r,m,y,L,rfl⟩;rw[XW.mp m];show L
  . show λh=>⟨[],XW.mpr rfl,x,h,rfl⟩
 obtain⟨_,g⟩:=Pl.CB T.l T.h [[]] 0 ⟨λr m=>by rw[XW.mp m];rfl,List.pairwise_singleton _ _⟩;generalize Pl.oY T.l T.h [[]]=F at mem g⊢;let E:=g.up;show gD (λrest σ s=>s=st/\∃(P Q:List (List Int)) (v:Option (Int×List Int)) (u q:Option D),P++Q=F/\rest=Q.map aw/\σ=[some (yT T),some (aw T.c),some (dP T.R),some (aw T.d),some (aw T.l),some (aw T.h),some (vD v),u,q]/\Pl.iS P (λx=>(T.R.map λr=>Mx.bN r x)=T.d) T.c v) ?_ ?_ _ _ _ ⟨rfl,[],F,none,none,none,rfl,rfl,rfl,λx M=>by cases M⟩
 . rintro σ s ⟨rfl,P,Q,v,u,q,n,o,rfl,l⟩
   let:Q=[]:=by
    cases Q with
    |nil=>rfl
    |cons=>cases o
   subst this;rw[YZ]at n;subst n;show⟨trivial,k v ?_⟩;cases v with
   |none=>show λx s=>l x ((mem x).mpr s.box) ((Au p).mpr s.eqs)
   |some v=>
    obtain⟨C,B,R,O⟩:=l;show⟨⟨(mem _).mp C,(Au p).mp B⟩,R,λy s=>O y ((mem y).mpr s.box) ((Au p).mpr s.eqs)⟩
 . rintro d rest σ s ⟨rfl,P,Q,v,u,q,n,o,rfl,l⟩ next
   cases Q with
   |nil=>cases o
   |cons x Q=>
    injection o with C B;subst C B;let f:(P++[x])++Q=F:=by rw[<-n];simp
    let w:∀z∈P,Pl.h8 z x=true:=λz J=>by
     rw[<-n]at E;show(List.pairwise_append.mp E).2.2 z J x XT
    show⟨trivial,_,rfl,?_⟩;show jJ ⟨cL (by rw[Xk];lia),?_⟩;show js (λr=> .int (Mx.bN r x)) trivial (A:=T.R) qj (λe r m N Y t=>⟨_,rfl,_,_,r,x,rfl,N,rfl,by rw[p.lR.nq r m];lia,λa H b l=>dZ (by let:=p.bR r m a H;lia) (by let:=p.bR r m a H;lia),t⟩) ?_;let S:T.R.map (λr=>D.int (Mx.bN r x))=ao (T.R.map λr=>Mx.bN r x):=by unfold ao;rw[Yk];rfl
    rw[S];show dz rfl (B_ vB vB ?_);rw[C1];by_cases h:(T.R.map λr=>Mx.bN r x)=T.d
    . rw[XQ h];let V:=p.lc;show du ⟨_,_,T.c,x,rfl,rfl,rfl,by lia,p.sc.dot,?_⟩;cases v with
      |none=>show lS rfl (du (du ⟨Xo rfl,next _ _ ⟨rfl,P++[x],Q,some (Mx.bN T.c x,x),_,_,f,rfl,rfl,l.first h⟩⟩))
      |some v=>
       obtain⟨c,y⟩:=v;show lS rfl (az rfl rfl (KO (λG=>du ?_) λG=>?_))
       . show⟨Xo rfl,next _ _ ⟨rfl,P++[x],Q,some (Mx.bN T.c x,x),_,_,f,rfl,rfl,l.less h G⟩⟩
       . show next _ _ ⟨rfl,P++[x],Q,some (c,y),_,_,f,rfl,rfl,l.keep w (by lia)⟩
    . rw[XG h];show next _ _ ⟨rfl,P++[x],Q,v,_,_,f,rfl,rfl,l.skip h⟩
def jW:bV:=λa st K=>∃i:Int,a=[.int i]/\K (.bl true) st
def qH:List Str:=["_law_found"]
def y_:DS:=(aU (qG (ck rm (ae (aa 0) (ae (dC (.ty "int")) ai))) (yZ (aV (ck rm (ae (aa 0) (ae (dC (.ty "bool")) ai)))))))
def x_:Xh jW 1 y_ qH:=by
 rintro a st K ⟨i,rfl,k⟩;show⟨rfl,qv rfl (by decide) (du (qv rfl (by decide) k))⟩
def pW:bV:=λa st K=>∃r:List Int,a=[aw r,aw r]/\r.length<=1000/\K (.bl true) st
def uB:List Str:=["_law_found","_law_due"]
def Dv:DS:=(ay (di (tG (pF (aV (ck rm (ae (aa 0) (ae (dC (.ty "tuple")) ai))))) (aV (aj nB (ck dY (ae (aa 0) ai)) (ck dY (ae (aa 1) ai))))) (aU (dC (.bl false))) cJ)
 (aU (ck El (ae (dX (o9 (ae (aa 0) (ae (aa 1) ai))) [none,none] (gT 0 1) cT (qG (aB jW (ae (aa 0) ai)) (aj jx (aa 0) (aa 1)))) ai))))
def all_true:∀a:List D,oE (a.map λ_=>D.bl true)=some (a.map λ_=>true)
 | []=>rfl
 |x::a=>by simp[oE,all_true a]
def Lk{α:Type}:∀a:List α,(a.map λ_=>true).all id=true
 | []=>rfl
 |x::a=>by simp[Lk a]
def BC:Xh pW 2 Dv uB:=by
 rintro m st K ⟨r,rfl,l,k⟩;show⟨rfl,?_⟩;show qv rfl (by decide) (cK rfl (cK rfl (Jv rfl ?_)));show mZ rfl rfl λok h=>⟨cL (by rw[gn,Xk];lia),?_⟩
 show comp_map (g:=λ_=> .bl true) (h st rfl rfl) _ (λd c o q=>?_) ?_
 . obtain⟨n,b,e⟩:=X8.mp c;let f:(fg (ao r) (ao r))[n]?=some d:=by rw[Xv b,e]
   obtain⟨x,y,ex,a,rfl⟩:=mv f;rw[ex]at a;cases a;obtain⟨i,_,rfl⟩:=X5.mp (XO ex);show⟨_,rfl,i,rfl,du (eqT rfl q)⟩
 . show Te (all_true _) ?_;rw[Lk];show k
def jy:bV:=λd st K=>(∃b a,d=[.tup [.str "none",.tup [b,a]],.au]\/∃(c:Int) (x:List Int),x.length<=1000/\d=[.tup [.str "told",.int c,aw x,.tup [b,a]],.tup [.int c,aw x]])/\K (.bl true) st
def tX:List Str:=["_law_told","_law_best"]
def BD:DS:=(ay (di (tG (pF (aV (ck rm (ae (aa 0) (ae (dC (.ty "tuple")) ai))))) (aV (aj jx (ck dY (ae (aa 0) ai)) (dC (.int 0))))) (aU (dC (.bl false))) cJ)
 (ay (di (aV (aj w6 (aa 1) (dC .au))) (ay (di (tG (aV (aj nB (ck dY (ae (aa 0) ai)) (dC (.int 2)))) (aV (aj nB (aj aJ (aa 0) (dC (.int 0))) (dC (.str "none"))))) (aU (dC (.bl false))) cJ)
 (aU (qG (ck rm (ae (aj aJ (aa 0) (dC (.int 1))) (ae (dC (.ty "tuple")) ai))) (aj jx (ck dY (ae (aj aJ (aa 0) (dC (.int 1))) ai)) (dC (.int 2)))))) cJ)
 (ay (di (tG (aV (aj nB (ck dY (ae (aa 0) ai)) (dC (.int 4)))) (aV (aj nB (aj aJ (aa 0) (dC (.int 0))) (dC (.str "told"))))) (aU (dC (.bl false))) cJ)
 (ay (di (tG (pF (aV (aB jW (ae (aj aJ (aa 0) (dC (.int 1))) ai)))) (aV (aj nB (aj aJ (aa 0) (dC (.int 1))) (aj aJ (aa 1) (dC (.int 0)))))) (aU (dC (.bl false))) cJ)
 (aU (qG (aB pW (ae (aj aJ (aa 0) (dC (.int 2))) (ae (aj aJ (aa 1) (dC (.int 1))) ai))) (qG (ck rm (ae (aj aJ (aa 0) (dC (.int 3))) (ae (dC (.ty "tuple")) ai))) (aj jx (ck dY (ae (aj aJ (aa 0) (dC (.int 3))) ai)) (dC (.int 2))))))))))
def DZ{st:ag}{K:DK}{i j:Str}(k:K (.bl (!decide (i=j))) st):nB (.str i) (.str j) st K:=by unfold nB;show k
def zT:Xh jy 2 BD tX:=by
 rintro e st K ⟨⟨d,b,h⟩,k⟩;rcases h with rfl|⟨c,x,a,rfl⟩
 . show⟨rfl,?_⟩;show qv rfl (by decide) (cK rfl (To (show((2:Nat):Int)≠0 by decide) ?_));show lS rfl (du (cK rfl (Jv rfl (az rfl rfl (DZ ?_)))));show az rfl rfl (qv rfl (by decide) (du (az rfl rfl (cK rfl (eqT rfl k)))))
 . show⟨rfl,?_⟩;show qv rfl (by decide) (cK rfl (To (show((4:Nat):Int)≠0 by decide) ?_));show lS rfl (cK rfl (Jv rfl (az rfl rfl (DZ ?_))));show az rfl rfl ⟨c,rfl,az rfl rfl (az rfl rfl (Jv rfl ?_))⟩;show az rfl rfl (az rfl rfl ⟨x,rfl,a,du ?_⟩);show az rfl rfl (qv rfl (by decide) (du (az rfl rfl (cK rfl (eqT rfl k)))))
def Io(T:Pl.Tk):D:= .lst [bS T.c,Cg T.R,bS T.d,bS T.l,bS T.h]
def om:bV:=λa st K=>∃T:Pl.Tk,a=[yT T]/\T.R.length<=1000/\K (Io T) st
def w_:List Str:=["_law_task_here"]
def E8:DS:=(aU (tN (ae (ck kH (ae (aj aJ (aa 0) (dC (.int 0))) ai)) (ae (dX (fC (aj aJ (aa 0) (dC (.int 1)))) [none] (cB 0) cT (ck kH (ae (aa 0) ai))) (ae (ck kH (ae (aj aJ (aa 0) (dC (.int 2))) ai)) (ae (ck kH (ae (aj aJ (aa 0) (dC (.int 3))) ai)) (ae (ck kH (ae (aj aJ (aa 0) (dC (.int 4))) ai)) ai)))))))
def C6:Xh om 1 E8 w_:=by
 rintro d st K ⟨T,rfl,c,k⟩;show⟨rfl,?_⟩;show az rfl rfl (kK rfl (az rfl rfl (jJ ⟨cL (by rw[Xk];lia),?_⟩)));show js bS trivial (A:=T.R) qj (λe r b a f q=>⟨_,rfl,kK a q⟩) ?_;show az rfl rfl (kK rfl (az rfl rfl (kK rfl (az rfl rfl (kK rfl ⟨Xo rfl,k⟩)))))
def rS:bV:=λb st K=>∃(T:Pl.Tk) (f:Bool),b=[yT T]/\rR T 16 4/\T.n<=4/\st[0]?=some (gY f)/\∀a,Bk st a->K (.bl true) a
def wN:List Str:=["_law_task_here","_law_best","_law_handed","_law_told"]
def Fp:DS:=(ay (aL 1 (aB rO (ae (aa 0) ai)))
 (ay (di (pF (aV (aB jy (ae (aB oA (ae (aj aJ (aa 0) (dC (.int 0))) (ae (aj aJ (aa 0) (dC (.int 1))) (ae (aj aJ (aa 0) (dC (.int 2))) (ae (aj aJ (aa 0) (dC (.int 3))) (ae (aj aJ (aa 0) (dC (.int 4))) ai)))))) (ae (aa 1) ai))))) (aU (dC (.bl false))) cJ)
 (ay (aL 2 (aB om (ae (aa 0) ai)))
 (ay (aL 3 (aB oA (ae (aj aJ (aa 2) (dC (.int 0))) (ae (aj aJ (aa 2) (dC (.int 1))) (ae (aj aJ (aa 2) (dC (.int 2))) (ae (aj aJ (aa 2) (dC (.int 3))) (ae (aj aJ (aa 2) (dC (.int 4))) ai)))))))
 (ay (di (aV (aj zo (aa 2) (aB om (ae (aa 0) ai)))) (aU (dC (.bl false))) cJ)
 (aU (aB jy (ae (aa 3) (ae (aa 1) ai)))))))))
def Kj{T:Pl.Tk}(d:T.jw x)(c:∀z,T.jw z->Pl.ltB (Mx.bN T.c z,z) (Mx.bN T.c x,x)=false)(b:T.jw y)(a:∀z,T.jw z->Pl.ltB (Mx.bN T.c z,z) (Mx.bN T.c y,y)=false):x=y:=by
 let:=Pl.vM.Fw _ _ (a x d) (c y b);show YQ Prod.snd this
def LH:pl 40 (Io T)=true:=by
 let a:∀(n:Nat) (r:List Int),pl (n+1) (bS r)=true:=λn r=>by unfold pl;show Gm
 unfold Io pl;simp![ZI,List.all_nil,abX];rw[a,a,a,a]
 let b:pl 39 (Cg T.R)=true:=by
  unfold pl;show Yi.mpr λd c=>?_;obtain⟨r,_,rfl⟩:=X5.mp c;show a _ r
 rw[b];rfl
def Dw:Xh rS 1 Fp wN:=by
 rintro W st K ⟨T,f,rfl,p,M,L,k⟩;show⟨rfl,⟨T,rfl,p,M,λv z=>?_⟩⟩;let U:=p.lR.len;let S:=p.w8
 let len:∀ {x:List Int},T.jw x->x.length<=1000:=λs=>by
  let:=(Pl.yv s.box).1;let:=p.ll;let:=p.n8;lia
 let G:∀ {e:ag} {C:Bool} {n g l dl h:D} {Q:DK},KQ T n g l dl h->e[0]?=some (gY C)->(∀a d,Bk e a->(∀o:DK,∀b,o (.bl true) b->jy [d,vD v] b o)->Q d a)->oA [n,g,l,dl,h] e Q:=λ{e C n g l dl h Q} H J q=>by
  show⟨n,g,l,dl,h,T,16,4,C,rfl,H,p,J,λnone a u t B=>q a _ B λo b w=>?_,λx a u t B s best=>q a _ B λo b w=>?_⟩
  . cases v with
    |none=>show⟨⟨u,t,.inl rfl⟩,w⟩
    |some v=>show absurd z.1 (none _)
  . cases v with
    |none=>show absurd s (z x)
    |some v=>
     obtain⟨c,y⟩:=v;obtain⟨R,P,O⟩:=z;subst P;let:=Kj s best R O;subst this;show⟨⟨u,t,.inr ⟨_,x,len s,rfl⟩⟩,w⟩
 show az rfl rfl (az rfl rfl (az rfl rfl (az rfl rfl (az rfl rfl ?_))));dsimp only[ai];show G ⟨.inr rfl,.inr rfl,.inr rfl,.inr rfl,.inr rfl⟩ L λa d r N=>?_;dsimp only[ae,ai];show r_ rfl (N _ a ?_);show⟨T,rfl,by lia,?_⟩;obtain⟨V,I⟩:=r.tb;show az rfl rfl (az rfl rfl (az rfl rfl (az rfl rfl (az rfl rfl ?_))));dsimp only[ai];show G ⟨.inl rfl,.inl rfl,.inl rfl,.inl rfl,.inl rfl⟩ I λb X B3 A=>?_;show⟨T,rfl,by lia,MM LH ?_⟩;dsimp only;rw[Xn (show¬(false=true) by decide)];dsimp only[cJ,aU,aB,ae,ai];show r_ rfl ?_;show r_ rfl ?_;show A _ b (k b ?_);show⟨Xu r.le B3.le,λm E F=>by rw[B3.fr m (XF E r.le) F,r.fr m E F],B3.tb⟩
abbrev Ny:bV:=Jl Tr
def Oh:List Str:=["_law_script","_law_k","_law_hand_here","_law_wide"]
def TB:DS:=(ay (iy (gE (ae (aj cQ (dC (.int 1)) (ck Aw (ae (dC (.int 2)) (ae (ck dY (ae (aa 0) ai)) ai)))) ai)) (cB 1) (ay (aL 2 (aB tu (ae (aa 0) (ae (aa 1) ai))))
 (ay (aL 3 (aj cQ (dC (.int 1)) (aB dw (ae (aa 2) (ae (dC (.int 4)) ai)))))
 (di (pF (aV (aB rS (ae (aB tQ (ae (aa 2) (ae (aa 3) (ae (aj cQ (dC (.int 1)) (aB dw (ae (aa 2) (ae (dC (.int 3)) ai)))) (ae (dC (.int 5)) ai))))) ai)))) (aU (dC (.bl false))) cJ))))
 (aU (dC (.bl true))))
def Rz:Xh Ny 1 TB Oh:=by
 rintro Z st K ⟨a,rfl,X,b,k⟩;show⟨rfl,?_⟩;let y:st[0]?=some (gY false):=by rw[b];rfl
 clear b;show cK rfl (Li (dm ?_));let G:0<=1+(if((a.map D.int).length:Int)<2 then((a.map D.int).length:Int)else 2)/\1+(if((a.map D.int).length:Int)<2 then((a.map D.int).length:Int)else 2)<=3:=by split<;>lia
 generalize 1+(if((a.map D.int).length:Int)<2 then((a.map D.int).length:Int)else 2)=m at G⊢;obtain⟨m,rfl⟩:∃C:Nat,m=(C:Int):=⟨m.toNat,by lia⟩
 show jH ⟨by lia,by lia⟩ ?_;rw[XX];show j8 m (λj σ s=>(∃g e d:Option D,σ=[some (.lst (a.map .int)),g,e,d])/\∃f,s[0]?=some (gY f)) ?_ ?_ ⟨⟨none,none,none,rfl⟩,_,y⟩
 . rintro σ s ⟨⟨g,e,d,rfl⟩,_⟩;show k s
 . rintro j σ s rest Y ⟨⟨g,e,d,rfl⟩,f,t⟩ next
   show⟨_,rfl,?_⟩;show⟨a,j,rfl,by lia,by lia,λS q I=>?_⟩;let E:=(Xm.mp t).1;let x:=(I.same 0 E).trans t;let c:s.length≠0:=by lia
   generalize s.length=n at q c⊢;show⟨n,4,0,rfl,q,by decide,by decide,by decide,λr R V U N L=>dm ?_⟩;obtain⟨w,F⟩:∃w:Nat,1+r=(w:Int):=⟨(1+r).toNat,by lia⟩
   rw[F];let v:=(L.same 0 (Xp c)).trans x;show⟨n,3,_,rfl,N,by lia,by decide,by decide,λo Q A z B3 J=>dm ?_⟩;obtain⟨B,h⟩:∃w:Nat,1+o=(w:Int):=⟨(1+o).toNat,by lia⟩
   rw[h];let l:=(J.same 0 (Xp c)).trans v;show⟨n,w,B,_,rfl,B3,by lia,by lia,by lia,by lia,by lia,λT P p W B4 H=>?_⟩;let u:=(H 0 (Xm.mp l).1 (Xp c)).trans l;show⟨T,f,rfl,p,by lia,u,λO M=>next _ _ ⟨⟨_,_,_,rfl⟩,M.tb⟩⟩
end Prog
namespace Row
open PySem L2 L3 Prog
open PySem.Spec hiding items?
open PyProof.Rows hiding St
def C_:(("abs":Str))≠"__name__":=by decide+kernel
def gj:(("tuple":Str))≠"__name__":=by decide+kernel
def yJ:(("sum":Str))≠"__name__":=by decide+kernel
def jG:(("list":Str))≠"__name__":=by decide+kernel
def e9:(("len":Str))≠"__name__":=by decide+kernel
def EA:(("min":Str))≠"__name__":=by decide+kernel
def C9:(("max":Str))≠"__name__":=by decide+kernel
def yY:(("int":Str))≠"__name__":=by decide+kernel
def tW:(("isinstance":Str))≠"__name__":=by decide+kernel
def Gx:(("bool":Str))≠"__name__":=by decide+kernel
def IQ:(("all":Str))≠"__name__":=by decide+kernel
structure Bl(mg:Str->Option Value):Prop where
 HI:mg "abs"=none
 hO:mg "tuple"=none
 vJ:mg "zip"=none
 i8:mg "range"=none
 Cn:mg "sum"=none
 wW:mg "enumerate"=none
 lQ:mg "list"=none
 fO:mg "len"=none
 M1:mg "sorted"=none
 HM:mg "min"=none
 Ib:mg "max"=none
 Cc:mg "int"=none
 vp:mg "isinstance"=none
 Kc:mg "bool"=none
 N3:mg "all"=none
structure Kl(K:PySem.W.Frag)(mg:Str->Option Value):Prop where
 bG:ClsAt K mg "Bench" aH
 f_:ClsAt K mg "Layer" dj
 cu:ClsAt K mg "Task" aR
 dv:ClsAt K mg "Waiting" bX
 dy:ClsAt K mg "Grower" bK
 cF:df K aH "body"
 fA:df K aH "turn"
 cO:df K aH "back_columns"
 pk:df K aR "low"
 oa:df K aR "high"
 t9:df K dj "place"
 sU:df K aR "due"
 lO:df K aR "rows"
 uK:df K dj "lows"
 tY:df K dj "highs"
 nt:df K aR "costs"
 pe:df K dj "open_cost"
 qr:df K aR "steps"
 l9:df K aR "layers"
 eB:df K bX "heap"
 g4:df K bK "task"
 jC:df K bK "plan"
 kG:df K bK "told_cost"
def Mh:VF xI EC ["one","other"] ["abs"]:= .of (by decide+kernel)
def fB:VF C5 Lh ["top","bottom"] ["common"]:= .of (by decide+kernel)
def QJ:VF Dd Lx ["one","other"] ["part"]:= .of (by decide+kernel)
def PL:VF Ax F5 ["one","other"] ["part"]:= .of (by decide+kernel)
def O4:VF Ai FU ["one","other"] ["part"]:= .of (by decide+kernel)
def SJ:VF DW Ko ["one","other"] ["part"]:= .of (by decide+kernel)
def Oo:VF Aq Fv ["n"] []:= .of (by decide+kernel)
def KU:VF uO AE ["rows"] ["tuple"]:= .of (by decide+kernel)
def Qb:VF zx FC ["row","times","other"] ["zip"]:= .of (by decide+kernel)
def Ma:VF xj EE ["weights","rows","wide"] ["zip","added","tuple"]:= .of (by decide+kernel)
def Nj:VF xD Cu ["rows","place"] ["tuple"]:= .of (by decide+kernel)
def BE:VF o6 tV ["rows","wide"] ["range","tuple"]:= .of (by decide+kernel)
def Hn:VF tE yF ["n","place"] ["range","tuple"]:= .of (by decide+kernel)
def Fg:VF rL wC ["n"] ["range","tuple"]:= .of (by decide+kernel)
def TY:VF HB Og ["one","other"] ["zip","sum"]:= .of (by decide+kernel)
def K0:VF vw Bm ["row"] ["enumerate"]:= .of (by decide+kernel)
def fj:VF j6 ox ["top","bottom"] []:= .of (by decide+kernel)
def EX:VF rQ wG ["rows","k","other"] ["list"]:= .of (by decide+kernel)
def Jx:VF uA AX ["row"] []:= .of (by decide+kernel)
def cn:VF d8 mr ["self","rows"] ["len","unit_rows"]:= .of (by decide+kernel)
def bo:VF kE qx ["self","k","times","other"] ["added"]:= .of (by decide+kernel)
def bJ:VF gQ mI ["self","k","other"] ["exchanged"]:= .of (by decide+kernel)
def aW:VF fH jV ["self","k"] ["negated"]:= .of (by decide+kernel)
def cX:VF eN lB ["self","top","place"] ["len","range","sorted"]:= .of (by decide+kernel)
def aA:VF i4 nO ["self","top","place"] ["len","nearest_quotient"]:= .of (by decide+kernel)
def bT:VF fF jO ["self","top","place"] ["range"]:= .of (by decide+kernel)
def aX:VF sT yy ["rows"] ["Bench","len","range","turned_over","as_rows"]:= .of (by decide+kernel)
def bg:VF vz AR ["form","row"] ["list","lead_of","added","tuple"]:= .of (by decide+kernel)
def Qd:VF zB FE ["form","row"] ["weighed"]:= .of (by decide+kernel)
def Ff:VF rl wL ["parts","row"] ["whole","zip","times","plus"]:= .of (by decide+kernel)
def EY:VF rD wY ["form","rest","place"] ["lead_of","abs"]:= .of (by decide+kernel)
def ak:VF nj qZ ["form","rest"] ["lead_of","whole","len","bottom_at","part","range","parts_dot","minus","over","tuple"]:= .of (by decide+kernel)
def zw:VF nY si ["turn","many"] ["len","standing"]:= .of (by decide+kernel)
def Lw:VF uW AZ ["rows","due"] ["len","turned_over","standing","weighed","lead_of","parts_against","steps_behind","sum_by","falls"]:= .of (by decide+kernel)
def iC:VF oi wQ ["numbers","low","high"] ["zip","sum"]:= .of (by decide+kernel)
def jo:VF pw yr ["numbers","low","high"] ["zip","sum"]:= .of (by decide+kernel)
def aP:VF ff mq ["self","task","place"] ["zip","least_sum"]:= .of (by decide+kernel)
def bE:VF fZ m4 ["self","costs","rows","due","low","high","steps"] ["len","Layer"]:= .of (by decide+kernel)
def jE:VF ju o8 ["self","taken"] ["len"]:= .of (by decide+kernel)
def iQ:VF j_ pY ["self","taken","row"] ["tuple"]:= .of (by decide+kernel)
def eO:VF gu kZ ["self","place","row"] []:= .of (by decide+kernel)
def cy:VF gG mE ["self","k","taken","fixed"] ["dot"]:= .of (by decide+kernel)
def eK:VF gy lu ["self","taken","fixed"] ["dot"]:= .of (by decide+kernel)
def bY:VF gJ mx ["self","taken","fixed","cost","plan"] ["len","tuple"]:= .of (by decide+kernel)
def ow:VF fS kc ["self"] []:= .of (by decide+kernel)
def ig:VF fV ku ["self"] ["len"]:= .of (by decide+kernel)
def bD:VF jA o4 ["self","thing"] ["len"]:= .of (by decide+kernel)
def aQ:VF e_ iB ["self","place"] ["len"]:= .of (by decide+kernel)
def aT:VF iZ nS ["self","thing"] []:= .of (by decide+kernel)
def bz:VF fx jr ["self"] ["len"]:= .of (by decide+kernel)
def aC:VF jb qw ["task","taken","row"] ["lead_of","range"]:= .of (by decide+kernel)
def a8:VF nJ sh ["task","taken","row"] ["len","range"]:= .of (by decide+kernel)
def cp:VF o7 t6 ["waiting","task","taken","row"] ["node_against"]:= .of (by decide+kernel)
def a9:VF rK wH ["task","answer"] ["Waiting","put_if_open","first_and_rows"]:= .of (by decide+kernel)
def cM:VF gv lg ["self","task","plan"] ["dot"]:= .of (by decide+kernel)
def de:VF fU km ["self","taken","row"] []:= .of (by decide+kernel)
def bf:VF gh oU ["self","taken","row"] ["node_against","first_and_rows","tuple"]:= .of (by decide+kernel)
def ba:VF vg AB ["costs","rows","due","low","high"] ["answers","Task","best_plan","Grower"]:= .of (by decide+kernel)
def MA:VF xn DL ["_law_script","_law_k"] ["len"]:= .of (by decide+kernel)
def GP:VF td zg ["_law_script","_law_k"] ["_law_at","int"]:= .of (by decide+kernel)
def Im:VF tw yx ["_law_hand_here","_law_many"] []:= .of (by decide+kernel)
def JY:VF vf Bg ["_law_one","_law_other"] ["zip","sum"]:= .of (by decide+kernel)
def Ke:VF vh Bf ["_law_hand_here","_law_wide","_law_size"] ["range","tuple"]:= .of (by decide+kernel)
def GN:VF tD yB ["_law_hand_here","_law_wide","_law_many"] ["range","_law_take","tuple","_law_row"]:= .of (by decide+kernel)
def La:VF uM Bd ["_law_hand_here","_law_wide","_law_span"] ["_law_row","tuple","_law_take"]:= .of (by decide+kernel)
def EW:VF rW wO ["_law_hand_here","_law_low","_law_high"] ["zip","max","_law_take"]:= .of (by decide+kernel)
def aF:VF pq zl ["_law_hand_here","_law_wide","_law_many","_law_span"] ["_law_rows","_law_box","_law_inner","_law_take","_law_row","tuple"]:= .of (by decide+kernel)
def J9:VF uu AM ["_law_low","_law_high"] ["zip","range"]:= .of (by decide+kernel)
def Fb:VF rP wI ["_law_task_here"] ["_law_all","tuple","_law_dot"]:= .of (by decide+kernel)
def yC:VF nA qH ["_law_found"] ["int","isinstance","bool"]:= .of (by decide+kernel)
def Er:VF pU uB ["_law_found","_law_due"] ["tuple","isinstance","len","zip","all"]:= .of (by decide+kernel)
def By:VF oV tX ["_law_told","_law_best"] ["tuple","isinstance","len","_law_is_number","_law_is_row"]:= .of (by decide+kernel)
def EN:VF rJ w_ ["_law_task_here"] ["list"]:= .of (by decide+kernel)
def Fe:VF rM wN ["_law_task_here"] ["_law_first","planned","_law_is_best","_law_lists"]:= .of (by decide+kernel)
def T_:VF yb Oh ["_law_script"] ["len","min","range","_law_hand","_law_take","_law_task","_law_right"]:= .of (by decide+kernel)
structure Ev(w:World)(mg:Str->Option Value)(h:Heap):Prop where
 X:(KX w.params).In h
 G:h.Ns mainGlobals mg
section
variable {w:World}{mg:Str->Option Value}{h:Heap}(base:Heap)(e:Ev w mg h)
include e
set_option hygiene false
local macro_rules| `(tactic|nofun)=> `(tactic|repeat' first
 |(change JA _ _ _;first|show av|show af ?_ ?_)
 |(change JE (dO _ _ _ _ _ _ _) _ _;first|show fz|show bQ|show cf ?_ ?_|first|show b_ c1.1 c1.2 (hr.mono (by decide)) ?_ (by decide+kernel) rfl|show b_ c2.1 c2.2 (hr.mono (by decide)) ?_ (by decide+kernel) rfl|show b_ c3.1 c3.2 (hr.mono (by decide)) ?_ (by decide+kernel) rfl|show b_ c4.1 c4.2 (hr.mono (by decide)) ?_ (by decide+kernel) rfl|show b_ c5.1 c5.2 (hr.mono (by decide)) ?_ (by decide+kernel) rfl|show b_ c6.1 c6.2 (hr.mono (by decide)) ?_ (by decide+kernel) rfl|show b_ c7.1 c7.2 (hr.mono (by decide)) ?_ (by decide+kernel) rfl|show b_ c8.1 c8.2 (hr.mono (by decide)) ?_ (by decide+kernel) rfl|show dJ Hm ?_ B.HI rfl C_ (by decide+kernel) rfl|show iW jI ?_ B.hO rfl gj (by decide+kernel) rfl|show dJ (B8 rfl) ?_ B.Cn rfl yJ (by decide+kernel) rfl|show iW su ?_ B.lQ rfl jG (by decide+kernel) rfl|show iW Gk ?_ B.lQ rfl jG (by decide+kernel) rfl|show dJ fM ?_ B.fO rfl e9 (by decide+kernel) rfl|show dJ (Iy rfl) ?_ B.HM rfl EA (by decide+kernel) rfl|show dJ (Hj rfl) ?_ B.Ib rfl C9 (by decide+kernel) rfl|show iW Nu ?_ B.Cc rfl yY (by decide+kernel) rfl|show dJ Nz ?_ B.vp rfl tW (by decide+kernel) rfl|show dJ (NJ rfl) ?_ B.N3 rfl IQ (by decide+kernel) rfl|show qI ?_ ?_|show dF (by first|show mf|show ux|show NF|show pD|show Ol|show nr) ?_ ?_|show sP (by first|show tF hr|show zu|show tm|show zQ|show sr|show tI|show tJ|show HJ|show HL hr|show IE hr) (cW _) ?_ ?_|show fX ?_|show BX ?_|show Cs ?_|show jK ?_ ?_ ?_|show ny ?_|show IB ?_ ?_ ?_|show G8 ?_ ?_|show BP ?_|show Cq ?_|show Ep|show ma|show m5|show j_compC (by decide+kernel) ?_ ?_ ?_ ?_ ?_|show uy B.hO rfl gj (by decide+kernel) rfl|show uy B.lQ rfl jG (by decide+kernel) rfl|show uy B.Cc rfl yY (by decide+kernel) rfl|show uy B.Kc rfl Gx (by decide+kernel) rfl)
 |(change JE _ _ _;first|show v.nm _|show bQ|show cf ?_ ?_|first|show b_ c1.1 c1.2 (hr.mono (by decide)) ?_ (by decide+kernel) v.gM|show b_ c2.1 c2.2 (hr.mono (by decide)) ?_ (by decide+kernel) v.gM|show b_ c3.1 c3.2 (hr.mono (by decide)) ?_ (by decide+kernel) v.gM|show b_ c4.1 c4.2 (hr.mono (by decide)) ?_ (by decide+kernel) v.gM|show b_ c5.1 c5.2 (hr.mono (by decide)) ?_ (by decide+kernel) v.gM|show b_ c6.1 c6.2 (hr.mono (by decide)) ?_ (by decide+kernel) v.gM|show b_ c7.1 c7.2 (hr.mono (by decide)) ?_ (by decide+kernel) v.gM|show b_ c8.1 c8.2 (hr.mono (by decide)) ?_ (by decide+kernel) v.gM|show dJ Hm ?_ B.HI rfl C_ (by decide+kernel) v.gM|show iW jI ?_ B.hO rfl gj (by decide+kernel) v.gM|show dJ (B8 rfl) ?_ B.Cn rfl yJ (by decide+kernel) v.gM|show iW su ?_ B.lQ rfl jG (by decide+kernel) v.gM|show iW Gk ?_ B.lQ rfl jG (by decide+kernel) v.gM|show dJ fM ?_ B.fO rfl e9 (by decide+kernel) v.gM|show dJ (Iy rfl) ?_ B.HM rfl EA (by decide+kernel) v.gM|show dJ (Hj rfl) ?_ B.Ib rfl C9 (by decide+kernel) v.gM|show iW Nu ?_ B.Cc rfl yY (by decide+kernel) v.gM|show dJ Nz ?_ B.vp rfl tW (by decide+kernel) v.gM|show dJ (NJ rfl) ?_ B.N3 rfl IQ (by decide+kernel) v.gM|show qI ?_ ?_|show dF (by first|show mf|show ux|show NF|show pD|show Ol|show nr) ?_ ?_|show sP (by first|show tF hr|show zu|show tm|show zQ|show sr|show tI|show tJ|show HJ|show HL hr|show IE hr) (cW _) ?_ ?_|show fX ?_|show BX ?_|show Cs ?_|show jK ?_ ?_ ?_|show ny ?_|show IB ?_ ?_ ?_|show G8 ?_ ?_|show BP ?_|show Cq ?_|show Ep|show ma|show m5|show OO v (by decide+kernel) ?_ ?_ ?_ ?_ ?_|show uy B.hO rfl gj (by decide+kernel) v.gM|show uy B.lQ rfl jG (by decide+kernel) v.gM|show uy B.Cc rfl yY (by decide+kernel) v.gM|show uy B.Kc rfl Gx (by decide+kernel) v.gM)
 |(change JB _ _ _;first|show ax ?_ ?_|show aS ?_|show fm)
 |(change JS _ _ _;first|show bI nd v.lM ?_|show fY ?_ ?_ ?_|show cA ?_|show oN ?_ ?_ ?_|show qu ?_ ?_|show g7 ?_|show fI ?_ ?_ ?_|show Kr ?_ ?_)
 |(change JT _ _ _;first|show eH (by first|show tF hr|show zu|show tm|show zQ|show sr|show tI|show tJ|show HJ|show HL hr|show IE hr) (cW _) ?_ ?_|(change JT _ (.BoolOp _ _ _) _;show Ca ?_)|show KR ?_|show M3 (by first|show tI|show tJ|show zu|show tm) (by first|show tI|show tJ|show zu|show tm) ?_ ?_ ?_|show ot ?_)
 |(change JW _ _ _;first|show UP ?_ ?_|show QP ?_|show za ?_ ?_|show vV ?_)
 |(change JI (dO _ _ _ _ _ _ _) _ _ _;first|show nX rfl B.i8 ?_|show Cj rfl B.vJ ?_|show Ku rfl B.wW ?_|show sO rfl B.i8 ?_|show oj ?_)
 |(change JI _ _ _ _;first|show nX v.gM B.i8 ?_|show Cj v.gM B.vJ ?_|show Ku v.gM B.wW ?_|show sO v.gM B.i8 ?_|show oj ?_)
 |(change JG (dO _ _ _ _ _ _ _) _ _;first|show Vf|show Tj)
 |(change JG _ _ _;first|show ky nd v.lM (by first|show .inr v.loc|show .inl rfl)|show yN rfl nd v.lM (by first|show .inr v.loc|show .inl rfl) v.lM (by first|show .inr v.loc|show .inl rfl)|show UK rfl nd v.lM (by first|show .inr v.loc|show .inl rfl) v.lM (by first|show .inr v.loc|show .inl rfl) v.lM (by first|show .inr v.loc|show .inl rfl) v.lM (by first|show .inr v.loc|show .inl rfl) v.lM (by first|show .inr v.loc|show .inl rfl))
 |(change JO _ _ _;first|show kP|show kM ?_)
 |(change JC _ _ _;show g9)
 |show ji
 |show Am
 |intro _ _ _ _)
def Fk(w:World)(mg:Str->Option Value)(base:Heap)(n:Str)(s:Stmt)(ps:List Str)(a:Addr)(m:Value)(c:Addr)(k:Nat)(S:bV):Prop:=oh (KX w.params) mg n n s ps a (Hd.fd s n n m c)/\cH PW w (KX w.params) mg base eC k a (Hd.fd s n n m c) ps (fe S)
omit e in
theorem fk{N gl ps:List Str}{k:Nat}{S:bV}{base:Heap}(d:oh (KX w.params) mg n n s ps a (Hd.fd s n n m c))(v:VF s N ps gl)(g:VS (bH s) N gl->N.Nodup->∀(cdv:Value) (A:Around) (outer:List Env) (z:Shared) (H:Hp) (E:XK),cU k (A.deeper (envOfC n (bH s) z.heap.objs.size a cdv))->JB (rE eC PW w (KX w.params) mg base N n (bH s) a cdv A outer z H E).wA (hJ s) t)(q:∀ds st K,S ds st K->ds.length=ps.length/\t {nx:=λ_ st2=>K .au st2,rt:=K} (aI N ds) st):Fk w mg base n s ps a m c (k+1) S:=⟨d,fu d.fn v.sc (g v.v v.sc.nd) q⟩
local macro_rules| `(tactic|ac_rfl)=> `(tactic|first|show Hd.W7 e.X e.G (by kernel_rfl) λ_ _ _ _ _ _ _=>rfl|show Hd.WM e.X e.G (by kernel_rfl) λ_ _ _ _ _ _ _ _=>rfl|show Hd.WO e.X e.G (by kernel_rfl) λ_ _ _ _ _ _ _ _ _=>rfl|show Hd.WQ e.X e.G (by kernel_rfl) λ_ _ _ _ _ _ _ _ _ _ _=>rfl|show Hd.Xd e.X e.G (by kernel_rfl) λ_ _ _ _ _ _ _ _ _ _=>rfl)
theorem Bt:Bl mg:=⟨Yb e.X e.G (by kernel_rfl),Yb e.X e.G (by kernel_rfl),Yb e.X e.G (by kernel_rfl),Yb e.X e.G (by kernel_rfl),Yb e.X e.G (by kernel_rfl),Yb e.X e.G (by kernel_rfl),Yb e.X e.G (by kernel_rfl),Yb e.X e.G (by kernel_rfl),Yb e.X e.G (by kernel_rfl),Yb e.X e.G (by kernel_rfl),Yb e.X e.G (by kernel_rfl),Yb e.X e.G (by kernel_rfl),Yb e.X e.G (by kernel_rfl),Yb e.X e.G (by kernel_rfl),Yb e.X e.G (by kernel_rfl)⟩
theorem Qt:Kl (KX w.params) mg:=⟨⟨⟨by kernel_rfl,by kernel_rfl,by kernel_rfl,by kernel_rfl⟩,aae e.X e.G (by kernel_rfl),by kernel_rfl,by kernel_rfl⟩,⟨⟨by kernel_rfl,by kernel_rfl,by kernel_rfl,by kernel_rfl⟩,aae e.X e.G (by kernel_rfl),by kernel_rfl,by kernel_rfl⟩,⟨⟨by kernel_rfl,by kernel_rfl,by kernel_rfl,by kernel_rfl⟩,aae e.X e.G (by kernel_rfl),by kernel_rfl,by kernel_rfl⟩,⟨⟨by kernel_rfl,by kernel_rfl,by kernel_rfl,by kernel_rfl⟩,aae e.X e.G (by kernel_rfl),by kernel_rfl,by kernel_rfl⟩,⟨⟨by kernel_rfl,by kernel_rfl,by kernel_rfl,by kernel_rfl⟩,aae e.X e.G (by kernel_rfl),by kernel_rfl,by kernel_rfl⟩,Hd.na (by kernel_rfl),Hd.na (by kernel_rfl),Hd.na (by kernel_rfl),Hd.na (by kernel_rfl),Hd.na (by kernel_rfl),Hd.na (by kernel_rfl),Hd.na (by kernel_rfl),Hd.na (by kernel_rfl),Hd.na (by kernel_rfl),Hd.na (by kernel_rfl),Hd.na (by kernel_rfl),Hd.na (by kernel_rfl),Hd.na (by kernel_rfl),Hd.na (by kernel_rfl),Hd.na (by kernel_rfl),Hd.na (by kernel_rfl),Hd.na (by kernel_rfl),Hd.na (by kernel_rfl)⟩
theorem Nk:Fk w mg base "common" xI ["one","other"] 21 qY 20 1 xk:=by
 let B:=Bt e;show fk (by ac_rfl) Mh (λv nd _ _ _ _ _ _ hr=>by nofun) IT
theorem uY:Fk w mg base "part" C5 ["top","bottom"] 28 qY 27 2 qk:=by
 let c1:=Nk base e
 show fk (by ac_rfl) fB (λv nd cdv A outer s H E hr=>(ax (bI fB.sc.nd (fB.v.l 2) (b_ c1.1 c1.2 (hr.mono (by decide)) (af (fB.v.nm 0) (af (fB.v.nm 1) av)) (fB.v.d 0) (fB.v.g 0)))
  (ax (fY (eH tJ (cW _) (fB.v.nm 1) bQ) (aS (bI fB.sc.nd (fB.v.l 2) (ny (fB.v.nm 2)))) fm)
  (aS (cA (fX (af (dF (nP hr rfl fB.sc.gen fB.sc.co) (fB.v.nm 0) (fB.v.nm 2)) (af (dF (nP hr rfl fB.sc.gen fB.sc.co) (fB.v.nm 1) (fB.v.nm 2)) av)))))))) Pz
theorem SW:Fk w mg base "plus" Dd ["one","other"] 35 qY 34 3 Di:=by
 let c1:=uY base e;let B:=Bt e;show fk (by ac_rfl) QJ (λv nd _ _ _ _ _ _ hr=>by nofun) OZ
theorem PH:Fk w mg base "minus" Ax ["one","other"] 42 qY 41 3 zW:=by
 let c1:=uY base e;let B:=Bt e;show fk (by ac_rfl) PL (λv nd _ _ _ _ _ _ hr=>by nofun) LN
theorem Qq:Fk w mg base "times" Ai ["one","other"] 49 qY 48 3 zL:=by
 let c1:=uY base e;let B:=Bt e;show fk (by ac_rfl) O4 (λv nd _ _ _ _ _ _ hr=>by nofun) Mw
theorem Sm:Fk w mg base "over" DW ["one","other"] 56 qY 55 3 Es:=by
 let c1:=uY base e;let B:=Bt e;show fk (by ac_rfl) SJ (λv nd _ _ _ _ _ _ hr=>by nofun) Pg
theorem Ge:Fk w mg base "whole" Aq ["n"] 63 qY 62 1 nU:=by
 let B:=Bt e;show fk (by ac_rfl) Oo (λv nd _ _ _ _ _ _ hr=>by nofun) Ml
theorem Ln:Fk w mg base "as_rows" uO ["rows"] 68 o_ 67 1 qL:=by
 let B:=Bt e;show fk (by ac_rfl) KU (λv nd _ _ _ _ _ _ hr=>by nofun) Hg
theorem vS:Fk w mg base "added" zx ["row","times","other"] 73 o_ 72 1 mN:=by
 let B:=Bt e;show fk (by ac_rfl) Qb (λv nd _ _ _ _ _ _ hr=>by nofun) L_
theorem L8:Fk w mg base "sum_by" xj ["weights","rows","wide"] 80 o_ 79 2 xv:=by
 let c1:=vS base e;let B:=Bt e;show fk (by ac_rfl) Ma (λv nd _ _ _ _ _ _ hr=>by nofun) Ld
theorem Nl:Fk w mg base "column" xD ["rows","place"] 85 o_ 84 1 xB:=by
 let B:=Bt e;show fk (by ac_rfl) Nj (λv nd _ _ _ _ _ _ hr=>by nofun) Lo
theorem t7:Fk w mg base "turned_over" o6 ["rows","wide"] 90 o_ 89 2 md:=by
 let c1:=Nl base e;let B:=Bt e;show fk (by ac_rfl) BE (λv nd _ _ _ _ _ _ hr=>by nofun) Af
theorem Hr:Fk w mg base "unit_row" tE ["n","place"] 95 o_ 94 1 sW:=by
 let B:=Bt e;show fk (by ac_rfl) Hn (λv nd _ _ _ _ _ _ hr=>by nofun) EL
theorem E6:Fk w mg base "unit_rows" rL ["n"] 100 o_ 99 2 og:=by
 let c1:=Hr base e;let B:=Bt e;show fk (by ac_rfl) Fg (λv nd _ _ _ _ _ _ hr=>by nofun) D3
theorem GS:Fk w mg base "dot" HB ["one","other"] 105 o_ 104 1 vZ:=by
 let B:=Bt e;show fk (by ac_rfl) TY (λv nd _ _ _ _ _ _ hr=>by nofun) Lb
theorem mP:Fk w mg base "lead_of" vw ["row"] 112 fT 111 1 ir:=by
 let B:=Bt e;show fk (by ac_rfl) K0 (λv nd _ _ _ _ _ _ hr=>by nofun) GX
theorem uV:Fk w mg base "nearest_quotient" j6 ["top","bottom"] 119 fT 118 1 kh:=by
 show fk (by ac_rfl) fj (λv nd cdv A outer s H E hr=>(aS (cA (dF (nP hr rfl fj.sc.gen fj.sc.co) (dF mf (dF pD bQ (fj.v.nm 0)) (fj.v.nm 1)) (dF pD bQ (fj.v.nm 1)))))) uc
theorem E3:Fk w mg base "exchanged" rQ ["rows","k","other"] 126 fT 125 1 lJ:=by
 let B:=Bt e;show fk (by ac_rfl) EX (λv nd _ _ _ _ _ _ hr=>by nofun) EB
theorem IZ:Fk w mg base "negated" uA ["row"] 131 fT 130 1 oP:=by
 let B:=Bt e;show fk (by ac_rfl) Jx (λv nd _ _ _ _ _ _ hr=>by nofun) HQ
theorem jc:MethAt (KX w.params) aH "__init__" "Bench.__init__" d8 ["self","rows"] 143 (Hd.fd d8 "__init__" "Bench.__init__" fT 142):=Hd.FL (by kernel_rfl) λ_ _ _ _ _ _ _ _=>rfl
theorem xl:cH PW w (KX w.params) mg base eC 3 143 (Hd.fd d8 "__init__" "Bench.__init__" fT 142) ["self","rows"] (fe mw):=by
 let c1:=E6 base e;let B:=Bt e;let Q:=Qt e
 show fu (N:=mr) (jc e).fn cn.sc (λcdv A outer s H E hr=>(ax (dQ Q.bG.cl Q.cF (cn.v.nm 0) (z9 (Nc:=["row"]) (c_.look (bH d8) ["self","rows"] (by decide+kernel)) (oj (cn.v.nm 1)) (λ_ _ _ _=>(ky (show(["row"]:List Str).Nodup by decide+kernel))) (λ_ _ _ _=>g9) (λ_ _ _ _=>(iW su (af fz av) B.lQ rfl jG (by decide+kernel) rfl)) ji))
  (ax (dQ Q.bG.cl Q.fA (cn.v.nm 0) (z9 (Nc:=["row"]) (c_.look (bH d8) ["self","rows"] (by decide+kernel)) (oj (b_ c1.1 c1.2 (hr.mono (by decide)) (af (dJ fM (af (cn.v.nm 1) av) B.fO rfl e9 (cn.v.d 0) (cn.v.g 0)) av) (cn.v.d 1) (cn.v.g 1))) (λ_ _ _ _=>(ky (show(["row"]:List Str).Nodup by decide+kernel))) (λ_ _ _ _=>g9) (λ_ _ _ _=>(iW su (af fz av) B.lQ rfl jG (by decide+kernel) rfl)) ji))
  (aS (dQ Q.bG.cl Q.cO (cn.v.nm 0) (z9 (Nc:=["row"]) (c_.look (bH d8) ["self","rows"] (by decide+kernel)) (oj (b_ c1.1 c1.2 (hr.mono (by decide)) (af (dJ fM (af (cn.v.nm 1) av) B.fO rfl e9 (cn.v.d 0) (cn.v.g 0)) av) (cn.v.d 1) (cn.v.g 1))) (λ_ _ _ _=>(ky (show(["row"]:List Str).Nodup by decide+kernel))) (λ_ _ _ _=>g9) (λ_ _ _ _=>(iW su (af fz av) B.lQ rfl jG (by decide+kernel) rfl)) ji)))))) we
theorem kv:MethAt (KX w.params) aH "take" "Bench.take" kE ["self","k","times","other"] 150 (Hd.fd kE "take" "Bench.take" fT 149):=Hd.VG (by kernel_rfl) λ_ _ _ _ _ _ _ _ _ _=>rfl
theorem um:cH PW w (KX w.params) mg base eC 2 150 (Hd.fd kE "take" "Bench.take" fT 149) ["self","k","times","other"] (fe mY):=by
 let c1:=vS base e;let Q:=Qt e
 show fu (N:=qx) (kv e).fn bo.sc (λcdv A outer s H E hr=>(ax (fI (b_ c1.1 c1.2 (hr.mono (by decide)) (af (cf (aZ Q.bG.cl Q.cF (bo.v.nm 0)) (bo.v.nm 1)) (af (ny (bo.v.nm 2)) (af (cf (aZ Q.bG.cl Q.cF (bo.v.nm 0)) (bo.v.nm 3)) av))) (bo.v.d 0) (bo.v.g 0)) (aZ Q.bG.cl Q.cF (bo.v.nm 0)) (bo.v.nm 1))
  (ax (fI (b_ c1.1 c1.2 (hr.mono (by decide)) (af (cf (aZ Q.bG.cl Q.fA (bo.v.nm 0)) (bo.v.nm 1)) (af (ny (bo.v.nm 2)) (af (cf (aZ Q.bG.cl Q.fA (bo.v.nm 0)) (bo.v.nm 3)) av))) (bo.v.d 0) (bo.v.g 0)) (aZ Q.bG.cl Q.fA (bo.v.nm 0)) (bo.v.nm 1))
  (aS (fI (b_ c1.1 c1.2 (hr.mono (by decide)) (af (cf (aZ Q.bG.cl Q.cO (bo.v.nm 0)) (bo.v.nm 3)) (af (bo.v.nm 2) (af (cf (aZ Q.bG.cl Q.cO (bo.v.nm 0)) (bo.v.nm 1)) av))) (bo.v.d 0) (bo.v.g 0)) (aZ Q.bG.cl Q.cO (bo.v.nm 0)) (bo.v.nm 3)))))) BF
theorem mn:MethAt (KX w.params) aH "exchange" "Bench.exchange" gQ ["self","k","other"] 157 (Hd.fd gQ "exchange" "Bench.exchange" fT 156):=Hd.u9 (by kernel_rfl) λ_ _ _ _ _ _ _ _ _=>rfl
theorem xH:cH PW w (KX w.params) mg base eC 2 157 (Hd.fd gQ "exchange" "Bench.exchange" fT 156) ["self","k","other"] (fe mD):=by
 let c1:=E3 base e;let Q:=Qt e
 show fu (N:=mI) (mn e).fn bJ.sc (λcdv A outer s H E hr=>(ax (dQ Q.bG.cl Q.cF (bJ.v.nm 0) (b_ c1.1 c1.2 (hr.mono (by decide)) (af (aZ Q.bG.cl Q.cF (bJ.v.nm 0)) (af (bJ.v.nm 1) (af (bJ.v.nm 2) av))) (bJ.v.d 0) (bJ.v.g 0)))
  (ax (dQ Q.bG.cl Q.fA (bJ.v.nm 0) (b_ c1.1 c1.2 (hr.mono (by decide)) (af (aZ Q.bG.cl Q.fA (bJ.v.nm 0)) (af (bJ.v.nm 1) (af (bJ.v.nm 2) av))) (bJ.v.d 0) (bJ.v.g 0)))
  (aS (dQ Q.bG.cl Q.cO (bJ.v.nm 0) (b_ c1.1 c1.2 (hr.mono (by decide)) (af (aZ Q.bG.cl Q.cO (bJ.v.nm 0)) (af (bJ.v.nm 1) (af (bJ.v.nm 2) av))) (bJ.v.d 0) (bJ.v.g 0))))))) wa
theorem jS:MethAt (KX w.params) aH "change_sign" "Bench.change_sign" fH ["self","k"] 164 (Hd.fd fH "change_sign" "Bench.change_sign" fT 163):=Hd.FL (by kernel_rfl) λ_ _ _ _ _ _ _ _=>rfl
theorem ud:cH PW w (KX w.params) mg base eC 2 164 (Hd.fd fH "change_sign" "Bench.change_sign" fT 163) ["self","k"] (fe jQ):=by
 let c1:=IZ base e;let Q:=Qt e
 show fu (N:=jV) (jS e).fn aW.sc (λcdv A outer s H E hr=>(ax (fI (b_ c1.1 c1.2 (hr.mono (by decide)) (af (cf (aZ Q.bG.cl Q.cF (aW.v.nm 0)) (aW.v.nm 1)) av) (aW.v.d 0) (aW.v.g 0)) (aZ Q.bG.cl Q.cF (aW.v.nm 0)) (aW.v.nm 1))
  (ax (fI (b_ c1.1 c1.2 (hr.mono (by decide)) (af (cf (aZ Q.bG.cl Q.fA (aW.v.nm 0)) (aW.v.nm 1)) av) (aW.v.d 0) (aW.v.g 0)) (aZ Q.bG.cl Q.fA (aW.v.nm 0)) (aW.v.nm 1))
  (aS (fI (b_ c1.1 c1.2 (hr.mono (by decide)) (af (cf (aZ Q.bG.cl Q.cO (aW.v.nm 0)) (aW.v.nm 1)) av) (aW.v.d 0) (aW.v.g 0)) (aZ Q.bG.cl Q.cO (aW.v.nm 0)) (aW.v.nm 1)))))) tx
theorem iL:MethAt (KX w.params) aH "live_rows" "Bench.live_rows" eN ["self","top","place"] 169 (Hd.fd eN "live_rows" "Bench.live_rows" fT 168):=Hd.u9 (by kernel_rfl) λ_ _ _ _ _ _ _ _ _=>rfl
theorem ph:cH PW w (KX w.params) mg base eC 3 169 (Hd.fd eN "live_rows" "Bench.live_rows" fT 168) ["self","top","place"] (fe iO):=by
 let B:=Bt e;let Q:=Qt e;let hC:PySem.W.codeHdIn (KX w.params) 168 166=true:=by kernel_rfl
 show SH (N:=lB) (Hd.fc (by kernel_rfl)) cX.sc (λA outer s H E hr=>(ax (Qr cX.sc.nd (cX.v.l 3) (Nc:=["k","self","place"]) (c_.look (bH eN) ["self","top","place","live"] (by decide+kernel)) (sO (cX.v.g 1) B.i8 (af (cX.v.nm 1) (af (dJ fM (af (aZ Q.bG.cl Q.cF (cX.v.nm 0)) av) B.fO rfl e9 (cX.v.d 0) (cX.v.g 0)) av))) (λ_ _ _ _=>(ky (show(["k","self","place"]:List Str).Nodup by decide+kernel))) (λ_ _ _ _=>(R7 (eH HJ (cW _) (cf (cf (aZ Q.bG.cl Q.cF fz) fz) fz) bQ))) (λ_ _ _ _=>fz) ji)
  (aS (cA (Qm (c0:=168) (pE.look (Nc:=["k","self","place"]) (fr:=[none,some 0,some 2]) (p:="k") (c_.look (bH eN) ["self","top","place","live"] (by decide+kernel))) rfl hr rfl hC (λ_ _ _ _=>(dJ Hm (af (cf (cf (aZ Q.bG.cl Q.cF fz) fz) fz) av) B.HI rfl C_ (by decide+kernel) rfl)) (cX.v.nm 3) (cX.v.g 2) B.M1))))) vk
theorem nN:MethAt (KX w.params) aH "gather" "Bench.gather" i4 ["self","top","place"] 176 (Hd.fd i4 "gather" "Bench.gather" fT 175):=Hd.u9 (by kernel_rfl) λ_ _ _ _ _ _ _ _ _=>rfl
theorem Ae:cH PW w (KX w.params) mg base eC 4 176 (Hd.fd i4 "gather" "Bench.gather" fT 175) ["self","top","place"] (fe nR):=by
 let c1:=uV base e;let B:=Bt e;let Q:=Qt e
 show fu (N:=nO) (nN e).fn aA.sc (λcdv A outer s H E hr=>(ax (bI aA.sc.nd (aA.v.l 3) (dM (aA.v.nm 0) Q.bG.cl (iL e).me (ph base e) (hr.mono (by decide)) (iL e).bd (af (aA.v.nm 1) (af (aA.v.nm 2) av))))
  (ax (qu (eH tm (cW _) (dJ fM (af (aA.v.nm 3) av) B.fO rfl e9 (aA.v.d 0) (aA.v.g 0)) bQ) (ax (bI aA.sc.nd (aA.v.l 4) (cf (aA.v.nm 3) (ny bQ)))
  (ax (bI aA.sc.nd (aA.v.l 5) (cf (aA.v.nm 3) (ny bQ)))
  (ax (g7 (dM (aA.v.nm 0) Q.bG.cl (kv e).me (um base e) (hr.mono (by decide)) (kv e).bd (af (aA.v.nm 4) (af (b_ c1.1 c1.2 (hr.mono (by decide)) (af (cf (cf (aZ Q.bG.cl Q.cF (aA.v.nm 0)) (aA.v.nm 4)) (aA.v.nm 2)) (af (cf (cf (aZ Q.bG.cl Q.cF (aA.v.nm 0)) (aA.v.nm 5)) (aA.v.nm 2)) av)) (aA.v.d 1) (aA.v.g 1)) (af (aA.v.nm 5) av)))))
  (aS (bI aA.sc.nd (aA.v.l 3) (dM (aA.v.nm 0) Q.bG.cl (iL e).me (ph base e) (hr.mono (by decide)) (iL e).bd (af (aA.v.nm 1) (af (aA.v.nm 2) av)))))))))
  (ax (fY (eH (tF hr) (cW _) (dJ fM (af (aA.v.nm 3) av) B.fO rfl e9 (aA.v.d 0) (aA.v.g 0)) bQ) (aS (cA Ep)) fm)
  (ax (g7 (dM (aA.v.nm 0) Q.bG.cl (mn e).me (xH base e) (hr.mono (by decide)) (mn e).bd (af (aA.v.nm 1) (af (cf (aA.v.nm 3) bQ) av))))
  (ax (fY (eH tJ (cW _) (cf (cf (aZ Q.bG.cl Q.cF (aA.v.nm 0)) (aA.v.nm 1)) (aA.v.nm 2)) bQ) (aS (g7 (dM (aA.v.nm 0) Q.bG.cl (jS e).me (ud base e) (hr.mono (by decide)) (jS e).bd (af (aA.v.nm 1) av)))) fm)
  (aS (cA Ep)))))))) yE
theorem jT:MethAt (KX w.params) aH "lower_above" "Bench.lower_above" fF ["self","top","place"] 183 (Hd.fd fF "lower_above" "Bench.lower_above" fT 182):=Hd.u9 (by kernel_rfl) λ_ _ _ _ _ _ _ _ _=>rfl
theorem ue:cH PW w (KX w.params) mg base eC 3 183 (Hd.fd fF "lower_above" "Bench.lower_above" fT 182) ["self","top","place"] (fe jU):=by
 let B:=Bt e;let Q:=Qt e;show fu (N:=jO) (jT e).fn bT.sc (λcdv A outer s H E hr=>(aS (oN (nX (bT.v.g 0) B.i8 (af (bT.v.nm 1) av)) (ky bT.sc.nd) (aS (g7 (dM (bT.v.nm 0) Q.bG.cl (kv e).me (um base e) (hr.mono (by decide)) (kv e).bd (af (bT.v.nm 3) (af (dF (nP hr rfl bT.sc.gen bT.sc.co) (cf (cf (aZ Q.bG.cl Q.cF (bT.v.nm 0)) (bT.v.nm 3)) (bT.v.nm 2)) (cf (cf (aZ Q.bG.cl Q.cF (bT.v.nm 0)) (bT.v.nm 1)) (bT.v.nm 2))) (af (bT.v.nm 1) av))))))))) tK
theorem yt:Fk w mg base "standing" sT ["rows"] 197 fT 196 5 pA:=by
 let c1:=t7 base e;let c2:=Ln base e;let B:=Bt e;let Q:=Qt e
 show fk (by ac_rfl) aX (λv nd cdv A outer s H E hr=>(ax (bI aX.sc.nd (aX.v.l 1) (uo ⟨Q.bG.FJ,(jc e).me.at_,(jc e).me.fn,Q.bG.kp⟩ (xl base e) (hr.mono (by decide)) (aX.v.g 0) Q.bG.mg (jc e).bd (af (aX.v.nm 0) av) (aX.v.d 0)))
  (ax (bI aX.sc.nd (aX.v.l 2) bQ)
  (ax (oN (nX (aX.v.g 2) B.i8 (af (dJ fM (af (cf (aX.v.nm 0) bQ) av) B.fO rfl e9 (aX.v.d 1) (aX.v.g 1)) av)) (ky aX.sc.nd) (aS (fY (ot (dM (aX.v.nm 1) Q.bG.cl (nN e).me (Ae base e) (hr.mono (by decide)) (nN e).bd (af (aX.v.nm 2) (af (aX.v.nm 3) av)))) (ax (g7 (dM (aX.v.nm 1) Q.bG.cl (jT e).me (ue base e) (hr.mono (by decide)) (jT e).bd (af (aX.v.nm 2) (af (aX.v.nm 3) av))))
  (aS (Ru aX.sc.nd (aX.v.l 2) bQ Lm))) fm)))
  (ax (bI aX.sc.nd (aX.v.l 4) (b_ c1.1 c1.2 (hr.mono (by decide)) (af (aZ Q.bG.cl Q.cO (aX.v.nm 1)) (af (dJ fM (af (aX.v.nm 0) av) B.fO rfl e9 (aX.v.d 1) (aX.v.g 1)) av)) (aX.v.d 3) (aX.v.g 3)))
  (aS (cA (fX (af (b_ c2.1 c2.2 (hr.mono (by decide)) (af (jK (aZ Q.bG.cl Q.cF (aX.v.nm 1)) kP (kM (aX.v.nm 2))) av) (aX.v.d 4) (aX.v.g 4)) (af (b_ c2.1 c2.2 (hr.mono (by decide)) (af (aZ Q.bG.cl Q.fA (aX.v.nm 1)) av) (aX.v.d 4) (aX.v.g 4)) (af (aX.v.nm 4) av))))))))))) Fm
theorem A4:Fk w mg base "weighed" vz ["form","row"] 204 fT 203 2 qO:=by
 let c1:=mP base e;let c2:=vS base e;let B:=Bt e
 show fk (by ac_rfl) bg (λv nd cdv A outer s H E hr=>(ax (bI bg.sc.nd (bg.v.l 2) (Cs av))
  (ax (bI bg.sc.nd (bg.v.l 3) (iW su (af (bg.v.nm 1) av) B.lQ rfl jG (bg.v.d 0) (bg.v.g 0)))
  (ax (oN (oj (bg.v.nm 0)) (ky bg.sc.nd) (ax (bI bg.sc.nd (bg.v.l 5) (b_ c1.1 c1.2 (hr.mono (by decide)) (af (bg.v.nm 4) av) (bg.v.d 1) (bg.v.g 1)))
  (ax (bI bg.sc.nd (bg.v.l 6) (dF (nP hr rfl bg.sc.gen bg.sc.co) (cf (bg.v.nm 3) (bg.v.nm 5)) (cf (bg.v.nm 4) (bg.v.nm 5))))
  (ax (g7 (qI (bg.v.nm 2) (bg.v.nm 6)))
  (aS (bI bg.sc.nd (bg.v.l 3) (b_ c2.1 c2.2 (hr.mono (by decide)) (af (bg.v.nm 3) (af (ny (bg.v.nm 6)) (af (bg.v.nm 4) av))) (bg.v.d 2) (bg.v.g 2))))))))
  (aS (cA (fX (af (iW jI (af (bg.v.nm 2) av) B.hO rfl gj (bg.v.d 3) (bg.v.g 3)) (af (iW jI (af (bg.v.nm 3) av) B.hO rfl gj (bg.v.d 3) (bg.v.g 3)) av))))))))) GL
theorem PU:Fk w mg base "falls" zB ["form","row"] 211 fT 210 3 Ak:=by
 let c1:=A4 base e;let B:=Bt e;show fk (by ac_rfl) Qd (λv nd _ _ _ _ _ _ hr=>by nofun) Mo
theorem EK:Fk w mg base "parts_dot" rl ["parts","row"] 218 Gj 217 4 rf:=by
 let c1:=Ge base e;let c2:=Qq base e;let c3:=SW base e;let B:=Bt e;show fk (by ac_rfl) Ff (λv nd _ _ _ _ _ _ hr=>by nofun) D7
theorem Fc:Fk w mg base "bottom_at" rD ["form","rest","place"] 225 Gj 224 2 rq:=by
 let c1:=mP base e;let B:=Bt e;show fk (by ac_rfl) EY (λv nd _ _ _ _ _ _ hr=>by nofun) Et
theorem yL:Fk w mg base "parts_against" nj ["form","rest"] 232 Gj 231 5 nu:=by
 let c1:=mP base e;let c2:=Ge base e;let c3:=Fc base e;let c4:=uY base e;let c5:=EK base e;let c6:=PH base e;let c7:=Sm base e;let B:=Bt e
 show fk (by ac_rfl) ak (λv nd cdv A outer s H E hr=>(ax (bI ak.sc.nd (ak.v.l 2) (b_ c1.1 c1.2 (hr.mono (by decide)) (af (ak.v.nm 1) av) (ak.v.d 0) (ak.v.g 0)))
  (ax (bI ak.sc.nd (ak.v.l 3) (dF Sg (BX (af (b_ c2.1 c2.2 (hr.mono (by decide)) (af bQ av) (ak.v.d 1) (ak.v.g 1)) av)) (dJ fM (af (ak.v.nm 1) av) B.fO rfl e9 (ak.v.d 2) (ak.v.g 2))))
  (ax (fI (b_ c4.1 c4.2 (hr.mono (by decide)) (af bQ (af (b_ c3.1 c3.2 (hr.mono (by decide)) (af (ak.v.nm 0) (af (ak.v.nm 1) (af (ak.v.nm 2) av))) (ak.v.d 3) (ak.v.g 3)) av)) (ak.v.d 4) (ak.v.g 4)) (ak.v.nm 3) (ak.v.nm 2))
  (ax (oN (LJ (ak.v.g 5) B.i8 (af (dF nr (dJ fM (af (ak.v.nm 0) av) B.fO rfl e9 (ak.v.d 2) (ak.v.g 2)) bQ) (af (ny bQ) (af (ny bQ) av)))) (ky ak.sc.nd) (ax (bI ak.sc.nd (ak.v.l 5) (b_ c1.1 c1.2 (hr.mono (by decide)) (af (cf (ak.v.nm 0) (ak.v.nm 4)) av) (ak.v.d 0) (ak.v.g 0)))
  (aS (fY (eH tJ (cW _) (ak.v.nm 5) (ak.v.nm 2)) (ax (bI ak.sc.nd (ak.v.l 6) (b_ c6.1 c6.2 (hr.mono (by decide)) (af (b_ c2.1 c2.2 (hr.mono (by decide)) (af bQ av) (ak.v.d 1) (ak.v.g 1)) (af (b_ c5.1 c5.2 (hr.mono (by decide)) (af (ak.v.nm 3) (af (cf (ak.v.nm 0) (ak.v.nm 4)) av)) (ak.v.d 6) (ak.v.g 6)) av)) (ak.v.d 7) (ak.v.g 7)))
  (aS (fI (b_ c7.1 c7.2 (hr.mono (by decide)) (af (ak.v.nm 6) (af (b_ c2.1 c2.2 (hr.mono (by decide)) (af (cf (cf (ak.v.nm 0) (ak.v.nm 4)) (ak.v.nm 5)) av) (ak.v.d 1) (ak.v.g 1)) av)) (ak.v.d 8) (ak.v.g 8)) (ak.v.nm 3) (ak.v.nm 5)))) fm))))
  (aS (cA (iW jI (af (ak.v.nm 3) av) B.hO rfl gj (ak.v.d 9) (ak.v.g 9))))))))) xV
theorem zE:Fk w mg base "steps_behind" nY ["turn","many"] 239 Nq 238 6 nQ:=by
 let c1:=yt base e;let B:=Bt e;show fk (by ac_rfl) zw (λv nd _ _ _ _ _ _ hr=>by nofun) yH
theorem Ki:Fk w mg base "answers" uW ["rows","due"] 246 Nq 245 7 u7:=by
 let c1:=t7 base e;let c2:=yt base e;let c3:=A4 base e;let c4:=mP base e;let c5:=yL base e;let c6:=zE base e;let c7:=L8 base e;let c8:=PU base e;let B:=Bt e;show fk (by ac_rfl) Lw (λv nd _ _ _ _ _ _ hr=>by nofun) IA
theorem EO:Fk w mg base "least_sum" oi ["numbers","low","high"] 251 iE 250 1 oo:=by
 let B:=Bt e;show fk (by ac_rfl) iC (λv nd cdv A outer s H E hr=>(aS (cA (dJ (B8 rfl) (af (oF (Nc:=["number","least","most"]) (c_.look (bH oi) ["numbers","low","high"] (by decide+kernel)) (Jc (iC.v.g 0) B.vJ (af (iC.v.nm 0) (af (iC.v.nm 1) (af (iC.v.nm 2) av)))) (λ_ _ _ _=>(NO rfl (show(["number","least","most"]:List Str).Nodup by decide+kernel))) (λ_ _ _ _=>g9) (λ_ _ _ _=>(dJ (Iy rfl) (af (dF pD fz fz) (af (dF pD fz fz) av)) B.HM rfl EA (by decide+kernel) rfl)) A7) av) B.Cn rfl yJ (iC.v.d 1) (iC.v.g 1))))) DF
theorem GH:Fk w mg base "most_sum" pw ["numbers","low","high"] 256 iE 255 1 sN:=by
 let B:=Bt e;show fk (by ac_rfl) jo (λv nd cdv A outer s H E hr=>(aS (cA (dJ (B8 rfl) (af (oF (Nc:=["number","least","most"]) (c_.look (bH pw) ["numbers","low","high"] (by decide+kernel)) (Jc (jo.v.g 0) B.vJ (af (jo.v.nm 0) (af (jo.v.nm 1) (af (jo.v.nm 2) av)))) (λ_ _ _ _=>(NO rfl (show(["number","least","most"]:List Str).Nodup by decide+kernel))) (λ_ _ _ _=>g9) (λ_ _ _ _=>(dJ (Hj rfl) (af (dF pD fz fz) (af (dF pD fz fz) av)) B.Ib rfl C9 (by decide+kernel) rfl)) A7) av) B.Cn rfl yJ (jo.v.d 1) (jo.v.g 1))))) EM
theorem fh:MethAt (KX w.params) dj "__init__" "Layer.__init__" ff ["self","task","place"] 268 (Hd.fd ff "__init__" "Layer.__init__" iE 267):=Hd.u9 (by kernel_rfl) λ_ _ _ _ _ _ _ _ _=>rfl
theorem pS:cH PW w (KX w.params) mg base eC 2 268 (Hd.fd ff "__init__" "Layer.__init__" iE 267) ["self","task","place"] (fe jq):=by
 let c1:=GH base e;let c2:=EO base e;let B:=Bt e;let Q:=Qt e
 show fu (N:=mq) (fh e).fn aP.sc (λcdv A outer s H E hr=>(ax (bI aP.sc.nd (aP.v.l 3) (jK (aZ Q.cu.cl Q.pk (aP.v.nm 1)) (kM (aP.v.nm 2)) kP))
  (ax (bI aP.sc.nd (aP.v.l 4) (jK (aZ Q.cu.cl Q.oa (aP.v.nm 1)) (kM (aP.v.nm 2)) kP))
  (ax (dQ Q.f_.cl Q.t9 (aP.v.nm 0) (aP.v.nm 2))
  (ax (dQ Q.f_.cl Q.uK (aP.v.nm 0) (oF (Nc:=["row","number","place","low","high"]) (c_.look (bH ff) ["self","task","place","low","high"] (by decide+kernel)) (Cj (aP.v.g 0) B.vJ (af (aZ Q.cu.cl Q.lO (aP.v.nm 1)) (af (aZ Q.cu.cl Q.sU (aP.v.nm 1)) av))) (λ_ _ _ _=>(yN rfl (show(["row","number","place","low","high"]:List Str).Nodup by decide+kernel))) (λ_ _ _ _=>g9) (λ_ _ _ _=>(dF nr fz (b_ c1.1 c1.2 (hr.mono (by decide)) (af (jK fz (kM fz) kP) (af fz (af fz av))) (by decide+kernel) rfl))) Am))
  (ax (dQ Q.f_.cl Q.tY (aP.v.nm 0) (oF (Nc:=["row","number","place","low","high"]) (c_.look (bH ff) ["self","task","place","low","high"] (by decide+kernel)) (Cj (aP.v.g 0) B.vJ (af (aZ Q.cu.cl Q.lO (aP.v.nm 1)) (af (aZ Q.cu.cl Q.sU (aP.v.nm 1)) av))) (λ_ _ _ _=>(yN rfl (show(["row","number","place","low","high"]:List Str).Nodup by decide+kernel))) (λ_ _ _ _=>g9) (λ_ _ _ _=>(dF nr fz (b_ c2.1 c2.2 (hr.mono (by decide)) (af (jK fz (kM fz) kP) (af fz (af fz av))) (by decide+kernel) rfl))) Am))
  (aS (dQ Q.f_.cl Q.pe (aP.v.nm 0) (b_ c2.1 c2.2 (hr.mono (by decide)) (af (jK (aZ Q.cu.cl Q.nt (aP.v.nm 1)) (kM (aP.v.nm 2)) kP) (af (aP.v.nm 3) (af (aP.v.nm 4) av))) (aP.v.d 1) (aP.v.g 1)))))))))) wm
theorem j0:MethAt (KX w.params) aR "__init__" "Task.__init__" fZ ["self","costs","rows","due","low","high","steps"] 287 (Hd.fd fZ "__init__" "Task.__init__" iE 286):=Hd.WV (by kernel_rfl) λ_ _ _ _ _ _ _ _ _ _ _ _ _=>rfl
theorem yo:cH PW w (KX w.params) mg base eC 4 287 (Hd.fd fZ "__init__" "Task.__init__" iE 286) ["self","costs","rows","due","low","high","steps"] (fe mW):=by
 let c1:=mP base e;let B:=Bt e;let Q:=Qt e
 show fu (N:=m4) (j0 e).fn bE.sc (λcdv A outer s H E hr=>(ax (dQ Q.cu.cl Q.nt (bE.v.nm 0) (bE.v.nm 1))
  (ax (dQ Q.cu.cl Q.lO (bE.v.nm 0) (bE.v.nm 2))
  (ax (dQ Q.cu.cl Q.sU (bE.v.nm 0) (bE.v.nm 3))
  (ax (dQ Q.cu.cl Q.pk (bE.v.nm 0) (bE.v.nm 4))
  (ax (dQ Q.cu.cl Q.oa (bE.v.nm 0) (bE.v.nm 5))
  (ax (dQ Q.cu.cl Q.qr (bE.v.nm 0) (bE.v.nm 6))
  (aS (dQ Q.cu.cl Q.l9 (bE.v.nm 0) (dF mf (oF (Nc:=["step","self"]) (c_.look (bH fZ) ["self","costs","rows","due","low","high","steps"] (by decide+kernel)) (oj (bE.v.nm 6)) (λ_ _ _ _=>(ky (show(["step","self"]:List Str).Nodup by decide+kernel))) (λ_ _ _ _=>g9) (λ_ _ _ _=>(uo ⟨Q.f_.FJ,(fh e).me.at_,(fh e).me.fn,Q.f_.kp⟩ (pS base e) (hr.mono (by decide)) rfl Q.f_.mg (fh e).bd (af fz (af (b_ c1.1 c1.2 (hr.mono (by decide)) (af fz av) (by decide+kernel) rfl) av)) (by decide+kernel))) ji) (BX (af (uo ⟨Q.f_.FJ,(fh e).me.at_,(fh e).me.fn,Q.f_.kp⟩ (pS base e) (hr.mono (by decide)) (bE.v.g 1) Q.f_.mg (fh e).bd (af (bE.v.nm 0) (af (dJ fM (af (bE.v.nm 1) av) B.fO rfl e9 (bE.v.d 0) (bE.v.g 0)) av)) (bE.v.d 1)) av)))))))))))) xN
theorem jD:MethAt (KX w.params) aR "is_end" "Task.is_end" ju ["self","taken"] 294 (Hd.fd ju "is_end" "Task.is_end" iE 293):=Hd.FL (by kernel_rfl) λ_ _ _ _ _ _ _ _=>rfl
theorem t5:cH PW w (KX w.params) mg base eC 1 294 (Hd.fd ju "is_end" "Task.is_end" iE 293) ["self","taken"] (fe jB):=by
 let B:=Bt e;let Q:=Qt e;show fu (N:=o8) (jD e).fn jE.sc (λcdv A outer s H E hr=>(aS (cA (sP (tF hr) (cW _) (jE.v.nm 1) (dJ fM (af (aZ Q.cu.cl Q.qr (jE.v.nm 0)) av) B.fO rfl e9 (jE.v.d 0) (jE.v.g 0)))))) zF
theorem gO:MethAt (KX w.params) aR "fixed" "Task.fixed" j_ ["self","taken","row"] 301 (Hd.fd j_ "fixed" "Task.fixed" iE 300):=Hd.u9 (by kernel_rfl) λ_ _ _ _ _ _ _ _ _=>rfl
theorem qy:cH PW w (KX w.params) mg base eC 1 301 (Hd.fd j_ "fixed" "Task.fixed" iE 300) ["self","taken","row"] (fe j9):=by
 let B:=Bt e;let Q:=Qt e;show fu (N:=pY) (gO e).fn iQ.sc (λcdv A outer s H E hr=>(aS (cA (iW jI (af (jK (iQ.v.nm 2) kP (kM (aZ Q.f_.cl Q.t9 (cf (aZ Q.cu.cl Q.l9 (iQ.v.nm 0)) (iQ.v.nm 1))))) av) B.hO rfl gj (iQ.v.d 0) (iQ.v.g 0))))) BA
theorem kY:MethAt (KX w.params) aR "is_outside" "Task.is_outside" gu ["self","place","row"] 308 (Hd.fd gu "is_outside" "Task.is_outside" iE 307):=Hd.u9 (by kernel_rfl) λ_ _ _ _ _ _ _ _ _=>rfl
theorem wx:cH PW w (KX w.params) mg base eC 1 308 (Hd.fd gu "is_outside" "Task.is_outside" iE 307) ["self","place","row"] (fe k_):=by
 let Q:=Qt e;show fu (N:=kZ) (kY e).fn eO.sc (λcdv A outer s H E hr=>(aS (cA (Cq (Gs tI tI (cf (aZ Q.cu.cl Q.pk (eO.v.nm 0)) (eO.v.nm 1)) (cf (eO.v.nm 2) (eO.v.nm 1)) (cf (aZ Q.cu.cl Q.oa (eO.v.nm 0)) (eO.v.nm 1))))))) uH
theorem mH:MethAt (KX w.params) aR "is_broken" "Task.is_broken" gG ["self","k","taken","fixed"] 315 (Hd.fd gG "is_broken" "Task.is_broken" iE 314):=Hd.VG (by kernel_rfl) λ_ _ _ _ _ _ _ _ _ _=>rfl
theorem xp:cH PW w (KX w.params) mg base eC 2 315 (Hd.fd gG "is_broken" "Task.is_broken" iE 314) ["self","k","taken","fixed"] (fe mj):=by
 let c1:=GS base e;let Q:=Qt e
 show fu (N:=mE) (mH e).fn cy.sc (λcdv A outer s H E hr=>(ax (bI cy.sc.nd (cy.v.l 4) (cf (aZ Q.cu.cl Q.l9 (cy.v.nm 0)) (cy.v.nm 2)))
  (aS (cA (Cq (Gs tI tI (cf (aZ Q.f_.cl Q.uK (cy.v.nm 4)) (cy.v.nm 1)) (b_ c1.1 c1.2 (hr.mono (by decide)) (af (cf (aZ Q.cu.cl Q.lO (cy.v.nm 0)) (cy.v.nm 1)) (af (cy.v.nm 3) av)) (cy.v.d 0) (cy.v.g 0)) (cf (aZ Q.f_.cl Q.tY (cy.v.nm 4)) (cy.v.nm 1)))))))) wd
theorem gw:MethAt (KX w.params) aR "least_cost" "Task.least_cost" gy ["self","taken","fixed"] 322 (Hd.fd gy "least_cost" "Task.least_cost" iE 321):=Hd.u9 (by kernel_rfl) λ_ _ _ _ _ _ _ _ _=>rfl
theorem pj:cH PW w (KX w.params) mg base eC 2 322 (Hd.fd gy "least_cost" "Task.least_cost" iE 321) ["self","taken","fixed"] (fe iK):=by
 let c1:=GS base e;let Q:=Qt e;show fu (N:=lu) (gw e).fn eK.sc (λcdv A outer s H E hr=>(aS (cA (dF mf (b_ c1.1 c1.2 (hr.mono (by decide)) (af (aZ Q.cu.cl Q.nt (eK.v.nm 0)) (af (eK.v.nm 2) av)) (eK.v.d 0) (eK.v.g 0)) (aZ Q.f_.cl Q.pe (cf (aZ Q.cu.cl Q.l9 (eK.v.nm 0)) (eK.v.nm 1))))))) uX
theorem mJ:MethAt (KX w.params) aR "is_dearer" "Task.is_dearer" gJ ["self","taken","fixed","cost","plan"] 329 (Hd.fd gJ "is_dearer" "Task.is_dearer" iE 328):=Hd.WU (by kernel_rfl) λ_ _ _ _ _ _ _ _ _ _ _=>rfl
theorem xh:cH PW w (KX w.params) mg base eC 3 329 (Hd.fd gJ "is_dearer" "Task.is_dearer" iE 328) ["self","taken","fixed","cost","plan"] (fe my):=by
 let B:=Bt e;let Q:=Qt e
 show fu (N:=mx) (mJ e).fn bY.sc (λcdv A outer s H E hr=>(ax (bI bY.sc.nd (bY.v.l 5) (dM (bY.v.nm 0) Q.cu.cl (gw e).me (pj base e) (hr.mono (by decide)) (gw e).bd (af (bY.v.nm 1) (af (bY.v.nm 2) av))))
  (aS (cA (WD (sP tm (cW _) (bY.v.nm 5) (bY.v.nm 3)) (BP (G8 (sP (tF hr) (cW _) (bY.v.nm 5) (bY.v.nm 3)) (BP (sP (TR hr) (cW _) (bY.v.nm 2) (iW jI (af (jK (bY.v.nm 4) kP (kM (dJ fM (af (bY.v.nm 2) av) B.fO rfl e9 (bY.v.d 0) (bY.v.g 0)))) av) B.hO rfl gj (bY.v.d 1) (bY.v.g 1))))))))))) wu
theorem il:MethAt (KX w.params) bX "__init__" "Waiting.__init__" fS ["self"] 350 (Hd.fd fS "__init__" "Waiting.__init__" nE 349):=Hd.Q9 (by kernel_rfl) λ_ _ _ _ _ _ _=>rfl
theorem uD:cH PW w (KX w.params) mg base eC 1 350 (Hd.fd fS "__init__" "Waiting.__init__" nE 349) ["self"] (fe kb):=by
 let Q:=Qt e;show fu (N:=kc) (il e).fn ow.sc (λcdv A outer s H E hr=>(aS (dQ Q.dv.cl Q.eB (ow.v.nm 0) (Cs av)))) ug
theorem kn:MethAt (KX w.params) bX "is_empty" "Waiting.is_empty" fV ["self"] 357 (Hd.fd fV "is_empty" "Waiting.is_empty" nE 356):=Hd.Q9 (by kernel_rfl) λ_ _ _ _ _ _ _=>rfl
theorem uI:cH PW w (KX w.params) mg base eC 1 357 (Hd.fd fV "is_empty" "Waiting.is_empty" nE 356) ["self"] (fe ie):=by
 let B:=Bt e;let Q:=Qt e;show fu (N:=ku) (kn e).fn ig.sc (λcdv A outer s H E hr=>(aS (cA (sP (tF hr) (cW _) (dJ fM (af (aZ Q.dv.cl Q.eB (ig.v.nm 0)) av) B.fO rfl e9 (ig.v.d 0) (ig.v.g 0)) bQ)))) t_
theorem oW:MethAt (KX w.params) bX "put" "Waiting.put" jA ["self","thing"] 364 (Hd.fd jA "put" "Waiting.put" nE 363):=Hd.FL (by kernel_rfl) λ_ _ _ _ _ _ _ _=>rfl
theorem BM:cH PW w (KX w.params) mg base eC 1 364 (Hd.fd jA "put" "Waiting.put" nE 363) ["self","thing"] (fe oZ):=by
 let B:=Bt e;let Q:=Qt e
 show fu (N:=o4) (oW e).fn bD.sc (λcdv A outer s H E hr=>(ax (bI bD.sc.nd (bD.v.l 2) (aZ Q.dv.cl Q.eB (bD.v.nm 0)))
  (ax (bI bD.sc.nd (bD.v.l 3) (dJ fM (af (bD.v.nm 2) av) B.fO rfl e9 (bD.v.d 0) (bD.v.g 0)))
  (ax (g7 (qI (bD.v.nm 2) (bD.v.nm 1)))
  (ax (qu (Ca (za (eH tm (cW _) (bD.v.nm 3) bQ) (vV (eH (Ij hr) (cW _) (bD.v.nm 1) (cf (bD.v.nm 2) (dF ux (dF nr (bD.v.nm 3) bQ) bQ)))))) (ax (fI (cf (bD.v.nm 2) (dF ux (dF nr (bD.v.nm 3) bQ) bQ)) (bD.v.nm 2) (bD.v.nm 3))
  (aS (bI bD.sc.nd (bD.v.l 3) (dF ux (dF nr (bD.v.nm 3) bQ) bQ)))))
  (aS (fI (bD.v.nm 1) (bD.v.nm 2) (bD.v.nm 3)))))))) zp
theorem eY:MethAt (KX w.params) bX "lesser_below" "Waiting.lesser_below" e_ ["self","place"] 385 (Hd.fd e_ "lesser_below" "Waiting.lesser_below" nE 384):=Hd.FL (by kernel_rfl) λ_ _ _ _ _ _ _ _=>rfl
theorem lY:cH PW w (KX w.params) mg base eC 1 385 (Hd.fd e_ "lesser_below" "Waiting.lesser_below" nE 384) ["self","place"] (fe eZ):=by
 let B:=Bt e;let Q:=Qt e
 show fu (N:=iB) (eY e).fn aQ.sc (λcdv A outer s H E hr=>(ax (bI aQ.sc.nd (aQ.v.l 2) (dF mf (dF pD bQ (aQ.v.nm 1)) bQ))
  (ax (fY (eH zu (cW _) (aQ.v.nm 2) (dJ fM (af (aZ Q.dv.cl Q.eB (aQ.v.nm 0)) av) B.fO rfl e9 (aQ.v.d 0) (aQ.v.g 0))) (aS (cA ma)) fm)
  (ax (fY (Ca (za (eH tJ (cW _) (dF mf (aQ.v.nm 2) bQ) (dJ fM (af (aZ Q.dv.cl Q.eB (aQ.v.nm 0)) av) B.fO rfl e9 (aQ.v.d 0) (aQ.v.g 0))) (vV (eH (Ij hr) (cW _) (cf (aZ Q.dv.cl Q.eB (aQ.v.nm 0)) (dF mf (aQ.v.nm 2) bQ)) (cf (aZ Q.dv.cl Q.eB (aQ.v.nm 0)) (aQ.v.nm 2)))))) (aS (cA (dF mf (aQ.v.nm 2) bQ))) fm)
  (aS (cA (aQ.v.nm 2))))))) qC
theorem nG:MethAt (KX w.params) bX "sink" "Waiting.sink" iZ ["self","thing"] 378 (Hd.fd iZ "sink" "Waiting.sink" nE 377):=Hd.FL (by kernel_rfl) λ_ _ _ _ _ _ _ _=>rfl
theorem An:cH PW w (KX w.params) mg base eC 2 378 (Hd.fd iZ "sink" "Waiting.sink" nE 377) ["self","thing"] (fe nF):=by
 let Q:=Qt e
 show fu (N:=nS) (nG e).fn aT.sc (λcdv A outer s H E hr=>(ax (bI aT.sc.nd (aT.v.l 2) (aZ Q.dv.cl Q.eB (aT.v.nm 0)))
  (ax (bI aT.sc.nd (aT.v.l 3) bQ)
  (ax (bI aT.sc.nd (aT.v.l 4) (dM (aT.v.nm 0) Q.dv.cl (eY e).me (lY base e) (hr.mono (by decide)) (eY e).bd (af (aT.v.nm 3) av)))
  (ax (qu (Ca (za (eH sr (cW _) (aT.v.nm 4) ma) (vV (eH (Ij hr) (cW _) (cf (aT.v.nm 2) (aT.v.nm 4)) (aT.v.nm 1))))) (ax (fI (cf (aT.v.nm 2) (aT.v.nm 4)) (aT.v.nm 2) (aT.v.nm 3))
  (ax (bI aT.sc.nd (aT.v.l 3) (aT.v.nm 4))
  (aS (bI aT.sc.nd (aT.v.l 4) (dM (aT.v.nm 0) Q.dv.cl (eY e).me (lY base e) (hr.mono (by decide)) (eY e).bd (af (aT.v.nm 3) av)))))))
  (aS (fI (aT.v.nm 1) (aT.v.nm 2) (aT.v.nm 3)))))))) yV
theorem jj:MethAt (KX w.params) bX "take_least" "Waiting.take_least" fx ["self"] 371 (Hd.fd fx "take_least" "Waiting.take_least" nE 370):=Hd.Q9 (by kernel_rfl) λ_ _ _ _ _ _ _=>rfl
theorem tP:cH PW w (KX w.params) mg base eC 3 371 (Hd.fd fx "take_least" "Waiting.take_least" nE 370) ["self"] (fe gB):=by
 let B:=Bt e;let Q:=Qt e
 show fu (N:=jr) (jj e).fn bz.sc (λcdv A outer s H E hr=>(ax (bI bz.sc.nd (bz.v.l 1) (aZ Q.dv.cl Q.eB (bz.v.nm 0)))
  (ax (bI bz.sc.nd (bz.v.l 2) (cf (bz.v.nm 1) bQ))
  (ax (bI bz.sc.nd (bz.v.l 3) (RJ (bz.v.nm 1)))
  (ax (fY (eH tm (cW _) (dJ fM (af (bz.v.nm 1) av) B.fO rfl e9 (bz.v.d 0) (bz.v.g 0)) bQ) (aS (g7 (dM (bz.v.nm 0) Q.dv.cl (nG e).me (An base e) (hr.mono (by decide)) (nG e).bd (af (bz.v.nm 3) av)))) fm)
  (aS (cA (bz.v.nm 2)))))))) r9
theorem qm:Fk w mg base "first_and_rows" jb ["task","taken","row"] 397 mM 396 2 gL:=by
 let c1:=mP base e;let c2:=vS base e;let B:=Bt e;let Q:=Qt e
 show fk (by ac_rfl) aC (λv nd cdv A outer s H E hr=>(ax (bI aC.sc.nd (aC.v.l 3) (cf (aZ Q.cu.cl Q.qr (aC.v.nm 0)) (aC.v.nm 1)))
  (ax (bI aC.sc.nd (aC.v.l 4) (b_ c1.1 c1.2 (hr.mono (by decide)) (af (aC.v.nm 3) av) (aC.v.d 0) (aC.v.g 0)))
  (ax (bI aC.sc.nd (aC.v.l 5) (ny (dF (nP hr rfl aC.sc.gen aC.sc.co) (dF nr (cf (aC.v.nm 2) (aC.v.nm 4)) (cf (aZ Q.cu.cl Q.pk (aC.v.nm 0)) (aC.v.nm 4))) (cf (aC.v.nm 3) (aC.v.nm 4)))))
  (ax (bI aC.sc.nd (aC.v.l 6) (dF (nP hr rfl aC.sc.gen aC.sc.co) (dF nr (cf (aZ Q.cu.cl Q.oa (aC.v.nm 0)) (aC.v.nm 4)) (cf (aC.v.nm 2) (aC.v.nm 4))) (cf (aC.v.nm 3) (aC.v.nm 4))))
  (aS (cA (fX (af (aC.v.nm 5) (af (oF (Nc:=["z","row","step"]) (c_.look (bH jb) ["task","taken","row","step","lead","first","last"] (by decide+kernel)) (sO (aC.v.g 1) B.i8 (af (aC.v.nm 5) (af (dF mf (aC.v.nm 6) bQ) av))) (λ_ _ _ _=>(ky (show(["z","row","step"]:List Str).Nodup by decide+kernel))) (λ_ _ _ _=>g9) (λ_ _ _ _=>(iW jI (af (b_ c2.1 c2.2 (hr.mono (by decide)) (af fz (af fz (af fz av))) (by decide+kernel) rfl) av) B.hO rfl gj (by decide+kernel) rfl)) ji) av)))))))))) wb
theorem sG:Fk w mg base "node_against" nJ ["task","taken","row"] 404 mM 403 3 kU:=by
 let B:=Bt e;let Q:=Qt e
 show fk (by ac_rfl) a8 (λv nd cdv A outer s H E hr=>(ax (bI a8.sc.nd (a8.v.l 3) (dM (a8.v.nm 0) Q.cu.cl (gO e).me (qy base e) (hr.mono (by decide)) (gO e).bd (af (a8.v.nm 1) (af (a8.v.nm 2) av))))
  (ax (oN (nX (a8.v.g 1) B.i8 (af (dJ fM (af (a8.v.nm 3) av) B.fO rfl e9 (a8.v.d 0) (a8.v.g 0)) av)) (ky a8.sc.nd) (aS (fY (ot (dM (a8.v.nm 0) Q.cu.cl (kY e).me (wx base e) (hr.mono (by decide)) (kY e).bd (af (a8.v.nm 4) (af (a8.v.nm 2) av)))) (aS (cA (fX (af m5 (af (a8.v.nm 4) av))))) fm)))
  (ax (oN (nX (a8.v.g 1) B.i8 (af (dJ fM (af (aZ Q.cu.cl Q.lO (a8.v.nm 0)) av) B.fO rfl e9 (a8.v.d 0) (a8.v.g 0)) av)) (ky a8.sc.nd) (aS (fY (ot (dM (a8.v.nm 0) Q.cu.cl (mH e).me (xp base e) (hr.mono (by decide)) (mH e).bd (af (a8.v.nm 5) (af (a8.v.nm 1) (af (a8.v.nm 3) av))))) (aS (cA (fX (af m5 (af (a8.v.nm 5) av))))) fm)))
  (aS (cA ma)))))) zd
theorem Bz:Fk w mg base "put_if_open" o7 ["waiting","task","taken","row"] 411 mM 410 4 jF:=by
 let c1:=sG base e;let Q:=Qt e
 show fk (by ac_rfl) cp (λv nd cdv A outer s H E hr=>(aS (fY (eH zQ (cW _) (b_ c1.1 c1.2 (hr.mono (by decide)) (af (cp.v.nm 1) (af (cp.v.nm 2) (af (cp.v.nm 3) av))) (cp.v.d 0) (cp.v.g 0)) ma) (ax (bI cp.sc.nd (cp.v.l 4) (dM (cp.v.nm 1) Q.cu.cl (gO e).me (qy base e) (hr.mono (by decide)) (gO e).bd (af (cp.v.nm 2) (af (cp.v.nm 3) av))))
  (aS (g7 (dM (cp.v.nm 0) Q.dv.cl (oW e).me (BM base e) (hr.mono (by decide)) (oW e).bd (af (fX (af (dM (cp.v.nm 1) Q.cu.cl (gw e).me (pj base e) (hr.mono (by decide)) (gw e).bd (af (cp.v.nm 2) (af (cp.v.nm 4) av))) (af (cp.v.nm 4) (af (cp.v.nm 2) (af (cp.v.nm 3) av))))) av))))) fm))) Ay
theorem Fi:Fk w mg base "best_plan" rK ["task","answer"] 418 mM 417 5 rj:=by
 let c1:=Bz base e;let c2:=qm base e;let Q:=Qt e
 show fk (by ac_rfl) a9 (λv nd cdv A outer s H E hr=>(ax (bI a9.sc.nd (a9.v.l 2) (O7 ⟨Q.dv.FJ,(il e).me.at_,(il e).me.fn,Q.dv.kp⟩ (uD base e) (hr.mono (by decide)) (a9.v.g 0) Q.dv.mg (il e).bd (a9.v.d 0)))
  (ax (g7 (b_ c1.1 c1.2 (hr.mono (by decide)) (af (a9.v.nm 2) (af (a9.v.nm 0) (af bQ (af (a9.v.nm 1) av)))) (a9.v.d 1) (a9.v.g 1)))
  (ax (qu (KR (ot (Gf (a9.v.nm 2) Q.dv.cl (kn e).me (uI base e) (hr.mono (by decide)) (kn e).bd))) (ax (bI a9.sc.nd (a9.v.l 3) (Gf (a9.v.nm 2) Q.dv.cl (jj e).me (tP base e) (hr.mono (by decide)) (jj e).bd))
  (ax (bI a9.sc.nd (a9.v.l 4) (cf (a9.v.nm 3) bQ))
  (ax (fY (ot (dM (a9.v.nm 0) Q.cu.cl (jD e).me (t5 base e) (hr.mono (by decide)) (jD e).bd (af (a9.v.nm 4) av))) (aS (cA (cf (a9.v.nm 3) bQ))) fm)
  (aS (oN (oj (cf (b_ c2.1 c2.2 (hr.mono (by decide)) (af (a9.v.nm 0) (af (a9.v.nm 4) (af (cf (a9.v.nm 3) bQ) av))) (a9.v.d 2) (a9.v.g 2)) bQ)) (ky a9.sc.nd) (aS (g7 (b_ c1.1 c1.2 (hr.mono (by decide)) (af (a9.v.nm 2) (af (a9.v.nm 0) (af (dF mf (a9.v.nm 4) bQ) (af (a9.v.nm 5) av)))) (a9.v.d 1) (a9.v.g 1))))))))))
  (aS (cA ma)))))) Dt
theorem iI:MethAt (KX w.params) bK "__init__" "Grower.__init__" gv ["self","task","plan"] 432 (Hd.fd gv "__init__" "Grower.__init__" mM 431):=Hd.u9 (by kernel_rfl) λ_ _ _ _ _ _ _ _ _=>rfl
theorem v_:cH PW w (KX w.params) mg base eC 2 432 (Hd.fd gv "__init__" "Grower.__init__" mM 431) ["self","task","plan"] (fe iM):=by
 let c1:=GS base e;let Q:=Qt e
 show fu (N:=lg) (iI e).fn cM.sc (λcdv A outer s H E hr=>(ax (dQ Q.dy.cl Q.g4 (cM.v.nm 0) (cM.v.nm 1))
  (ax (dQ Q.dy.cl Q.jC (cM.v.nm 0) (cM.v.nm 2))
  (aS (dQ Q.dy.cl Q.kG (cM.v.nm 0) (IB (eH sr (cW _) (cM.v.nm 2) ma) (b_ c1.1 c1.2 (hr.mono (by decide)) (af (aZ Q.cu.cl Q.nt (cM.v.nm 1)) (af (cM.v.nm 2) av)) (cM.v.d 0) (cM.v.g 0)) ma)))))) vd
theorem j7:MethAt (KX w.params) bK "is_dearer" "Grower.is_dearer" fU ["self","taken","row"] 439 (Hd.fd fU "is_dearer" "Grower.is_dearer" mM 438):=Hd.u9 (by kernel_rfl) λ_ _ _ _ _ _ _ _ _=>rfl
theorem u4:cH PW w (KX w.params) mg base eC 4 439 (Hd.fd fU "is_dearer" "Grower.is_dearer" mM 438) ["self","taken","row"] (fe kC):=by
 let Q:=Qt e
 show fu (N:=km) (j7 e).fn de.sc (λcdv A outer s H E hr=>(ax (fY (eH zQ (cW _) (aZ Q.dy.cl Q.jC (de.v.nm 0)) ma) (aS (cA Ep)) fm)
  (aS (cA (dM (aZ Q.dy.cl Q.g4 (de.v.nm 0)) Q.cu.cl (mJ e).me (xh base e) (hr.mono (by decide)) (mJ e).bd (af (de.v.nm 1) (af (dM (aZ Q.dy.cl Q.g4 (de.v.nm 0)) Q.cu.cl (gO e).me (qy base e) (hr.mono (by decide)) (gO e).bd (af (de.v.nm 1) (af (de.v.nm 2) av))) (af (aZ Q.dy.cl Q.kG (de.v.nm 0)) (af (aZ Q.dy.cl Q.jC (de.v.nm 0)) av))))))))) uh
theorem o5:MethAt (KX w.params) bK "node" "Grower.node" gh ["self","taken","row"] 444 (Hd.fd gh "node" "Grower.node" mM 443):=Hd.u9 (by kernel_rfl) λ_ _ _ _ _ _ _ _ _=>rfl
theorem qR:∀n:Nat,cH PW w (KX w.params) mg base eC (4+n) 444 (Hd.fd gh "node" "Grower.node" mM 443) ["self","taken","row"] (fe (gg n))
 |0=>MK (yO)
 |n+1=>by
  let GR:=qR n;let F:=o5 e;let c1:=sG base e;let c2:=qm base e;let B:=Bt e;let Q:=Qt e;show fu (N:=oU) F.fn bf.sc (λcdv A outer s H E hr=>(ax (bI bf.sc.nd (bf.v.l 3) (b_ c1.1 c1.2 (hr.mono (Xu (show _<=4 by decide) (Ze _ n))) (af (aZ Q.dy.cl Q.g4 (bf.v.nm 0)) (af (bf.v.nm 1) (af (bf.v.nm 2) av))) (bf.v.d 0) (bf.v.g 0)))
  (ax (fY (eH sr (cW _) (bf.v.nm 3) ma) (aS (cA (bf.v.nm 3))) fm)
  (ax (fY (ot (dM (bf.v.nm 0) Q.dy.cl (j7 e).me (u4 base e) (hr.mono (Xu (show _<=4 by decide) (Ze _ n))) (j7 e).bd (af (bf.v.nm 1) (af (bf.v.nm 2) av)))) (aS (cA (fX (af m5 av)))) fm)
  (ax (fY (ot (dM (aZ Q.dy.cl Q.g4 (bf.v.nm 0)) Q.cu.cl (jD e).me (t5 base e) (hr.mono (Xu (show _<=4 by decide) (Ze _ n))) (jD e).bd (af (bf.v.nm 1) av))) (aS (cA (fX (af m5 av)))) fm)
  (ax (bI bf.sc.nd (bf.v.l 4) (b_ c2.1 c2.2 (hr.mono (Xu (show _<=4 by decide) (Ze _ n))) (af (aZ Q.dy.cl Q.g4 (bf.v.nm 0)) (af (bf.v.nm 1) (af (bf.v.nm 2) av))) (bf.v.d 1) (bf.v.g 1)))
  (aS (cA (fX (af m5 (af (cf (bf.v.nm 4) bQ) (af (iW jI (af (oF (Nc:=["each","self","taken"]) (c_.look (bH gh) ["self","taken","row","against","further"] (by decide+kernel)) (oj (cf (bf.v.nm 4) bQ)) (λ_ _ _ _=>(ky (show(["each","self","taken"]:List Str).Nodup by decide+kernel))) (λ_ _ _ _=>g9) (λ_ _ _ _=>(dM fz Q.dy.cl F.me GR hr F.bd (af (dF mf fz bQ) (af fz av)))) ji) av) B.hO rfl gj (bf.v.d 2) (bf.v.g 2)) av)))))))))))) (Ad n)
theorem BN:cH PW w (KX w.params) mg base eC 13 444 (Hd.fd gh "node" "Grower.node" mM 443) ["self","taken","row"] (fe (gg 9)):=qR base e 9
theorem Ly:Fk w mg base "planned" vg ["costs","rows","due","low","high"] 458 mM 457 14 oA:=by
 let c1:=Ki base e;let c2:=Fi base e;let Q:=Qt e
 show fk (by ac_rfl) ba (λv nd cdv A outer s H E hr=>(ax (bI ba.sc.nd (ba.v.l 5) (b_ c1.1 c1.2 (hr.mono (by decide)) (af (ba.v.nm 1) (af (ba.v.nm 2) av)) (ba.v.d 0) (ba.v.g 0)))
  (ax (fY (eH (tF hr) (cW _) (cf (ba.v.nm 5) bQ) m5) (aS (cA (fX (af m5 (af (fX (af (ba.v.nm 5) (af (fX av) av))) av))))) fm)
  (ax (bI ba.sc.nd (ba.v.l 6) (uo ⟨Q.cu.FJ,(j0 e).me.at_,(j0 e).me.fn,Q.cu.kp⟩ (yo base e) (hr.mono (by decide)) (ba.v.g 1) Q.cu.mg (j0 e).bd (af (ba.v.nm 0) (af (ba.v.nm 1) (af (ba.v.nm 2) (af (ba.v.nm 3) (af (ba.v.nm 4) (af (cf (ba.v.nm 5) bQ) av)))))) (ba.v.d 1)))
  (ax (bI ba.sc.nd (ba.v.l 7) (uo ⟨Q.dy.FJ,(iI e).me.at_,(iI e).me.fn,Q.dy.kp⟩ (v_ base e) (hr.mono (by decide)) (ba.v.g 3) Q.dy.mg (iI e).bd (af (ba.v.nm 6) (af (b_ c2.1 c2.2 (hr.mono (by decide)) (af (ba.v.nm 6) (af (cf (ba.v.nm 5) bQ) av)) (ba.v.d 2) (ba.v.g 2)) av)) (ba.v.d 3)))
  (ax (bI ba.sc.nd (ba.v.l 8) (fX (af (ba.v.nm 5) (af (dM (ba.v.nm 7) Q.dy.cl (o5 e).me (BN base e) (hr.mono (by decide)) (o5 e).bd (af bQ (af (cf (ba.v.nm 5) bQ) av))) av))))
  (ax (fY (eH zQ (cW _) (aZ Q.dy.cl Q.jC (ba.v.nm 7)) ma) (aS (cA (fX (af m5 (af (ba.v.nm 8) av))))) fm)
  (aS (cA (fX (af m5 (af (aZ Q.dy.cl Q.kG (ba.v.nm 7)) (af (aZ Q.dy.cl Q.jC (ba.v.nm 7)) (af (ba.v.nm 8) av)))))))))))))) HY
theorem LY:Fk w mg base "_law_at" xn ["_law_script","_law_k"] 465 fQ 464 1 xy:=by
 let B:=Bt e;show fk (by ac_rfl) MA (λv nd _ _ _ _ _ _ hr=>by nofun) KD
theorem HN:Fk w mg base "_law_hand" td ["_law_script","_law_k"] 472 fQ 471 2 tu:=by
 let c1:=LY base e;let B:=Bt e;show fk (by ac_rfl) GP (λv nd _ _ _ _ _ _ hr=>by nofun) Fj
theorem kQ:Fk w mg base "_law_take" tw ["_law_hand_here","_law_many"] 479 fQ 478 1 dw:=by
 let B:=Bt e;show fk (by ac_rfl) Im (λv nd _ _ _ _ _ _ hr=>by nofun) E2
theorem AJ:Fk w mg base "_law_dot" vf ["_law_one","_law_other"] 484 fQ 483 1 oS:=by
 let B:=Bt e;show fk (by ac_rfl) JY (λv nd _ _ _ _ _ _ hr=>by nofun) Hw
theorem uZ:Fk w mg base "_law_row" vh ["_law_hand_here","_law_wide","_law_size"] 489 fQ 488 2 kj:=by
 let c1:=kQ base e;let B:=Bt e;show fk (by ac_rfl) Ke (λv nd _ _ _ _ _ _ hr=>by nofun) Ig
theorem HZ:Fk w mg base "_law_rows" tD ["_law_hand_here","_law_wide","_law_many"] 494 fQ 493 3 sY:=by
 let c1:=kQ base e;let c2:=uZ base e;let B:=Bt e;show fk (by ac_rfl) GN (λv nd _ _ _ _ _ _ hr=>by nofun) E1
theorem KI:Fk w mg base "_law_box" uM ["_law_hand_here","_law_wide","_law_span"] 499 fQ 498 3 u5:=by
 let c1:=uZ base e;let c2:=kQ base e;let B:=Bt e;show fk (by ac_rfl) La (λv nd _ _ _ _ _ _ hr=>by nofun) HD
theorem Fd:Fk w mg base "_law_inner" rW ["_law_hand_here","_law_low","_law_high"] 506 fQ 505 2 rB:=by
 let c1:=kQ base e;let B:=Bt e;show fk (by ac_rfl) EW (λv nd _ _ _ _ _ _ hr=>by nofun) DQ
theorem GC:Fk w mg base "_law_task" pq ["_law_hand_here","_law_wide","_law_many","_law_span"] 511 fQ 510 4 tQ:=by
 let c1:=HZ base e;let c2:=KI base e;let c3:=Fd base e;let c4:=AJ base e;let c5:=kQ base e;let c6:=uZ base e;let B:=Bt e
 show fk (by ac_rfl) aF (λv nd cdv A outer s H E hr=>(ax (bI aF.sc.nd (aF.v.l 4) (b_ c1.1 c1.2 (hr.mono (by decide)) (af (aF.v.nm 0) (af (aF.v.nm 1) (af (aF.v.nm 2) av))) (aF.v.d 0) (aF.v.g 0)))
  (ax (Kr (b_ c2.1 c2.2 (hr.mono (by decide)) (af (aF.v.nm 0) (af (aF.v.nm 1) (af (aF.v.nm 3) av))) (aF.v.d 1) (aF.v.g 1)) (yN rfl aF.sc.nd))
  (ax (bI aF.sc.nd (aF.v.l 7) (b_ c3.1 c3.2 (hr.mono (by decide)) (af (aF.v.nm 0) (af (aF.v.nm 5) (af (aF.v.nm 6) av))) (aF.v.d 2) (aF.v.g 2)))
  (ax (M9 aF.sc.nd (aF.v.l 8) (Nc:=["_law_row_here","_law_inner_here"]) (c_.look (bH pq) ["_law_hand_here","_law_wide","_law_many","_law_span","_law_rows_here","_law_low","_law_high","_law_inner_here","_law_due","_law_costs"] (by decide+kernel)) (oj (aF.v.nm 4)) (λ_ _ _ _=>(ky (show(["_law_row_here","_law_inner_here"]:List Str).Nodup by decide+kernel))) (λ_ _ _ _=>g9) (λ_ _ _ _=>(b_ c4.1 c4.2 (hr.mono (by decide)) (af fz (af fz av)) (by decide+kernel) rfl)) ji)
  (ax (fY (eH (tF hr) (cW _) (b_ c5.1 c5.2 (hr.mono (by decide)) (af (aF.v.nm 0) (af bQ av)) (aF.v.d 3) (aF.v.g 3)) bQ) (aS (MR (aF.v.nm 8) (b_ c5.1 c5.2 (hr.mono (by decide)) (af (aF.v.nm 0) (af (aF.v.nm 2) av)) (aF.v.d 3) (aF.v.g 3)) (dF nr (b_ c5.1 c5.2 (hr.mono (by decide)) (af (aF.v.nm 0) (af bQ av)) (aF.v.d 3) (aF.v.g 3)) bQ) Lm)) fm)
  (ax (bI aF.sc.nd (aF.v.l 9) (b_ c6.1 c6.2 (hr.mono (by decide)) (af (aF.v.nm 0) (af (aF.v.nm 1) (af (cf (fX (af bQ (af bQ (af bQ (af bQ av))))) (b_ c5.1 c5.2 (hr.mono (by decide)) (af (aF.v.nm 0) (af bQ av)) (aF.v.d 3) (aF.v.g 3))) av))) (aF.v.d 4) (aF.v.g 4)))
  (aS (cA (fX (af (aF.v.nm 9) (af (aF.v.nm 4) (af (iW jI (af (aF.v.nm 8) av) B.hO rfl gj (aF.v.d 5) (aF.v.g 5)) (af (aF.v.nm 5) (af (aF.v.nm 6) av))))))))))))))) EJ
theorem Ls:Fk w mg base "_law_all" uu ["_law_low","_law_high"] 516 fQ 515 1 va:=by
 let B:=Bt e;show fk (by ac_rfl) J9 (λv nd _ _ _ _ _ _ hr=>by nofun) Gz
theorem Fh:Fk w mg base "_law_first" rP ["_law_task_here"] 521 fQ 520 2 rO:=by
 let c1:=Ls base e;let c2:=AJ base e;let B:=Bt e;show fk (by ac_rfl) Fb (λv nd _ _ _ _ _ _ hr=>by nofun) DR
theorem qS:Fk w mg base "_law_is_number" nA ["_law_found"] 528 fQ 527 1 jW:=by
 let B:=Bt e;show fk (by ac_rfl) yC (λv nd _ _ _ _ _ _ hr=>by nofun) x_
theorem Cw:Fk w mg base "_law_is_row" pU ["_law_found","_law_due"] 533 fQ 532 2 pW:=by
 let c1:=qS base e;let B:=Bt e;show fk (by ac_rfl) Er (λv nd _ _ _ _ _ _ hr=>by nofun) BC
theorem BG:Fk w mg base "_law_is_best" oV ["_law_told","_law_best"] 540 fQ 539 3 jy:=by
 let c1:=qS base e;let c2:=Cw base e;let B:=Bt e;show fk (by ac_rfl) By (λv nd _ _ _ _ _ _ hr=>by nofun) zT
theorem E9:Fk w mg base "_law_lists" rJ ["_law_task_here"] 545 fQ 544 1 om:=by
 let B:=Bt e;show fk (by ac_rfl) EN (λv nd _ _ _ _ _ _ hr=>by nofun) C6
theorem EV:Fk w mg base "_law_right" rM ["_law_task_here"] 552 fQ 551 15 rS:=by
 let c1:=Fh base e;let c2:=Ly base e;let c3:=BG base e;let c4:=E9 base e;let B:=Bt e;show fk (by ac_rfl) Fe (λv nd _ _ _ _ _ _ hr=>by nofun) Dw
theorem TX:Fk w mg base "law" yb ["_law_script"] 559 fQ 558 16 Ny:=by
 let c1:=HN base e;let c2:=kQ base e;let c3:=GC base e;let c4:=EV base e;let B:=Bt e;show fk (by ac_rfl) T_ (λv nd _ _ _ _ _ _ hr=>by nofun) Rz
end
def dL:DefRec:=match yb with
 | .FunctionDef n a b _ _ _ sc _ _ pos=>⟨n,a,b,sc,pos⟩
 |_=>⟨"",L2.mR (.Pass ⟨0,0,0,0⟩),[],L2.bH (.Pass ⟨0,0,0,0⟩),⟨0,0,0,0⟩⟩
end Row
open PySem PySem.W PyProof.Rows
set_option maxRecDepth 100000 in
set_option maxHeartbeats 0 in
theorem PySem.Challenge.cw_latticeworks_k71_plans_gone_through_holds : PySem.Challenge.rw_latticeworks_k71_plans_gone_through.Holds := by
 show PySem.W.holds_law Row.L7 λL7=>?_;show PySem.W.holds_open (r:=PySem.Challenge.rw_latticeworks_k71_plans_gone_through.row) (q:=PySem.W.view Row.PW [1,2,3,4,5,6,7,9,10,11,12,13,14,15,16,18,19,20,21,22,23,24,25,27,28,29,31,32,34,35,36,37,39,41,42,43,44,45,46,48,49,50,51,52,53,54,55,56,57,58,59,60,61,62,63,64]) (loose:=[]) (Xt:=λ_=>true) (XP:=λ_ _=>True) (YP:=(PySem.W.kmHook Row.KX Row.KA (λ_=>rfl) [166]).says) (d:=Row.dL) (kwd:=[]) Row.left ((PySem.W.kmHook Row.KX Row.KA (λ_=>rfl) [166]).of) ((PySem.W.kmHook Row.KX Row.KA (λ_=>rfl) [166]).keeps) (λ_ _=>trivial) (λ_ _ _ _ _=>trivial) (by kernel_rfl) (by kernel_rfl) (by kernel_rfl) (λs _=>PySem.W.recFacts_of (R:=[]) rfl) (by kernel_rfl) L7 (by decide+kernel) ⟨rfl,rfl,rfl,rfl,rfl,by decide+kernel⟩ ?hw ?hc;case hw=>w_witness2
 show L2.TL (n:=63) (k:=16) (x:="_law_script") (ts:=[(168,166)]) (K:=Row.KX) (sp:=λw=>L3.Kh (Row.KX w.params) [(168,166)]) rfl (by decide) (by kernel_rfl) ⟨rfl,by decide,by decide⟩ (by kernel_rfl) rfl (λw h Y=>⟨PySem.W.km_in_of Y,⟨(λq hq=>by rcases XJ.mp hq with rfl|hq;kernel_rfl;cases hq),(λq hq=>by rcases XJ.mp hq with rfl|hq;kernel_rfl;cases hq),λq hq=>PySem.W.km_tabs_of Y _ (aa0 (f:=Prod.snd) hq)⟩⟩) ?F λ_ _ a ns hl hE=>⟨a,ns,rfl,hE,hl,λ_=>rfl⟩
 intro w mg fa h X G hmg;let e2:=hmg.symm.trans (aae (v:= .ref 559) X G (by kernel_rfl));cases e2;show⟨Hd.fd Row.yb "law" "law" Row.fQ 558,λs v=> .of_eq rfl,λbase _ _=>(Row.TX base ⟨X,G⟩).2.imp λvs H Q E h=>L3.Jg (tl:=[(166,⟨84,32,84,66⟩,"Bench.live_rows.<locals>.<lambda>")]) (by kernel_rfl) rfl (by decide) h⟩
