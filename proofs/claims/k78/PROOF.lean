import PyProof.Rows.All
import Wide.All
import OpenK.AllK
import Wide.FinOn
import Lean
import PyProof.EqAt
import PyProof.EqKinds
import PyProof.TupleCall
import PyProof.NeKinds
import KE.KUnpack
import PyProof.CallStr
import PySem.Challenge.RW_latticeworks_k78_turned_tasks
set_option Elab.async false
set_option autoImplicit true
set_option relaxedAutoImplicit true
set_option linter.all false
set_option maxRecDepth 100000
local macro_rules|`(def $i:declId$s:optDeclSig$v:declVal)=>`(noncomputable def $i:declId$s:optDeclSig$v:declVal)
local macro_rules|`(@[irreducible]def $i:declId$s:optDeclSig$v:declVal)=>`(@[irreducible]noncomputable def $i:declId$s:optDeclSig$v:declVal)
local macro_rules|`(abbrev $i:declId$s:optDeclSig$v:declVal)=>`(noncomputable abbrev $i:declId$s:optDeclSig$v:declVal)
local macro_rules|`(tactic|let $d:letDecl)=>`(tactic|have $d:letDecl)
local macro_rules|`(tactic|show $t)=>`(tactic|refine $t)
local macro_rules|`(tactic|simp![$l,*]$[$k]?)=>`(tactic|simp only[$l,*]$[$k]?)
local macro_rules|`(())=>`(by lia)
local macro_rules|`(⋯)=>`(by decide)
local macro_rules|`(∅)=>`(by decide+kernel)
def Xr:=@List.length_map
def Xs:=@List.getElem?_eq_some_iff
def Xu:=@List.getElem?_set_ne
def Xv:=@Nat.le_refl
def Xw:=@PySem.wpAny_bind
def Xx:=@if_neg
def Xy:=@Nat.le_trans
def Xz:=@Nat.le_of_ble_eq_true
def XA:=@List.getElem?_append_left
def XB:=@if_pos
def XC:=@List.getElem?_eq_getElem
def XD:=@List.getD_eq_getElem?_getD
def XE:=@List.getElem?_set_self
def XF:=@PySem.Heap.get?_push_of_some
def XG:=@List.size_toArray
def XH:=@List.length_set
def XI:=@Ne.symm
def XJ:=@List.getElem?_map
def XM:=@PySem.wpAny_pure
def XN:=@List.mem_cons_of_mem
def XO:=@Nat.pow_le_pow_right
def XQ:=@PySem.Heap.lt_size
def XR:=@Nat.lt_of_lt_of_le
def XS:=@List.mem_of_getElem?
def XT:=@List.length_cons
def XU:=@List.mem_cons
def XW:=@decide_eq_false
def XX:=@List.mem_cons_self
def XY:=@List.mem_append_right
def XZ:=@Nat.not_lt_zero
def X5:=@PySem.Heap.get?_push_size
def X6:=@List.map_map
def X7:=@decide_eq_true
def X8:=@List.mem_map
def X9:=@List.drop_eq_getElem_cons
def X_:=@Nat.ne_of_lt
def Yb:=@Int.toNat_natCast
def Yc:=@Nat.zero_le
def Yd:=@List.getElem_mem
def Ye:=@List.getElem?_cons_succ
def Yg:=@List.map_cons
def Yh:=@List.mem_iff_getElem
def Yi:=@List.getElem?_append_right
def Yj:=@Nat.mul_le_mul
def Yk:=@Nat.lt_succ_of_lt
def Yl:=@List.mem_map_of_mem
def Ym:=@Bool.and_eq_true
def Yn:=@List.mem_append
def Yo:=@List.mem_or_eq_of_mem_set
def Yp:=@Nat.lt_succ_self
def Yq:=@PySem.W.mg_none_of
def Yr:=@PySem.mem_of_lookup
def Ys:=@Int.fdiv_eq_ediv_of_nonneg
def Yt:=@Int.natAbs_mul
def Yu:=@List.all_eq_true
def Yv:=@Int.mul_zero
def Yw:=@List.replicate_succ
def Yx:=@Option.some.inj
def Yy:=@List.lookup_cons
def Yz:=@List.take_of_length_le
def YA:=@Int.fmod_nonneg_of_pos
def YB:=@Bool.false_ne_true
def YC:=@List.length_append
def YD:=@List.length_take
def YE:=@List.mem_singleton
def YF:=@List.nodup_cons
def YG:=@List.length_drop
def YH:=@Int.add_zero
def YI:=@Nat.pow_succ
def YJ:=@PyProof.Rows.slot_tuple_getitem
def YK:=@congrArg
def YL:=@Int.fmod_lt_of_pos
def YM:=@Nat.lt_irrefl
def YN:=@Nat.le_of_lt
def YO:=@PySem.Heap.size_push
def YQ:=@PySem.W.kia_one
def YR:=@List.map_append
def YS:=@PyProof.Rows.callWith_type1
def YT:=@PySem.wpAny_callSpecial?_slot
def YU:=@List.mem_append_left
def YV:=@Nat.mul_le_mul_right
def YW:=@List.mem_range
def YX:=@List.range_succ_eq_map
def YY:=@PySem.wpAny_truthy_bool
def YZ:=@List.flatten_cons
def Y0:=@PySem.Heap.SameBut.update
def Y1:=@Nat.mul_comm
def Y2:=@Int.mul_assoc
def Y3:=@PySem.wpAny_mono
def Y4:=@Int.natAbs_neg
def Y5:=@List.length_eq_zero_iff
def Y6:=@PySem.wpAny_field
def Y7:=@Nat.succ_mul
def Y8:=@List.map_set
def Y9:=@List.not_mem_nil
def Y_:=@Classical.byContradiction
def Za:=@Nat.pow_add
def Zb:=@List.append_nil
def Zc:=@List.getElem?_take_of_lt
def Zd:=@Int.mul_comm
def Ze:=@Int.mul_ne_zero
def Zf:=@List.length_nil
def Zg:=@PySem.wpAny_newObj_type
def Zh:=@List.append_assoc
def Zi:=@Int.mul_le_mul_of_nonneg_left
def Zj:=@beq_eq_false_iff_ne
def Zk:=@List.map_congr_left
def Zl:=@PySem.wpAny_call_entry
def Zm:=@beq_iff_eq
def Zn:=@PySem.W.cellsFrom_some
def Zo:=@List.drop_eq_nil_of_le
def Zq:=@Int.neg_mul
def Zr:=@PySem.wpAny_Call_Name_kw
def Zs:=@Nat.sub_self
def Zt:=@Int.zero_mul
def Zu:=@of_decide_eq_false
def Zv:=@PySem.wpAny_passesOwn
def Zw:=@List.getElem?_eq_none
def Zx:=@PySem.wpAny_holding
def Zy:=@PySem.F.slot_tuple_iterator_next
def Zz:=@not_or
def ZA:=@decide_eq_true_eq
def ZC:=@PySem.sizeLine_eq
def ZD:=@Int.one_mul
def ZE:=@Nat.mul_one
def ZF:=@Nat.one_mul
def ZG:=@Nat.ne_of_gt
def ZH:=@Option.isSome_iff_exists
def ZI:=@Nat.le_of_not_lt
def ZJ:=@decide_eq_decide
def ZK:=@Nat.lt_or_ge
def ZL:=@Int.ne_of_gt
def ZM:=@List.getElem_map
def ZN:=@Array.length_toList
def ZO:=@List.getElem?_range
def ZP:=@Nat.mul_le_mul_left
def ZQ:=@List.sum_cons
def ZR:=@PySem.call_meets
def ZS:=@Bool.false_eq_true
def ZT:=@Option.map_some
def ZU:=@PySem.wpAny_pyIter_tuple
def ZV:=@Nat.one_le_two_pow
def ZW:=@List.range_succ
def ZX:=@Nat.pow_pos
def ZY:=@List.drop_of_length_le
def ZZ:=@List.length_range
def Z0:=@List.length_singleton
def Z4:=@Int.zero_add
def Z5:=@Nat.zero_add
def Z9:=@if_false
def Z_:=@List.length_dropLast
def aaa:=@PySem.F.slot_tuple_mul
def aab:=@Nat.le_add_right
def aac:=@List.mem_of_mem_take
def aad:=@List.all_cons
def aae:=@Nat.mul_assoc
def aaf:=@PySem.W.mg_of
def aag:=@Nat.add_mul
def aah:=@List.filterMap_cons
def aai:=@PyProof.Rows.get?_update_seq
def aaj:=@Nat.min_eq_left
def aak:=@List.mem_filterMap
def aal:=@PySem.F.args_tuple_add_2
def aam:=@PySem.wpAny_setField_rec
def aan:=@Nat.lt_trans
def aao:=@Int.natCast_nonneg
def aap:=@Int.sub_eq_add_neg
def aaq:=@PySem.wpAny_rule
def aar:=@if_true
def aas:=@PySem.wpAny_seqItems
def aat:=@List.getElem?_replicate
def aau:=@PySem.F.entry_tuple_add
def aav:=@PySem.F.plainAttrs_list
def aaw:=@Nat.le_mul_of_pos_right
def aax:=@PySem.W.kitx_list
def aay:=@PySem.W.kitx_dict
def aaz:=@PySem.wpAny_pyIter_list
def aaA:=@List.pairwise_map
def aaB:=@List.reverse_cons
def aaC:=@of_decide_eq_true
def aaD:=@PySem.F.slot_tuple_add
def aaE:=@Int.le_ediv_iff_mul_le
def aaF:=@PySem.wpAny_standAt
def aaG:=@beq_self_eq_true
def aaH:=@Nat.min_eq_right
def aaI:=@PySem.Heap.get?_update_self
def aaJ:=@Int.mul_fdiv_add_fmod
def aaK:=@PySem.wpAny_execs_nil
def aaL:=@Bool.eq_iff_iff
def aaM:=@List.of_mem_zip
def aaN:=@PySem.F.slot_int_rmul
def aaO:=@PySem.wpAny_ite_false
def aaP:=@bne_iff_ne
def aaQ:=@Bool.or_eq_true
def aaR:=@PySem.F.slot_zip_next
def aaS:=@List.cons.injEq
def aaT:=@Bool.and_eq_true_iff
def aaU:=@Rat.intCast_inj
def aaV:=@Int.mul_le_mul_of_nonpos_left
def aaW:=@PySem.W.plainGet_of
def aaX:=@List.length_reverse
def aaY:=@PySem.F.args_tuple_iterator_next_1
def aaZ:=@PySem.wpAny_newTuple
def aa0:=@Int.le_refl
def aa1:=@PyProof.Rows.assignInOrder_cons
def aa2:=@PySem.W.callWith_K
def aa3:=@PySem.F.args_tuple_mul_2
def aa4:=@PySem.F.entry_tuple_iterator_next
def aa5:=@List.pairwise_cons
def aa6:=@Nat.lt_or_gt_of_ne
def aa7:=@List.getElem_range
def aa8:=@PySem.Calls.Name_function_global
def aa9:=@PySem.wpAny_attempt
def aa_:=@PyProof.Rows.listUpdate_at
def aba:=@List.cons.inj
def abb:=@List.map_take
def abc:=@List.perm_append_singleton
def abd:=@Nat.le_of_succ_le
def abe:=@PySem.F.entry_tuple_mul
def abf:=@List.getElem?_set
def abg:=@Nat.le_of_lt_succ
def abh:=@Nat.mul_left_comm
def abi:=@Nat.lt_trichotomy
def abj:=@PySem.typeIs_int
def abk:=@PySem.wpAny_binaryOp_repeat_ref
def abl:=@List.getElem?_eq_none_iff
def abm:=@Int.natAbs_ediv_le_natAbs
def abn:=@Nat.le_of_eq
def abo:=@PySem.codeAny_mono
def abp:=@PySem.noFill_tuple_add
def abq:=@Nat.min_le_right
def abr:=@PyProof.noPylong_of_log2
def abt:=@or_false
def abu:=@PySem.Around.in1_units
def abv:=@Nat.zero_mul
def abw:=@Nat.succ_lt_succ
def abx:=@Int.mul_fdiv_cancel_left
def aby:=@Nat.sub_zero
def abz:=@Nat.add_zero
def abA:=@List.mem_reverse
def abB:=@List.getElem?_cons_zero
def abC:=@List.forIn_cons
def abD:=@Nat.min_le_left
def abE:=@beq_false_of_ne
def abF:=@Nat.le_antisymm
def abG:=@Rat.intCast_add
def abH:=@Rat.intCast_mul
def abI:=@PySem.seqIndex_of
def abJ:=@Prod.mk.inj
def abK:=@Nat.le_mul_of_pos_left
def abL:=@PySem.W.methodCall_KW
def abM:=@List.forIn_nil
def abN:=@Bool.and_false
def abO:=@List.contains_iff_mem
def abP:=@Nat.add_le_add
def abQ:=@Rat.divInt_mul_divInt
def abR:=@List.count_set
def abS:=@List.set_append_right
def abT:=@List.filterMap_append
def abU:=@List.drop_zero
def abV:=@List.Perm.refl
def abW:=@Prod.mk.injEq
def abX:=@Int.add_assoc
def abY:=@List.map_drop
def abZ:=@Nat.min_self
def ab0:=@Int.le_of_lt
def ab1:=@Nat.gcd_comm
namespace L2
open PySem PySem.Spec PyProof.Rows
abbrev Key:=Sum Int Str
def N6:Key->Value->Bool
 | .inl k,v=>Value.isInt k v
 | .inr x,v=>Value.isStrOf x v
def WS(w:World):Key->Int
 | .inl k=>hashInt k
 | .inr x=>hashStr w x
def fX:∀ {k:Key} {v:Value},N6 k v=true->(∃i t,k=Sum.inl i/\v=Value.int i t)\/(∃x t,k=Sum.inr x/\v=Value.str x t)
 | .inl i,v,h=>by
   obtain⟨t,e⟩:=Value.isInt_shape (k:=i) (v:=v) h;show .inl ⟨i,t,rfl,e⟩
 | .inr x,v,h=>by
   obtain⟨t,e⟩:=Value.isStrOf_shape (x:=x) (v:=v) h;show .inr ⟨x,t,rfl,e⟩
def Tf(a b:Int):decide ((Sum.inl a:Key)=Sum.inl b)=(a==b):=by
 by_cases e:a=b
 . subst e;simp
 have h:¬(Sum.inl a:Key)=Sum.inl b:=λq=>e (Sum.inl.inj q);rw[XW h];show(Zj.mpr e).symm
def Tj(a b:Str):decide ((Sum.inr a:Key)=Sum.inr b)=decide (a=b):=by
 by_cases e:a=b
 . subst e;simp
 have h:¬(Sum.inr a:Key)=Sum.inr b:=λq=>e (Sum.inr.inj q);rw[XW h,XW e]
def Ra(a:Int)(b:Str):decide ((Sum.inl a:Key)=Sum.inr b)=false:=XW (λq=>nomatch q)
def Rh(a:Str)(b:Int):decide ((Sum.inr a:Key)=Sum.inl b)=false:=XW (λq=>nomatch q)
def F8(prog:Program)(w:World):PySem.KeyKind prog w Key where
 is:=N6
 hash:=WS w
 inj:=λv a b g d=>by
  rcases fX g with⟨i,t,rfl,rfl⟩|⟨x,t,rfl,rfl⟩
  . rcases fX d with⟨j,u,rfl,e⟩|⟨y,u,rfl,e⟩
    . injection e with e1 _;rw[e1]
    show nomatch e
  rcases fX d with⟨j,u,rfl,e⟩|⟨y,u,rfl,e⟩
  . show nomatch e
  injection e with e1 _;rw[e1]
 byValue:=λk v h=>by
  rcases fX h with⟨i,t,rfl,rfl⟩|⟨x,t,rfl,rfl⟩<;>rfl
 pyHash:=λc h=>by
  rcases fX c with⟨i,t,rfl,rfl⟩|⟨x,t,rfl,rfl⟩
  . show wpAny_pyHash_int h
  show wpAny_pyHash_str h
 eqBool:=λf c h=>by
  rcases fX f with⟨i,t,rfl,rfl⟩|⟨x,t,rfl,rfl⟩
  . rcases fX c with⟨j,u,rfl,rfl⟩|⟨y,u,rfl,rfl⟩
    . rw[Tf]at h;show wpAny_eqBool_int h
    rw[Ra]at h;show SeqAt.EqAt.int_str i t y u _ _ _ _ h
  rcases fX c with⟨j,u,rfl,rfl⟩|⟨y,u,rfl,rfl⟩
  . rw[Rh]at h;show SeqAt.EqAt.str_int x t j u _ _ _ _ h
  rw[Tj]at h;show wpAny_eqBool_str h
 «strs» :=λk x t v h=>by
  rcases fX h with⟨i,u,rfl,e⟩|⟨y,u,rfl,e⟩
  . show nomatch e
  injection e with e1 _;subst e1;cases v<;>rfl
inductive V where
 |av|bl (b:Bool)|int (i:Int)|str (x:Str)|wM (b:Array UInt8)|wX (b:UInt64)|ref (a:Addr)|ty (n:String)
 deriving DecidableEq
def RelV:V->Value->Prop
 | .av,u=>u=Value.none
 | .bl b,u=>u=Value.bool b
 | .int i,u=>∃t,u=Value.int i t
 | .str x,u=>∃t,u=Value.str x t
 | .wM b,u=>∃t,u=Value.bytes b t
 | .wX b,u=>∃t,u=Value.float b t
 | .ref a,u=>u=Value.ref a
 | .ty n,u=>u=Value.type n
abbrev Vals:List V->List Value->Prop:=Paired RelV
def Vals.length{xs:List V}{us:List Value}(r:Vals xs us):xs.length=us.length:=Paired.length r
def Vals.get:∀ {xs:List V} {us:List Value} {i:Nat} {x:V},Vals xs us->xs[i]?=some x->∃u,us[i]?=some u/\RelV x u
 |_,_,_,_,.nil,e=>by simp at e
 |_,_,0,_,.cons r _,e=>by simp at e;subst e;show⟨_,rfl,r⟩
 |_,_,i+1,x,.cons _ t,e=>by
  obtain⟨u,b,a⟩:=Vals.get (i:=i) (x:=x) t (by simpa using e);show⟨u,by simpa using b,a⟩
def Vals.set(r:RelV x u):∀ {xs:List V} {us:List Value} (i:Nat),Vals xs us->Vals (xs.set i x) (us.set i u)
 |_,_,_,.nil=> .nil
 |_,_,0,.cons _ t=> .cons r t
 |_,_,i+1,.cons q t=> .cons q (Vals.set r i t)
def Vals.append:∀ {xs ys:List V} {us ws:List Value},Vals xs us->Vals ys ws->Vals (xs++ys) (us++ws)
 |_,_,_,_,.nil,s=>s
 |_,_,_,_,.cons r t,s=> .cons r (Vals.append t s)
def Vals.take:∀ {xs:List V} {us:List Value} (n:Nat),Vals xs us->Vals (xs.take n) (us.take n)
 |_,_,0,_=> .nil
 |_,_,_+1,.nil=> .nil
 |_,_,n+1,.cons r t=> .cons r (Vals.take n t)
def Vals.drop:∀ {xs:List V} {us:List Value} (n:Nat),Vals xs us->Vals (xs.drop n) (us.drop n)
 |_,_,0,r=>r
 |_,_,_+1,.nil=> .nil
 |_,_,n+1,.cons _ t=>Vals.drop n t
def se:Option V->Option Value->Prop
 |some v,some u=>RelV v u
 |none,none=>True
 |_,_=>False
def KV{κ:Type}:List (κ×V)->List (κ×Value)->Prop:=Paired λ(p:κ×V) (q:κ×Value)=>p.1=q.1/\RelV p.2 q.2
def kV:Key->V
 | .inl i=> .int i
 | .inr x=> .str x
inductive HO where
 |lst (xs:List V)
 |tup (xs:List V)
 |dK (kvs:List (Key×V))|dT (kvs:List (List Key×V))
 |set (S:Int->Bool) (n:Nat)
 |ins (C dx:Addr) (fs:List (Str×V))
 |own (x:Addr)
 |xd (fs:List (Str×V))
 |met (f x:Addr)
 |R0 (lo hi:Int)
 |iP (o:Obj) (u:HO)
 |mZ (ps:Array Value)
 |ext (φ:Heap->Prop)
abbrev Hp:=Addr->Option HO
def upd(H:Hp)(a:Addr)(o:HO):Hp:=λb=>if b=a then some o else H b
def bf:upd H a o a=some o:=by unfold upd;rw[XB rfl]
def aF(h:b≠a):upd H a o b=H b:=by unfold upd;rw[Xx h]
def OW:upd (upd H a o) a u=upd H a u:=by
 funext b;unfold upd;split<;>rfl
def eJ{H:Hp}{a b:Addr}{o:HO}(h:H a=some o)(h':H b=none):a≠b:=by
 intro e;subst e;rw[h]at h';cases h'
section
variable (P:Program)(w:World)
def eH(H:Hp)(h:Heap)(a:Addr):HO->Prop
 | .lst c=>c.length<=sizeLine/\∃(e:List Value) (n:Nat),Vals c e/\h.get? a=some {cls:= .type "list",data:= .seq e.toArray n}
 | .tup c=>c.length<=sizeLine/\∃e:List Value,Vals c e/\IsTup h a e.toArray
 | .dK b=>b.length<=sizeLine/\(a==sysModules)=false/\∃i,KV b i/\h.DictOf (F8 P w) a i
 | .dT b=>b.length<=sizeLine/\(a==sysModules)=false/\∃c:List (List Key×Addr×Value),
    Paired (λ(p:List Key×V) (q:List Key×Addr×Value)=>p.1=q.1/\H q.2.1=some (.tup (p.1.map kV))/\RelV p.2 q.2.2) b c/\
    ∃o l y,h.get? a=some o/\o.ExactDict/\o.data= .dict l y/\l.toList=c.map (entryOfKey (tupleKind (F8 P w)))/\(c.map (·.1)).Nodup
 | .set S n=>h.SetOf (intKind P w) a S n
 | .ins C g fs=>H g=some (.own a)/\fs.length<=1000/\g≠a/\h.get? a=some (PySem.W.instObj C g)/\
    ∃d,h.Ns1 g d/\(∀f,se (fs.lookup f) (d f))/\PySem.Within d (fs.map (·.1))
 | .own _=>∃o,h.get? a=some o
 | .xd fs=>∃d,h.Ns1 a d/\∀f,se (fs.lookup f) (d f)
 | .R0 r s=>∃t u v,h.get? a=some {cls:= .type "range",data:= .fields #[.int r t,.int s u,.int 1 v]}
 | .iP o u=>h.get? a=some o/\eH H h a u
 | .mZ m=>h.get? a=some {cls:= .none,data:= .fields m}
 | .met f x=>h.get? a=some (PySem.W.methodObj (.ref f) (.ref x))
 | .ext φ=>φ h/\(∃o,h.get? a=some o)/\∀k j:Heap,φ k->(∀o,k.get? a=some o->j.get? a=some o)->φ j
def jJ(H:Hp)(h:Heap):Prop:=∀a o,H a=some o->eH P w H h a o
end
section
variable {P:Program}{w:World}{H H':Hp}{h h':Heap}{a:Addr}{o:HO}
def eH.lt(x:eH P w H h a o):a<h.objs.size:=by
 cases o with
 |lst c=>obtain⟨_,_,_,_,e⟩:=x;show XQ e
 |tup c=>obtain⟨_,_,_,p⟩:=x;show p.lt
 |dK b=>obtain⟨_,_,_,_,o,_,_,e,_⟩:=x;show XQ e
 |dT b=>obtain⟨_,_,_,_,o,_,_,e,_⟩:=x;show XQ e
 |set S n=>obtain⟨o,_,_,_,e,_⟩:=x;show XQ e
 |ins C k fs=>obtain⟨_,_,_,e,_⟩:=x;show XQ e
 |own y=>obtain⟨_,e⟩:=x;show XQ e
 |xd fs=>obtain⟨_,⟨_,_,_,e,_⟩,_⟩:=x;show XQ e
 |R0 i j=>obtain⟨_,_,_,e⟩:=x;show XQ e
 |iP g u=>obtain⟨e,_⟩:=x;show XQ e
 |mZ d=>show XQ (show h.get? a=some _ from x)
 |met f y=>show XQ (show h.get? a=some _ from x)
 |ext φ=>obtain⟨_,⟨_,e⟩,_⟩:=x;show XQ e
def Paired.L_{α β:Type}{F G:α->β->Prop}:∀ {c:List α} {l₂:List β},Paired F c l₂->(∀a b,F a b->G a b)->Paired G c l₂
 |_,_,.nil,_=> .nil
 |_,_,.cons r t,f=> .cons (f _ _ r) (Paired.L_ t f)
def eH.rZ(x:eH P w H h a o)(k:∀b u,(b=a\/H b=some (.own a))->h.get? b=some u->h'.get? b=some u)
 (J:∀b,H b=some (.own a)->H' b=some (.own a)) (I:∀b xs,H b=some (.tup xs)->H' b=some (.tup xs)):eH P w H' h' a o:=by
 induction o with
 |lst xs=>obtain⟨z,A,n,r,e⟩:=x;show⟨z,A,n,r,k _ _ (.inl rfl) e⟩
 |tup xs=>obtain⟨z,A,r,g,e,c⟩:=x;show⟨z,A,r,g,k _ _ (.inl rfl) e,c⟩
 |dK s=>obtain⟨z,y,E,r,g,i,j,e,c⟩:=x;show⟨z,y,E,r,g,i,j,k _ _ (.inl rfl) e,c⟩
 |dT s=>
  obtain⟨z,y,xs,r,g,i,j,e,c⟩:=x;show⟨z,y,xs,Paired.L_ r λp q z=>⟨z.1,I _ _ z.2.1,z.2.2⟩,g,i,j,k _ _ (.inl rfl) e,c⟩
 |set S n=>obtain⟨g,i,j,t,e,c⟩:=x;show⟨g,i,j,t,k _ _ (.inl rfl) e,c⟩
 |ins C N fs=>
  obtain⟨d,z,F,e,m,⟨l,i,j,K,c⟩,r⟩:=x;show⟨J _ d,z,F,k _ _ (.inl rfl) e,m,⟨l,i,j,k _ _ (.inr d) K,c⟩,r⟩
 |own y=>obtain⟨g,e⟩:=x;show⟨g,k _ _ (.inl rfl) e⟩
 |xd fs=>obtain⟨m,⟨l,i,j,e,c⟩,r⟩:=x;show⟨m,⟨l,i,j,k _ _ (.inl rfl) e,c⟩,r⟩
 |R0 L M=>obtain⟨t,u,v,e⟩:=x;show⟨t,u,v,k _ _ (.inl rfl) e⟩
 |iP g u G=>obtain⟨e,q⟩:=x;show⟨k _ _ (.inl rfl) e,G q⟩
 |mZ D=>
  have e:h.get? a=some {cls:= .none,data:= .fields D}:=x;change h'.get? a=some {cls:= .none,data:= .fields D};show k a _ (.inl rfl) e
 |met f y=>
  have e:h.get? a=some (PySem.W.methodObj (.ref f) (.ref y)):=x;change h'.get? a=some (PySem.W.methodObj (.ref f) (.ref y));show k a _ (.inl rfl) e
 |ext φ=>obtain⟨p,⟨o,e⟩,B⟩:=x;show⟨B _ _ p λo q=>k _ _ (.inl rfl) q,⟨o,k _ _ (.inl rfl) e⟩,B⟩
def jJ.lt(x:jJ P w H h)(e:H a=some o):a<h.objs.size:=(x a o e).lt
def jJ.fresh(x:jJ P w H h)(e:h.objs.size<=a):H a=none:=by
 cases q:H a with
 |none=>rfl
 |some u=>show absurd (XR (x.lt q) e) (YM _)
def jJ.kept(x:jJ P w H h)(k:∀b u,h.get? b=some u->h'.get? b=some u):jJ P w H h':=λa o e=>
 (x a o e).rZ (λb u _ q=>k b u q) (λ_ q=>q) λ_ _ q=>q
def jJ.laid(x:jJ P w H h)(k:∀b u,h.get? b=some u->h'.get? b=some u)(g:h.objs.size<=a)(new:eH P w (upd H a o) h' a o):jJ P w (upd H a o) h':=λb u e=>by
 let d:=x.fresh g;by_cases f:b=a
 . subst f;rw[bf]at e;cases e;show new
 rw[aF f]at e;show(x b u e).rZ (λc v _ q=>k c v q) (λc q=>by rw[aF (eJ q d)];show q) λc i q=>by rw[aF (eJ q d)];show q
end
def Rd(H:Hp)(a:Addr)(u:HO):Prop:=H a=some u\/∃o,H a=some (.iP o u)
def Rd.of(h:H a=some u):Rd H a u:= .inl h
def Rd.ok(r:Rd H a u)(x:jJ P w H h):eH P w H h a u:=by
 rcases r with r|⟨o,r⟩
 . show x a u r
 obtain⟨_,q⟩:=x a _ r;show q
def NT:Option HO->Prop
 |some (.lst _)=>True
 |some (.dK _)=>True
 |some (.dT _)=>True
 |some (.set _ _)=>True
 |some (.ins _ _ _)=>True
 |some (.ext _)=>True
 |_=>False
section
variable {P:Program}{w:World}{H:Hp}{h h':Heap}{x e:Addr}{o':HO}
def jJ.write(ok:jJ P w H h)(mu:NT (H x))(n:e=x\/H e=some (.own x))(k:∀b u,b≠e->h.get? b=some u->h'.get? b=some u)(l:∃u,h'.get? e=some u)
 (new:eH P w (upd H x o') h' x o'):jJ P w (upd H x o') h':=λb u q=>by
 let d:∀c y,H c=some (.own y)->c≠x:=λc y r z=>by subst z;rw[r]at mu;show mu
 let f:∀c g,H c=some (.tup g)->c≠x:=λc g r z=>by subst z;rw[r]at mu;show mu
 by_cases j:b=x
 . subst j;rw[bf]at q;cases q;show new
 rw[aF j]at q;by_cases a:b=e
 . have m:H b=some (.own x):=by
    rcases n with z|z
    . show absurd (a.trans z) j
    rw[a];show z
   rw[q]at m;cases m;obtain⟨v,o⟩:=l;show⟨v,by rw[a];show o⟩
 show(ok b u q).rZ (λc v i r=>k c v ?_ r) (λc r=>by rw[aF (d c b r)];show r) λc g r=>by rw[aF (f c g r)];show r
 rcases i with rfl|i
 . show a
 rintro rfl;rcases n with z|z
 . show d c b i z
 rw[i]at z;cases z;show j rfl
end
structure Un(fs ex:List Addr)(H H':Hp)(h h':Heap):Prop where
 keep:∀b o,h.get? b=some o->H b=none->b∉fs->b∉ex->h'.get? b=some o
 slot:∀b o,h.get? b=some o->H b=none->b∈fs->b∉ex->∃sl,h'.get? b=some {o with slots:=sl}
 free:∀b o,h.get? b=some o->H b=none->b∉ex->H' b=none
 there:∀b o,h.get? b=some o->b∉ex->∃o',h'.get? b=some o'
 rG:∀b xs,H b=some (.tup xs)->H' b=some (.tup xs)
 qM:∀b o u,H b=some (.iP o u)->H' b=some (.iP o u)
 p_:∀b ps,H b=some (.mZ ps)->∃more,H' b=some (.mZ (ps++more))
section
variable {fs fs' ex ex':List Addr}{H H1 H2:Hp}{h h1 h2 h':Heap}{a x e:Addr}{o:HO}
def Un.any(u:Un fs ex H H1 h h1)(q:h.get? b=some c)(n:H b=none)(d:b∉ex):∃g,h1.get? b=some {c with slots:=g}:=by
 by_cases f:b∈fs
 . show u.slot b c q n f d
 show⟨c.slots,u.keep b c q n f d⟩
def Un.kept(k:∀b u,h.get? b=some u->h'.get? b=some u):Un fs ex H H h h':=
 ⟨λb c q _ _ _=>k b c q,λb c q _ _ _=>⟨c.slots,k b c q⟩,λ_ _ _ n _=>n,λb c q _=>⟨c,k b c q⟩,λ_ _ q=>q,λ_ _ _ q=>q,λ_ d q=>⟨#[],by rw[q];simp⟩⟩
def Un.refl:Un fs ex H H h h:=Un.kept λ_ _ q=>q
def Un.laid(k:∀b u,h.get? b=some u->h'.get? b=some u)(f:h.objs.size<=a)(c:H a=none):Un fs ex H (upd H a o) h h' where
 keep:=λb u q _ _ _=>k b u q
 slot:=λb u q _ _ _=>⟨u.slots,k b u q⟩
 free:=λb u q n _=>by rw[aF (X_ (XR (XQ q) f))];show n
 there:=λb u q _=>⟨u,k b u q⟩
 rG:=λb d q=>by rw[aF (eJ q c)];show q
 qM:=λb u d q=>by rw[aF (eJ q c)];show q
 p_:=λb g q=>⟨#[],by rw[aF (eJ q c),q];simp⟩
def Un.write(mu:NT (H x))(l:e=x\/H e=some (.own x))(k:∀b u,b≠e->h.get? b=some u->h'.get? b=some u)(f:∃u,h'.get? e=some u):Un fs ex H (upd H x o) h h':=by
 let g:∀b,H b=none->b≠x:=λb n z=>by subst z;rw[n]at mu;show mu
 let i:∀b,H b=none->b≠e:=λb n z=>by
  subst z;rcases l with r|r
  . show g b n r
  rw[n]at r;cases r
 let d:∀b u,H b=some u->¬NT (some u)->b≠x:=λb u q nm z=>by subst z;rw[q]at mu;show nm mu
 show⟨λb u q n _ _=>k b u (i b n) q,λb u q n _ _=>⟨u.slots,k b u (i b n) q⟩,λb u q n _=>by rw[aF (g b n)];show n,λb u q _=>?_,
  λb j q=>by rw[aF (d b _ q λz=>z)];show q,λb u j q=>by rw[aF (d b _ q λz=>z)];show q,λb m q=>⟨#[],by rw[aF (d b _ q λz=>z),q];simp⟩⟩
 by_cases c:b=e
 . subst c;show f
 show⟨u,k b u c q⟩
end
def Ob(h:Heap)(H:Hp):List Addr:=(List.range h.objs.size).filter λa=>(H a).isSome
def rR(h:Heap)(H:Hp):Heap:=PySem.W.hideAll h (Ob h H)
def IP(h:Heap)(H:Hp):(rR h H).objs.size=h.objs.size:=PySem.W.hideAll_size _ _
def tw{h:Heap}(e:h.get? b=some o)(n:H b=none):(rR h H).get? b=some o:=
 PySem.W.hideAll_get _ e λa=>by
  let q:(H b).isSome=true:=(List.mem_filter.mp a).2;rw[n]at q;simp at q
def Qx{h:Heap}(e:(rR h H).get? b=some o):h.get? b=some o/\H b=none:=by
 let a:h.get? b=some o:=PySem.W.of_hideAll (Ob h H) e;show⟨a,?_⟩;cases q:H b with
 |none=>rfl
 |some x=>
  have c:b∈Ob h H:=List.mem_filter.mpr ⟨YW.mpr (XQ a),by simp[q]⟩;let z:(rR h H).get? b=none:=PySem.W.hideAll_none (Ob h H) c;rw[z]at e;cases e
def PV(g h:Heap)(L:Addr):List (Addr×Obj):=(List.range h.objs.size).filterMap λa=>if a=L\/(g.get? a).isSome=true then none else(h.get? a).map λo=>(a,o)
def rest(g h:Heap)(L d:Addr):List (Addr×Obj):=(PV g h L).filter λp=>decide (p.1≠d)
structure Mod(K:PySem.W.Frag)(mg:Str->Option Value)(base:Heap):Prop where
 KL:K.In base
 glob:base.Ns mainGlobals mg
 blt:∃mb,base.Ns builtinsNs mb/\∀x:Str,x≠"__name__"->mb x=bootBuiltins x
 nolimit:base.NoLimit
 seer:base.NoSeer
 bmain:∃bm ob,mg "__builtins__"=some (.ref bm)/\bm≠builtinsNs/\base.get? bm=some ob/\ob.cls= .type "module"/\ob.dict=some builtinsNs/\ob.data= .plain
structure Cx where
 prog:Program
 w:World
 K:PySem.W.Frag
 mg:Str->Option Value
 base:Heap
 A:Around
 N:List Str
 s₀:Shared
 H₀:Hp
 env:Env
 outer:List Env
 stack:List Env
 ex:List Addr
 fn:Str->Bool
 calm:Bool
 pn:List (Addr×Obj)
 xe:Value->Shared->Prop
def sy(l:List Env):List Addr:=l.filterMap (·.frame)
abbrev Cx.fs(X:Cx):List Addr:=sy X.outer
def CY(a:Scope)(x:Str):Prop:=a.names.lookup x=some .local\/a.names.lookup x=some .cell\/a.names.lookup x=some .free
def Loc(a:Scope)(x:Str):Prop:=a.names.lookup x=some .local\/a.names.lookup x=some .cell
def Look(env:Env)(h:Heap)(m:Str->Option Value)(x:Str)(u:Value):Prop:=
 (env.kindOf x=some .local/\m x=some u)\/((env.kindOf x=some .cell\/env.kindOf x=some .free)/\∃c,env.cells.lookup x=some c/\h.IsCell c (some u))
structure Cx.Ok(X:Cx):Prop where
 mod:Mod X.K X.mg X.base
 kind:X.env.scope.kind= .function
 glob:X.env.globals=mainGlobals
 blt:X.env.builtins=builtinsNs
 above:X.s₀.heap.objs.size<=X.env.locals
 inj:∀x y c,X.env.cells.lookup x=some c->X.env.cells.lookup y=some c->x=y
 has:∀x,(X.env.kindOf x=some .cell\/X.env.kindOf x=some .free)->∃c,X.env.cells.lookup x=some c
 CI:∀x c,X.fn x=true->X.env.cells.lookup x=some c->X.s₀.heap.objs.size<=c
 hd:X.calm=true->X.A.handled=none
 frames:X.A.frames=some X.stack
 Gw:X.stack=X.outer\/(X.stack=X.env::X.outer/\X.env.frame=some X.env.locals)
 Jd:∀b∈X.ex,b≠X.env.locals/\∀x c,X.env.cells.lookup x=some c->c≠b
 bs:∀b o,X.base.get? b=some o->X.s₀.heap.get? b=some o/\X.H₀ b=none
 vt:X.base.objs.size<=X.s₀.heap.objs.size
 xN:∀b o,X.base.get? b=some o->b∉X.ex
 xT:∀b∈X.ex,b∉X.fs
 nO:X.s₀.heap.FunFrames X.base X.outer
 zt:∀b∈X.fs,X.H₀ b=none
 gt:X.prog.given.tree=none
structure Inv(X:Cx)(pins:List (Addr×Obj))(σ:List (Option V))(H:Hp)(s:Shared):Prop where
 ok:X.Ok
 os:s.os=X.s₀.os
 bare:AllBare s.gens
 base:Un X.fs X.ex X.H₀ H X.s₀.heap s.heap
 loc:∃m,s.heap.Ns X.env.locals m/\∀(i:Nat) (x:Str) (v:V),X.N[i]?=some x->σ[i]?=some (some v)->CY X.env.scope x->∃u,RelV v u/\Look X.env s.heap m x u
 cell:∀x c,X.env.cells.lookup x=some c->∃v,s.heap.IsCell c v
 free:H X.env.locals=none
 kj:∀x c,X.env.cells.lookup x=some c->H c=none
 pin:∀p∈X.pn++pins,s.heap.get? p.1=some p.2/\H p.1=none/\p.1≠X.env.locals/\p.1∉X.fs/\∀v,p.2.data≠ .cell v
 aO:jJ X.prog X.w H s.heap
 len:σ.length=X.N.length
section
variable {X:Cx}{pins:List (Addr×Obj)}{σ:List (Option V)}{H H':Hp}{s:Shared}{h':Heap}
def Cx.Ok.WE(ok:X.Ok)(e:X.base.get? b=some o):b∉X.fs:=λa=>by
 let:=(ok.nO.mem a).1;rw[e]at this;cases this
def Inv.bs(I:Inv X pins σ H s):∀b o,X.base.get? b=some o->s.heap.get? b=some o/\H b=none:=λb o e=>
 ⟨I.base.keep b o (I.ok.bs b o e).1 (I.ok.bs b o e).2 (I.ok.WE e) (I.ok.xN b o e),I.base.free b o (I.ok.bs b o e).1 (I.ok.bs b o e).2 (I.ok.xN b o e)⟩
def Inv.bk(I:Inv X pins σ H s):∀b o,X.base.get? b=some o->s.heap.get? b=some o:=λb o e=>(I.bs b o e).1
def Inv.mod(I:Inv X pins σ H s):Mod X.K X.mg X.base:=I.ok.mod
def Inv.iQ(I:Inv X pins σ H s):X.K.In s.heap:=I.ok.mod.KL.keeps I.bk
def Inv.nolimit(I:Inv X pins σ H s):s.heap.NoLimit:=I.ok.mod.nolimit.keeps I.bk
def Inv.lt(I:Inv X pins σ H s):X.env.locals<s.heap.objs.size:=let⟨_,hn,_⟩:=I.loc;hn.lt
def Inv.sz(I:Inv X pins σ H s):X.s₀.heap.objs.size<=s.heap.objs.size:=Xy I.ok.above (YN I.lt)
def Inv.Tq(I:Inv X pins σ H s){a:Addr}(h:s.heap.objs.size<=a):a∉X.fs:=λc=>by
 obtain⟨_,o,b,_⟩:=I.ok.nO.mem c;show absurd (XR (XQ b) (Xy I.sz h)) (YM _)
def Inv.Dl(I:Inv X pins σ H s):∀x c,X.env.cells.lookup x=some c->c≠X.env.locals:=λx c e z=>by
 obtain⟨v,o,d,f⟩:=I.cell x c e;obtain⟨m,⟨g,h,i,a,b,_⟩,_⟩:=I.loc;rw[z,a]at d;cases d;rw[b]at f;cases f
def Inv.nO(I:Inv X pins σ H s):s.heap.FunFrames X.base X.outer:=by
 let all:∀(l:List Env),(∀b∈sy l,b∈X.fs)->X.s₀.heap.FunFrames X.base l->s.heap.FunFrames X.base l:=by
  intro l;induction l with
  |nil=>intro _ _;trivial
  |cons n r g=>
   intro f k;obtain⟨hk,⟨L,o,a,j,i,m⟩,h⟩:=k;let d:L∈X.fs:=f L (by unfold sy;rw[aah,a];show XX);obtain⟨p,e⟩:=I.base.slot L o i (I.ok.zt L d) d λz=>I.ok.xT L z d;show⟨hk,⟨L,_,a,j,e,m⟩,g (λb c=>f b (by unfold sy;rw[aah,a];show XN _ c)) h⟩
 show all X.outer (λ_ c=>c) I.ok.nO
def Inv.stack(I:Inv X pins σ H s):s.heap.FunFrames X.base X.stack:=by
 rcases I.ok.Gw with e|⟨e,b⟩
 . rw[e];show I.nO
 rw[e];obtain⟨m,a,_⟩:=I.loc;show .cons (by rw[I.ok.kind];decide) b a ?_ I.nO;show Heap.get?_none_of_le (Xy I.ok.vt I.ok.above)
def Inv.EE(I:Inv X pins σ H s):∀b∈sy X.stack,b∈X.env.locals::X.fs:=λb a=>by
 rcases I.ok.Gw with e|⟨e,c⟩
 . rw[e]at a;show XN _ a
 rw[e]at a;unfold sy at a;rw[aah,c]at a;show a
def Inv.zz(I:Inv X pins σ H s):∀b∈sy X.stack,H b=none:=λb a=>by
 rcases XU.mp (I.EE b a)with e|a
 . rw[e];show I.free
 obtain⟨_,o,c,_⟩:=I.ok.nO.mem a;show I.base.free b o c (I.ok.zt b a) λz=>I.ok.xT b z a
def Inv.step{g':Array GenState}{t':Nat}{d':Drawn}{ch:List Addr}(I:Inv X pins σ H s)
 (g:∀b∈ch,(b∈X.ex\/X.s₀.heap.objs.size<=b)/\b≠X.env.locals/\(∀x c,X.env.cells.lookup x=some c->c≠b)/\∀p∈X.pn++pins,p.1≠b)
 (keep:∀b o,b≠X.env.locals->b∉X.fs->b∉ch->s.heap.get? b=some o->H b=none->h'.get? b=some o)
 (slot:∀b o,b≠X.env.locals->b∈X.fs->b∉ch->s.heap.get? b=some o->H b=none->∃E,h'.get? b=some {o with slots:=E}) (free:∀b o,b∉ch->s.heap.get? b=some o->H b=none->H' b=none)
 (there:∀b o,b∉ch->s.heap.get? b=some o->∃o',h'.get? b=some o')
 (rG:∀b xs,H b=some (.tup xs)->H' b=some (.tup xs)) (qM:∀b o u,H b=some (.iP o u)->H' b=some (.iP o u)) (p_:∀b C,H b=some (.mZ C)->∃A,H' b=some (.mZ (C++A)))
 (ns:∀m,s.heap.Ns X.env.locals m->h'.Ns X.env.locals m) (S:jJ X.prog X.w H' h') (Q:AllBare g'):
 Inv X pins σ H' {s with heap:=h',gens:=g',drawn:=d',toks:=t'}:=by
 let y:∀b o,X.s₀.heap.get? b=some o->b≠X.env.locals:=λb o e=>X_ (XR (XQ e) I.ok.above)
 let h:∀b o,X.s₀.heap.get? b=some o->b∉X.ex->b∉ch:=λb o e a t=>by
  rcases(g b t).1 with z|z
  . show a z
  show absurd (XR (XQ e) z) (YM _)
 let cellK:∀x c,X.env.cells.lookup x=some c->∀v,s.heap.IsCell c v->h'.IsCell c v:=λx c e v ⟨o,w,F⟩=>by
  let f:c∉ch:=λz=>(g c z).2.2.1 x c e rfl;by_cases L:c∈X.fs
  . obtain⟨E,q⟩:=slot c o (I.Dl x c e) L f w (I.kj x c e);show⟨_,q,F⟩
  show⟨o,keep c o (I.Dl x c e) L f w (I.kj x c e),F⟩
 show⟨I.ok,I.os,Q,⟨λb o e n t a=>?_,λb o e n t a=>?_,λb o e n a=>?_,λb o e a=>?_,λb xs e=>rG b xs (I.base.rG b xs e),λb o xs e=>qM b o xs (I.base.qM b o xs e),λb C e=>?_⟩,?_,λx c e=>?_,?_,λx c e=>?_,λp K=>?_,S,I.len⟩
 . show keep b o (y b o e) t (h b o e a) (I.base.keep b o e n t a) (I.base.free b o e n a)
 . obtain⟨E,j⟩:=I.base.slot b o e n t a;obtain⟨D,B⟩:=slot b _ (y b o e) t (h b o e a) j (I.base.free b o e n a);show⟨D,B⟩
 . obtain⟨o',j⟩:=I.base.there b o e a;show free b o' (h b o e a) j (I.base.free b o e n a)
 . obtain⟨o',j⟩:=I.base.there b o e a;show there b o' (h b o e a) j
 . obtain⟨N,j⟩:=I.base.p_ b C e;obtain⟨M,B⟩:=p_ b _ j;show⟨N++M,by rw[B,Array.append_assoc]⟩
 . obtain⟨m,O,P⟩:=I.loc;show⟨m,ns m O,λi x v j B R=>?_⟩;obtain⟨u,r,l⟩:=P i x v j B R;show⟨u,r,?_⟩;rcases l with l|⟨k,c,e,z⟩
   . show .inl l
   show .inr ⟨k,c,e,cellK x c e _ z⟩
 . obtain⟨v,z⟩:=I.cell x c e;show⟨v,cellK x c e v z⟩
 . obtain⟨m,⟨o,_,_,w,_⟩,_⟩:=I.loc;show free _ o (λz=>(g _ z).2.1 rfl) w I.free
 . obtain⟨v,o,w,F⟩:=I.cell x c e;show free c o (λz=>(g c z).2.2.1 x c e rfl) w (I.kj x c e)
 obtain⟨e,n,J,G,d⟩:=I.pin p K;let f:p.1∉ch:=λz=>(g p.1 z).2.2.2 p K rfl;show⟨keep p.1 p.2 J G f e n,free p.1 p.2 f e n,J,G,d⟩
def Inv.un(I:Inv X pins σ H s)(u:Un X.fs [] H H' s.heap h')(k:jJ X.prog X.w H' h'):Inv X pins σ H' {s with heap:=h',toks:=t'}:=by
 obtain⟨m,⟨o,t,v,g,r⟩,_⟩:=id I.loc;obtain⟨l,j⟩:=u.any g I.free (by simp)
 show I.step (g':=s.gens) (d':=s.drawn) (ch:=[]) (λ_ z=>nomatch z) (λb o _ c _ e n=>u.keep b o e n c (by simp)) (λb o _ c _ e n=>u.slot b o e n c (by simp)) (λb o _ e n=>u.free b o e n (by simp)) (λb o _ e=>u.there b o e (by simp)) u.rG u.qM u.p_ (λq i=>by
  obtain⟨p,d,f,a,h⟩:=i;rw[g]at a;cases a;show⟨_,d,f,j,h⟩) k I.bare
def Inv.call(I:Inv X pins σ H s)(u:Un (sy X.stack) ch H H' s.heap h')(v:jJ X.prog X.w H' h')(q:AllBare g')
 (f:∀b∈ch,(b∈X.ex\/X.s₀.heap.objs.size<=b)/\b≠X.env.locals/\(∀x c,X.env.cells.lookup x=some c->c≠b)/\∀p∈X.pn++pins,p.1≠b):
 Inv X pins σ H' {s with heap:=h',gens:=g',drawn:=d',toks:=t'}:=by
 obtain⟨m,⟨o,B,C,j,r⟩,_⟩:=id I.loc;obtain⟨w,g⟩:=u.any j I.free λz=>(f _ z).2.1 rfl
 show I.step (ch:=ch) f (λb o g t a e n=>u.keep b o e n (λz=>(XU.mp (I.EE b z)).elim g t) a) (λb o _ _ a e n=>u.any e n a) (λb o a e n=>u.free b o e n a) (λb o a e=>u.there b o e a) u.rG u.qM u.p_ (λA l=>by
  obtain⟨y,h,i,d,k⟩:=l;rw[j]at d;cases d;show⟨_,h,i,g,k⟩) v q
def Inv.turned(I:Inv X pins σ H s)(k:∀b o,b≠it->s.heap.get? b=some o->h'.get? b=some o)(h:H it=none)(f:it≠X.env.locals)
 (w:it∈X.ex\/X.s₀.heap.objs.size<=it) (t:∀x c,X.env.cells.lookup x=some c->c≠it) (l:∀p∈X.pn++pins,p.1≠it):Inv X pins σ H {s with heap:=h',toks:=t'}:=by
 let d:∀b u,H b=some u->b≠it:=λb u e z=>by rw[z,h]at e;cases e
 show I.step (g':=s.gens) (d':=s.drawn) (ch:=[it]) (λb j=>?_) (λb o _ _ a e _=>k b o (λz=>a (by simp[z])) e) (λb o _ _ a e _=>⟨o.slots,k b o (λz=>a (by simp[z])) e⟩) (λ_ _ _ _ n=>n)
  (λb o a e=>⟨o,k b o (λz=>a (by simp[z])) e⟩) (λ_ _ e=>e) (λ_ _ _ e=>e) (λb B e=>⟨#[],by rw[e];simp⟩) (λm i=>?_) (λb u e=>?_) I.bare
 . have e:b=it:=by simpa using j
   subst e;show⟨w,f,t,l⟩
 . obtain⟨o,y,A,g,r⟩:=i;show⟨o,y,A,k _ o (XI f) g,r⟩
 show(I.aO b u e).rZ (λc v a q=>k c v ?_ q) (λ_ q=>q) λ_ _ q=>q;rcases a with z|z
 . rw[z];show d b u e
 show d c _ z
def Inv.tok(I:Inv X pins σ H s)(t:Nat):Inv X pins σ H {s with toks:=t}:=I.un (h':=s.heap) (t':=t) Un.refl I.aO
def Inv.kept(I:Inv X pins σ H s)(k:∀b u,s.heap.get? b=some u->h'.get? b=some u):Inv X pins σ H {s with heap:=h',toks:=t'}:=I.un (Un.kept k) (I.aO.kept k)
def Inv.laid{a:Addr}{o:HO}{t':Nat}(I:Inv X pins σ H s)(k:∀b u,s.heap.get? b=some u->h'.get? b=some u)(c:s.heap.objs.size<=a)(new:eH X.prog X.w (upd H a o) h' a o):
 Inv X pins σ (upd H a o) {s with heap:=h',toks:=t'}:=I.un (Un.laid k c (I.aO.fresh c)) (I.aO.laid k c new)
def Inv.write{x e:Addr}(I:Inv X pins σ H s)(mu:NT (H x))(c:e=x\/H e=some (.own x))(k:∀b u,b≠e->s.heap.get? b=some u->h'.get? b=some u)(a:∃u,h'.get? e=some u)
 (new:eH X.prog X.w (upd H x o) h' x o):Inv X pins σ (upd H x o) {s with heap:=h',toks:=t'}:=I.un (Un.write mu c k a) (I.aO.write mu c k a new)
def Inv.vQ(I:Inv X pins σ H s)(h:∀p∈a,s.heap.get? p.1=some p.2/\H p.1=none/\p.1≠X.env.locals/\p.1∉X.fs/\∀v,p.2.data≠ .cell v):Inv X a σ H s:=
 ⟨I.ok,I.os,I.bare,I.base,I.loc,I.cell,I.free,I.kj,λp b=>(Yn.mp b).elim (λz=>I.pin p (YU _ z)) (h p),I.aO,I.len⟩
def C0{N:List Str}(c:N.Nodup){i j:Nat}{x:Str}(a:N[i]?=some x)(b:N[j]?=some x):i=j:=by
 obtain⟨g,e⟩:=Xs.mp a;obtain⟨f,d⟩:=Xs.mp b;show(List.getElem_inj c).mp (e.trans d.symm)
def Bi(I:Inv X pins σ H s)(hN:X.N.Nodup)(L:X.N[i]?=some x)(t:Loc X.env.scope x)(r:RelV v u)
 (h:∀s',Inv X pins (σ.set i (some v)) H s'->(∃a,Heap.SameBut a s.heap s'.heap/\(a=X.env.locals\/X.env.cells.lookup x=some a))->Q .unit s') (hf:X.fn x=true\/X.env.scope.names.lookup x=some .local:=by first|show .inl rfl|show .inr rfl|assumption):wpAny M A (storeName X.env x u) Q E s:=by
 obtain⟨m,hn,hl⟩:=id I.loc;let N:(X.env.scope.kind== .class||(X.env.scope.kind== .module&&X.env.locals != X.env.globals))=false:=by rw[I.ok.kind];rfl
 let K:i<σ.length:=by rw[I.len];show(Xs.mp L).1
 let Dl:=I.Dl
 let tracked:∀ {a:Addr} {h':Heap},(∃o,s.heap.get? a=some o/\H a=none)->Heap.SameBut a s.heap h'->jJ X.prog X.w H h':=λ{a h'} ha f b ob e=>by
  obtain⟨_,_,w⟩:=ha;show(I.aO b ob e).rZ (λc R l q=>(f.2 c ?_).trans q) (λ_ q=>q) λ_ _ q=>q;rintro rfl;rcases l with rfl|l
  . rw[w]at e;cases e
  rw[w]at l;cases l
 rcases t with hk|hk
 . show wpAny_storeName_local hk hn (λh' ah f=>?_) N;obtain⟨oL,_,_,ab,_⟩:=id hn;show h _ ⟨I.ok,I.os,I.bare,⟨λb o e n F t=>?_,λb o e n F t=>?_,I.base.free,λb o e t=>?_,I.base.rG,I.base.qM,I.base.p_⟩,⟨_,ah,λj y U g B e3=>?_⟩,λy c e=>?_,I.free,I.kj,λp hp=>?_,tracked ⟨oL,ab,I.free⟩ f,by simpa using I.len⟩ ⟨_,f,.inl rfl⟩
   . show(f.2 b (X_ (XR (XQ e) I.ok.above))).trans (I.base.keep b o e n F t)
   . obtain⟨Y,g⟩:=I.base.slot b o e n F t;show⟨Y,(f.2 b (X_ (XR (XQ e) I.ok.above))).trans g⟩
   . obtain⟨o',g⟩:=I.base.there b o e t;show⟨o',(f.2 b (X_ (XR (XQ e) I.ok.above))).trans g⟩
   . by_cases C:j=i
     . subst C;rw[L]at g;cases g;rw[XE K]at B;cases B;show⟨u,r,.inl ⟨hk,by simp⟩⟩
     rw[Xu (XI C)]at B;obtain⟨W,Z,q⟩:=hl j y U g B e3;show⟨W,Z,?_⟩;rcases q with⟨k,e⟩|⟨k,c,e,z⟩
     . show .inl ⟨k,?_⟩;let:y≠x:=λe=>C (C0 hN g (e▸L));simp[this,e]
     show .inr ⟨k,c,e,z.sameBut f (Dl y c e)⟩
   . obtain⟨R,z⟩:=I.cell y c e;show⟨R,z.sameBut f (Dl y c e)⟩
   obtain⟨e,n,S,nf,d⟩:=I.pin p hp;show⟨(f.2 p.1 S).trans e,n,S,nf,d⟩
 have D:X.fn x=true:=by
  rcases hf with z|z
  . show z
  rw[z]at hk;cases hk
 obtain⟨c,l⟩:=I.ok.has x (.inl hk);obtain⟨R,z⟩:=I.cell x c l;show wpAny_storeName_cell I.ok.kind hk l z (λh' P f=>?_);obtain⟨oc,J,G⟩:=id z;show h {s with heap:=h'} ⟨I.ok,I.os,I.bare,⟨λb o e n F t=>?_,λb o e n F t=>?_,I.base.free,λb o e t=>?_,I.base.rG,I.base.qM,I.base.p_⟩,⟨m,hn.sameBut f (XI (Dl x c l)),λj y U g B e3=>?_⟩,λy T e=>?_,I.free,I.kj,λp hp=>?_,tracked ⟨oc,J,I.kj x c l⟩ f,by simpa using I.len⟩ ⟨c,f,.inr l⟩
 . show(f.2 b (X_ (XR (XQ e) (I.ok.CI x c D l)))).trans (I.base.keep b o e n F t)
 . obtain⟨Y,g⟩:=I.base.slot b o e n F t;show⟨Y,(f.2 b (X_ (XR (XQ e) (I.ok.CI x c D l)))).trans g⟩
 . obtain⟨o',g⟩:=I.base.there b o e t;show⟨o',(f.2 b (X_ (XR (XQ e) (I.ok.CI x c D l)))).trans g⟩
 . by_cases C:j=i
   . subst C;rw[L]at g;cases g;rw[XE K]at B;cases B;show⟨u,r,.inr ⟨.inl hk,c,l,P⟩⟩
   rw[Xu (XI C)]at B;obtain⟨W,Z,q⟩:=hl j y U g B e3;show⟨W,Z,?_⟩;rcases q with q|⟨k,T,e,z'⟩
   . show .inl q
   show .inr ⟨k,T,e,z'.sameBut f ?_⟩;rintro rfl;show C (C0 hN g (I.ok.inj _ _ _ e l▸L))
 . by_cases O:T=c
   . subst O;show⟨_,P⟩
   obtain⟨w2,z2⟩:=I.cell y T e;show⟨w2,z2.sameBut f O⟩
 obtain⟨e,n,S,nf,d⟩:=I.pin p hp;show⟨(f.2 p.1 ?_).trans e,n,S,nf,d⟩;intro q;rw[q,J]at e;let q':oc=p.2:=Yx e;show d R (by rw[<-q'];show G)
def qw(I:Inv X pins σ H s)(d:X.N.Nodup)(b:X.N[i]?=some x)(a:Loc X.env.scope x)(r:RelV v u)
 (h:∀s',Inv X pins (σ.set i (some v)) H s'->Q .unit s') (c:X.fn x=true\/X.env.scope.names.lookup x=some .local:=by first|show .inl rfl|show .inr rfl|assumption):wpAny M A (storeName X.env x u) Q E s:=
 Bi I d b a r (λs' e _=>h s' e) c
def Inv.Hi{s':Shared}(I:Inv X pins σ H s)(f:s'.os=s.os)(u:Un (sy X.stack) ch H H' s.heap s'.heap)(h:jJ X.prog X.w H' s'.heap)(g:AllBare s'.gens)
 (a:∀b∈ch,(b∈X.ex\/X.s₀.heap.objs.size<=b)/\b≠X.env.locals/\(∀x c,X.env.cells.lookup x=some c->c≠b)/\∀p∈X.pn++pins,p.1≠b):Inv X pins σ H' s':=by
 obtain⟨h',g',d',t',d⟩:=s';let e:d=s.os:=f;subst e;show I.call (g':=g') (t':=t') (d':=d') u h g a
end
abbrev XK:=Value->Option Addr->Hp->Prop
abbrev St:=List (Option V)
abbrev VK:=V->Hp->Prop
abbrev TE:=St->Hp->VK->Prop
abbrev TT:=St->Hp->(Bool->Hp->Prop)->Prop
abbrev TA:=St->Hp->(List V->Hp->Prop)->Prop
structure Ends where
 nx:St->Hp->Prop
 rt:VK
 bk:St->Hp->Prop:=λ_ _=>False
 ct:St->Hp->Prop:=λ_ _=>False
abbrev TS:=Ends->St->Hp->Prop
def EP(X:Cx)(pins:List (Addr×Obj))(σ:St)(Q:VK)(u:Value)(s':Shared):Prop:=∃v a,Inv X pins σ a s'/\RelV v u/\Q v a
def TP(X:Cx)(pins:List (Addr×Obj))(σ:St)(Q:Bool->Hp->Prop)(b:Bool)(s':Shared):Prop:=∃a,Inv X pins σ a s'/\Q b a
def AP(X:Cx)(pins:List (Addr×Obj))(σ:St)(Q:List V->Hp->Prop)(us:List Value)(s':Shared):Prop:=∃a b,Inv X pins σ b s'/\Vals a us/\Q a b
def SP(X:Cx)(pins:List (Addr×Obj))(D:Ends)(f:Flow)(s':Shared):Prop:=
 match f with
 | .next=>∃b a,Inv X pins b a s'/\D.nx b a
 | .brk=>∃b a,Inv X pins b a s'/\D.bk b a
 | .cont=>∃b a,Inv X pins b a s'/\D.ct b a
 | .ret u=>∃v b a,Inv X pins b a s'/\RelV v u/\D.rt v a
def PE(X:Cx)(e:Expr)(t:TE):Prop:=
 ∀(a:List (Addr×Obj)) (s:Shared) (σ:St) (H:Hp) (Q:VK),Inv X a σ H s->t σ H Q->wpAny (model X.prog X.w) X.A (eval e X.env) (EP X a σ Q) X.xe s
def PT(X:Cx)(e:Expr)(t:TT):Prop:=
 ∀(a:List (Addr×Obj)) (s:Shared) (σ:St) (H:Hp) (Q:Bool->Hp->Prop),Inv X a σ H s->t σ H Q->wpAny (model X.prog X.w) X.A (isTrue e X.env (eval e X.env)) (TP X a σ Q) X.xe s
def PW(X:Cx)(e:Expr)(t:TT):Prop:=
 ∀(whole:Sem Value) (pins:List (Addr×Obj)) (s:Shared) (σ:St) (H:Hp) (Q:Bool->Hp->Prop),Inv X pins σ H s->t σ H Q->wpAny (model X.prog X.w) X.A (isTrue e X.env whole) (TP X pins σ Q) X.xe s
def PW.pt{e:Expr}(h:PW X e t):PT X e t:=h _
def PA(X:Cx)(a:List Expr)(t:TA):Prop:=
 ∀(pos:Pos) (pins:List (Addr×Obj)) (s:Shared) (σ:St) (H:Hp) (Q:List V->Hp->Prop),Inv X pins σ H s->t σ H Q->wpAny (model X.prog X.w) X.A (spliced (backTo pos (starEach a X.env))) (AP X pins σ Q) X.xe s
def PS(X:Cx)(st:Stmt)(t:TS):Prop:=
 ∀(a:List (Addr×Obj)) (s:Shared) (σ:St) (H:Hp) (D:Ends),Inv X a σ H s->t D σ H->wpAny (model X.prog X.w) X.A (exec st X.env) (SP X a D) X.xe s
def jo(X:Cx)(st:List Stmt)(t:TS):Prop:=
 ∀(a:List (Addr×Obj)) (s:Shared) (σ:St) (H:Hp) (D:Ends),Inv X a σ H s->t D σ H->wpAny (model X.prog X.w) X.A (execs st X.env) (SP X a D) X.xe s
def cp(h:wpAny M A t Q E s)(c:∀a s,Q a s->b a s):wpAny M A t b E s:=Y3 h c λ_ _ x=>x
section
variable {X:Cx}
def Ta(i:Nat):TE:=λσ H Q=>∃v,σ[i]?=some (some v)/\Q v H
def tC(v:V):TE:=λ_ H Q=>Q v H
def Ru{i:Nat}{x:Str}{pos:Pos}(q:X.N[i]?=some x)(k:CY X.env.scope x)(f:(x==("__debug__":Str))=false:=by decide)(g:(x==("__classdict__":Str))=false:=by decide):PE X (.Name x pos) (Ta i):=by
 intro d s σ H Q I h;obtain⟨v,e,h⟩:=h;obtain⟨m,n,p⟩:=I.loc;obtain⟨u,r,l⟩:=p i x v q e k;let b:EP X d σ Q u s:=⟨v,H,I,r,h⟩
 rcases l with⟨hk,o⟩|⟨hk,c,j,a⟩
 . show wpAny_Name (wpAny_loadName_local I.ok.kind hk n o b) f
 rcases hk with hk|hk
 . show wpAny_Name (wpAny_loadName_cell I.ok.kind hk j a b) f
 show wpAny_Name (wpAny_loadName_free I.ok.kind hk j a b g) f
def To{i j pos}:PE X (.Constant (.int i) j pos) (tC (.int i)):=λ_ _ _ H _ I h=>wpAny_Constant_int ⟨.int i,H,I.tok _,⟨_,rfl⟩,h⟩
def UN{b j pos}:PE X (.Constant (.bool b) j pos) (tC (.bl b)):=λ_ _ _ H _ I h=>Constant_bool ⟨.bl b,H,I,rfl,h⟩
def Sb{j pos}:PE X (.Constant .none j pos) (tC .av):=λ_ _ _ H _ I h=>Constant_none ⟨.av,H,I,rfl,h⟩
def RK{x j pos}:PE X (.Constant (.str x) j pos) (tC (.str x)):=λ_ _ _ H _ I h=>Calls.Constant_str ⟨.str x,H,I.tok _,⟨_,rfl⟩,h⟩
def Gl(X:Cx)(x:Str):Prop:=X.env.kindOf x=some .globalImplicit
def AE{E:Value->Shared->Prop}{pins:List (Addr×Obj)}{s:Shared}{σ:St}{H:Hp}{x:Str}{u:Value}{pos:Pos}{Q:Value->Shared->Prop}(I:Inv X pins σ H s)(b:Gl X x)(a:X.mg x=some u)(h:Q u s)
 (c:(x==("__debug__":Str))=false:=by decide):wpAny (model X.prog X.w) X.A (eval (.Name x pos) X.env) Q E s:=
 aa8 I.ok.kind b (Calls.loadGlobal_global (by rw[I.ok.glob];show I.mod.glob.keeps I.bk) a h) c
def nH{E:Value->Shared->Prop}{pins:List (Addr×Obj)}{s:Shared}{σ:St}{H:Hp}{x:Str}{u:Value}{pos:Pos}{Q:Value->Shared->Prop}(I:Inv X pins σ H s)(d:Gl X x)(c:X.mg x=none)(a:bootBuiltins x=some u)(h:Q u s)
 (b:x≠"__name__":=by decide) (e:(x==("__debug__":Str))=false:=by decide):wpAny (model X.prog X.w) X.A (eval (.Name x pos) X.env) Q E s:=by
 obtain⟨i,g,f⟩:=I.mod.blt;show aa8 I.ok.kind d (Calls.loadGlobal_builtin (by rw[I.ok.glob];show I.mod.glob.keeps I.bk) c (by rw[I.ok.blt];show g.keeps I.bk) ((f x b).trans a) h) e
def Pk{x:Str}{v:V}{u:Value}{pos:Pos}(d:Gl X x)(c:X.mg x=none)(a:bootBuiltins x=some u)(r:RelV v u)(b:x≠"__name__":=by decide)(e:(x==("__debug__":Str))=false:=by decide):PE X (.Name x pos) (tC v):=
 λ_ _ _ H _ I h=>nH I d c a ⟨v,H,I,r,h⟩ b e
variable {a b:Expr}{ta tb:TE}{pos:Pos}
def tB(t:TE):TT:=λσ H Q=>t σ H λx H1=>∃c,x= .bl c/\Q c H1
def SE{e:Expr}(h:PE X e t)(j:∀whole,isTrue e X.env whole=(do let v <-whole;standAt e.pos;holding [v] (truthy v)):=by intro _;rfl):PT X e (tB t):=by
 intro c s σ H Q I i;show isTrue_plain (cp (h c s σ H _ I i) λv l ⟨x,H1,k,f,g⟩=>?_) (j _);obtain⟨d,rfl,q⟩:=g;cases f;show YY ⟨H1,k,q⟩
variable {tA tB':TT}{rest:List Expr}
def QD(t u:TT):TT:=λσ H Q=>t σ H λc H1=>if c=true then u σ H1 Q else Q false H1
def VA(t u:TT):TT:=λσ H Q=>t σ H λc H1=>if c=true then Q true H1 else u σ H1 Q
def WL(t:TT):TT:=λσ H Q=>t σ H λc H1=>Q (!c) H1
def pw_and1(f:PT X a tA):PW X (.BoolOp .And [a] pos) tA:=by
 intro g d s σ H Q I h;show isTrue_and (cp (f d s σ H Q I h) λc i e=>?_);cases c with
 |true=>show isTrue_and_nil e
 |false=>show e
def pw_or1(f:PT X a tA):PW X (.BoolOp .Or [a] pos) tA:=by
 intro g d s σ H Q I h;show isTrue_or (cp (f d s σ H Q I h) λc i e=>?_);cases c with
 |false=>show isTrue_or_nil e
 |true=>show e
def pw_and(k:PT X a tA)(j:PW X (.BoolOp .And (b::rest) pos) tB'):PW X (.BoolOp .And (a::b::rest) pos) (QD tA tB'):=by
 intro g d s σ H Q I h;show isTrue_and (cp (k d s σ H _ I h) λc i ⟨H1,f,e⟩=>?_);cases c with
 |true=>show j g d i σ H1 Q f e
 |false=>show⟨H1,f,e⟩
def pw_or(k:PT X a tA)(j:PW X (.BoolOp .Or (b::rest) pos) tB'):PW X (.BoolOp .Or (a::b::rest) pos) (VA tA tB'):=by
 intro g d s σ H Q I h;show isTrue_or (cp (k d s σ H _ I h) λc i ⟨H1,f,e⟩=>?_);cases c with
 |true=>show⟨H1,f,e⟩
 |false=>show j g d i σ H1 Q f e
def Q5(e:PT X a tA):PT X (.UnaryOp .Not a pos) (WL tA):=by
 intro d s σ H Q I h;show isTrue_not (e d s σ H (λc H1=>Q (!c) H1) I h)
def T8(ta tb:TE):TE:=λσ H Q=>ta σ H λx H1=>∃c,x= .bl c/\if c=true then tb σ H1 Q else Q (.bl false) H1
def WB(ta tb:TE):TE:=λσ H Q=>ta σ H λx H1=>∃c,x= .bl c/\if c=true then Q (.bl true) H1 else tb σ H1 Q
def UE(ta:TE):TE:=λσ H Q=>ta σ H λx H1=>∃c,x= .bl c/\Q (.bl (!c)) H1
def Rn{op}(h:PE X a t):PE X (.BoolOp op [a] pos) t:=λc s σ H Q I d=>BoolOp_one (h c s σ H Q I d)
def QF(k:PE X a ta)(j:PE X (.BoolOp .And (b::rest) pos) tb):PE X (.BoolOp .And (a::b::rest) pos) (T8 ta tb):=by
 intro d s σ H Q I h;show BoolOp_and (cp (k d s σ H _ I h) λv g ⟨x,H1,f,i,e⟩=>?_);obtain⟨c,rfl,e⟩:=e;cases i;show YY ?_;cases c with
 |true=>show j d g σ H1 Q f e
 |false=>show⟨.bl false,H1,f,rfl,e⟩
def UP(k:PE X a ta)(j:PE X (.BoolOp .Or (b::rest) pos) tb):PE X (.BoolOp .Or (a::b::rest) pos) (WB ta tb):=by
 intro d s σ H Q I h;show BoolOp_or (cp (k d s σ H _ I h) λv g ⟨x,H1,f,i,e⟩=>?_);obtain⟨c,rfl,e⟩:=e;cases i;show YY ?_;cases c with
 |false=>show j d g σ H1 Q f e
 |true=>show⟨.bl true,H1,f,rfl,e⟩
def S0(g:PE X a ta):PE X (.UnaryOp .Not a pos) (UE ta):=by
 intro d s σ H Q I h;show UnaryOp_ (cp (g d s σ H _ I h) λv j ⟨x,H1,i,f,e⟩=>?_);obtain⟨c,rfl,e⟩:=e;cases f;show not_of (YY ⟨.bl (!c),H1,i,rfl,e⟩)
def Xa(t:TT)(ta tb:TE):TE:=λσ H Q=>t σ H λc H1=>if c=true then ta σ H1 Q else tb σ H1 Q
def Mr(j:PT X c tA)(l:PE X a ta)(k:PE X b tb):PE X (.IfExp c a b pos) (Xa tA ta tb):=by
 intro e s σ H Q I h;show wpAny_IfExp (cp (j e s σ H _ I h) λd f ⟨H1,i,g⟩=>?_);cases d with
 |true=>show l e f σ H1 Q i g
 |false=>show k e f σ H1 Q i g
end
def oQ(K:PySem.W.Frag)(H:Hp)(a:Addr)(xs:List V):Prop:=
 Rd H a (.lst xs)\/
  ∃(o:Obj) (aq:Array Value) (n:Nat),K.lookup a=some o/\o.cls= .type "list"/\o.dict=none/\o.data= .seq aq n/\aq.size<=sizeLine/\Vals xs aq.toList
def kY(K:PySem.W.Frag)(H:Hp)(a:Addr)(xs:List V):Prop:=
 Rd H a (.tup xs)\/
  ∃(o:Obj) (aq:Array Value) (n:Nat),K.lookup a=some o/\o.cls= .type "tuple"/\o.data= .seq aq n/\aq.size<=sizeLine/\Vals xs aq.toList
def WT:Value->Option V
 | .none=>some .av
 | .bool b=>some (.bl b)
 | .int i _=>some (.int i)
 | .str x _=>some (.str x)
 | .bytes b _=>some (.wM b)
 | .float b _=>some (.wX b)
 | .ref a=>some (.ref a)
 | .type n=>some (.ty n)
 |_=>none
def RelV.abs(r:RelV x u):WT u=some x:=by
 cases x with
 |av=>cases r;rfl
 |bl _=>cases r;rfl
 |int _=>obtain⟨t,rfl⟩:=r;rfl
 |str _=>obtain⟨t,rfl⟩:=r;rfl
 |wM _=>obtain⟨t,rfl⟩:=r;rfl
 |wX _=>obtain⟨t,rfl⟩:=r;rfl
 |ref _=>cases r;rfl
 |ty _=>cases r;rfl
def RelV.inj(r:RelV x u)(q:RelV y u):x=y:=Yx (r.abs.symm.trans q.abs)
def Vals.inj:∀ {xs ys:List V} {us:List Value},Vals xs us->Vals ys us->xs=ys
 |_,_,_,.nil,.nil=>rfl
 |_,_,_,.cons r t,.cons b a=>by rw[r.inj b,Vals.inj t a]
section
variable {X:Cx}{pins:List (Addr×Obj)}{σ:St}{H:Hp}{s:Shared}{a:Addr}{xs ys:List V}
def oQ.of{K:PySem.W.Frag}(h:H a=some (.lst xs)):oQ K H a xs:= .inl (.inl h)
def kY.of{K:PySem.W.Frag}(h:H a=some (.tup xs)):kY K H a xs:= .inl (.inl h)
def Inv.list(I:Inv X pins σ H s)(h:oQ X.K H a xs):∃aq:List Value,Vals xs aq/\PlainL s.heap a aq.toArray/\xs.length<=sizeLine:=by
 rcases h with h|⟨o,aq,n,hk,d,c,b,f,r⟩
 . obtain⟨z,aq,n,r,e⟩:=h.ok I.aO;show⟨aq,r,⟨_,n,e,rfl,rfl,rfl⟩,z⟩
 show⟨aq.toList,r,⟨o,n,I.iQ a o hk,d,c,by simpa using b⟩,?_⟩;let e:=r.length;simp![ZN]at e;lia
def Inv.tuple(I:Inv X pins σ H s)(h:kY X.K H a xs):∃aq:List Value,Vals xs aq/\IsTup s.heap a aq.toArray/\xs.length<=sizeLine:=by
 rcases h with h|⟨o,aq,n,hk,c,b,d,r⟩
 . obtain⟨z,aq,r,p⟩:=h.ok I.aO;show⟨aq,r,p,z⟩
 show⟨aq.toList,r,⟨o,I.iQ a o hk,c,n,by simpa using b⟩,?_⟩;let e:=r.length;simp![ZN]at e;lia
def Inv.EN(I:Inv X pins σ H s)(h:oQ X.K H a xs)(h':oQ X.K H a ys):xs=ys:=by
 obtain⟨i,r,⟨o,n,e,_,_,d⟩,_⟩:=I.list h;obtain⟨b,g,⟨j,k,c,_,_,f⟩,_⟩:=I.list h';rw[e]at c;cases c;rw[d]at f;injection f with d1 _;let:i=b:=by simpa using YK Array.toList d1
 subst this;show r.inj g
def Inv.AN(I:Inv X pins σ H s)(h:kY X.K H a xs)(h':kY X.K H a ys):xs=ys:=by
 obtain⟨i,r,⟨o,e,_,n,d⟩,_⟩:=I.tuple h;obtain⟨b,g,⟨j,c,_,k,f⟩,_⟩:=I.tuple h';rw[e]at c;cases c;rw[d]at f;injection f with d1 _;let:i=b:=by simpa using YK Array.toList d1
 subst this;show r.inj g
end
abbrev Cx.r8(X:Cx)(E:Value->Shared->Prop):Cx:={X with xe:=E}
abbrev Cx.wG(X:Cx):Cx:=X.r8 λ_ _=>False
def Cx.Ok.r8{X:Cx}(ok:X.Ok)(E:Value->Shared->Prop):(X.r8 E).Ok:=
 ⟨ok.mod,ok.kind,ok.glob,ok.blt,ok.above,ok.inj,ok.has,ok.CI,ok.hd,ok.frames,ok.Gw,ok.Jd,ok.bs,ok.vt,ok.xN,ok.xT,ok.nO,ok.zt,ok.gt⟩
def Cx.Ok.oJ{X:Cx}(ok:(X.r8 E).Ok):X.Ok:=
 ⟨ok.mod,ok.kind,ok.glob,ok.blt,ok.above,ok.inj,ok.has,ok.CI,ok.hd,ok.frames,ok.Gw,ok.Jd,ok.bs,ok.vt,ok.xN,ok.xT,ok.nO,ok.zt,ok.gt⟩
section
variable {X:Cx}{pins:List (Addr×Obj)}{σ:St}{H:Hp}{s:Shared}{E:Value->Shared->Prop}
def Inv.r8(I:Inv X pins σ H s)(E:Value->Shared->Prop):Inv (X.r8 E) pins σ H s:=⟨I.ok.r8 E,I.os,I.bare,I.base,I.loc,I.cell,I.free,I.kj,I.pin,I.aO,I.len⟩
def Inv.oJ(I:Inv (X.r8 E) pins σ H s):Inv X pins σ H s:=⟨I.ok.oJ,I.os,I.bare,I.base,I.loc,I.cell,I.free,I.kj,I.pin,I.aO,I.len⟩
def SP.oJ{D:Ends}(h:SP (X.r8 E) pins D f s'):SP X pins D f s':=by
 cases f with
 |next=>obtain⟨a,b,I,q⟩:=h;show⟨a,b,I.oJ,q⟩
 |brk=>obtain⟨a,b,I,q⟩:=h;show⟨a,b,I.oJ,q⟩
 |cont=>obtain⟨a,b,I,q⟩:=h;show⟨a,b,I.oJ,q⟩
 |ret u=>obtain⟨v,a,b,I,r,q⟩:=h;show⟨v,a,b,I.oJ,r,q⟩
def jo.wG{st:List Stmt}{t:TS}(h:jo X.wG st t):jo X st t:=λpins s σ H D I a=>
 Y3 (h pins s σ H D (I.r8 _) a) (λ_ _ q=>q.oJ) λ_ _ z=>False.elim z
end
section
variable {X:Cx}{st:Stmt}{rest:List Stmt}{t u:TS}{e:Expr}{te:TE}{pos:Pos}
def Um:TS:=λD σ H=>D.nx σ H
def Wc(t u:TS):TS:=λD σ H=>t {D with nx:=u D} σ H
def OP:jo X [] Um:=λ_ _ σ H _ I h=>aaK ⟨σ,H,I,h⟩
def LU(g:PS X st t)(d:jo X rest u):jo X (st::rest) (Wc t u):=by
 intro a s σ H D I h;show wpAny_execs_cons (cp (g a s σ H {D with nx:=u D} I h) λf c q=>?_);cases f with
 |next=>
  obtain⟨b,j,i,q⟩:=q;show d a c b j D i q
 |ret v=>show q
 |brk=>show q
 |cont=>show q
def OO(b:PS X st t):jo X [st] t:=by
 intro a s σ H D I h;show wpAny_execs_cons (cp (b a s σ H D I h) λf c q=>?_);cases f with
 |next=>show aaK q
 |ret v=>show q
 |brk=>show q
 |cont=>show q
def Inv.quiet{pins:List (Addr×Obj)}{σ:St}{H:Hp}{s:Shared}(I:Inv X pins σ H s):interactive X.env=false:=by simp[interactive,I.ok.kind]
def UH(te:TE):TS:=λD σ H=>te σ H λ_ H1=>D.nx σ H1
def PH(d:PE X e te)(c:swapsWith e none pos.line X.env=pure false:=by rfl):PS X (.Expr e pos) (UH te):=by
 intro a s σ H D I h;show wpAny_Expr_any (cp (d a s σ H _ I h) λv g ⟨x,H1,f,i,b⟩=>⟨σ,H1,f,b⟩) I.quiet c
def Ws(te:TE):TS:=λD σ H=>te σ H D.rt
def Q8(d:PE X e te):PS X (.Return (some e) pos) (Ws te):=by
 intro a s σ H D I h;show wpAny_Return_some (cp (d a s σ H _ I h) λv g ⟨x,H1,f,b,c⟩=>⟨x,σ,H1,f,b,c⟩)
def WQ(c:TT)(t u:TS):TS:=λD σ H=>c σ H λb H1=>if b=true then t D σ H1 else u D σ H1
def Vo{g:TT}(l:PT X c g)(n:jo X a t)(m:jo X b u):PS X (.If c a b pos) (WQ g t u):=by
 intro f s σ H D I h;show wpAny_If (cp (l f s σ H _ I h) λd i ⟨H1,k,j⟩=>?_);cases d with
 |true=>show n f i σ H1 D k j
 |false=>show m f i σ H1 D k j
end
abbrev TG:=V->St->Hp->(St->Hp->Prop)->Prop
abbrev Eh:=List V->St->Hp->(St->Hp->Prop)->Prop
def PG(X:Cx)(target:Expr)(t:TG):Prop:=
 ∀(a:List (Addr×Obj)) (s:Shared) (σ:St) (H:Hp) (v:V) (u:Value) (Q:St->Hp->Prop),Inv X a σ H s->RelV v u->t v σ H Q->
  wpAny (model X.prog X.w) X.A (assign target X.env u) (λ_ d=>∃b c,Inv X a b c d/\Q b c) X.xe s
def NK(X:Cx)(ts:List Expr)(t:Eh):Prop:=
 ∀(a:List (Addr×Obj)) (s:Shared) (σ:St) (H:Hp) (vs:List V) (us:List Value) (Q:St->Hp->Prop),Inv X a σ H s->Vals vs us->t vs σ H Q->
  wpAny (model X.prog X.w) X.A (assignInOrder ((assignEach ts X.env).map (·.2)) us) (λ_ d=>∃b c,Inv X a b c d/\Q b c) X.xe s
abbrev Eg:=V->V->V->Hp->(Hp->Prop)->Prop
def MV(X:Cx)(t:Eg):Prop:=
 ∀(a:List (Addr×Obj)) (s:Shared) (σ:St) (H:Hp) (o i v:V) (ov iv u:Value) (Q:Hp->Prop),Inv X a σ H s->RelV o ov->RelV i iv->RelV v u->t o i v H Q->
  wpAny (model X.prog X.w) X.A (setItem ov iv u) (λ_ c=>∃b,Inv X a σ b c/\Q b) X.xe s
abbrev FC:=V->V->Hp->VK->Prop
def Gh(X:Cx)(op:Operator)(t:FC):Prop:=
 ∀(a:List (Addr×Obj)) (s:Shared) (σ:St) (H:Hp) (x y:V) (v u:Value) (Q:VK),Inv X a σ H s->RelV x v->RelV y u->t x y H Q->
  wpAny (model X.prog X.w) X.A (inplaceOp op v u) (EP X a σ Q) X.xe s
section
variable {X:Cx}{pos:Pos}
def h_(i:Nat):TG:=λv σ H Q=>Q (σ.set i (some v)) H
def ji(e:X.N.Nodup)(c:X.N[i]?=some x)(b:Loc X.env.scope x)(d:X.fn x=true\/X.env.scope.names.lookup x=some .local:=by first|show .inl rfl|show .inr rfl|assumption):PG X (.Name x pos) (h_ i):=by
 intro a s σ H v u Q I r h;show wpAny_assign_Name (qw I e c b r (λg f=>⟨_,H,f,h⟩) d)
def Hm:Eh:=λa σ H Q=>a=[]/\Q σ H
def nC(t:TG)(u:Eh):Eh:=λb σ H Q=>∃v r,b=v::r/\t v σ H λa c=>u r a c Q
def Am:NK X [] Hm:=by
 intro a s σ H b c Q I r h;obtain⟨e,h⟩:=h;subst e;cases r;show assignInOrder_nil ⟨σ,H,I,h⟩
def iN{e:Expr}(k:PG X e t)(j:NK X b u)
 (i:(assignEach (e::b) X.env).map (·.2)=assign e X.env::(assignEach b X.env).map (·.2):=by rfl):NK X (e::b) (nC t u):=by
 intro a s σ H n p Q I r h;obtain⟨v,o,l,h⟩:=h;subst l;cases r with
 |cons r f=>
  rw[i];show aa1 (cp (k a s σ H _ _ _ I r h) λ_ d ⟨c,H1,m,g⟩=>?_);show j a d c H1 _ _ Q m f g
def Ib(K:PySem.W.Frag)(n:Nat)(t:Eh):TG:=λv σ H Q=>∃a b,v= .ref a/\kY K H a b/\b.length=n/\t b σ H Q
def Eo{k:Nat}(x:X.calm=true)(h:NK X d t)
 (q:(assignEach d X.env).length=n:=by rfl) (g:(assignEach d X.env).findIdx? (·.1)=none:=by rfl):PG X (.Tuple d k pos) (Ib X.K n t):=by
 intro c s σ H v u Q I r f;obtain⟨a,j,z,p,w,f⟩:=f;subst z;cases r;obtain⟨C,i,m,B⟩:=I.tuple p;show assign_Tuple_tuple (I.ok.hd x) m (by simp[q,<-w,i.length]) g λy l=>?_;let A:Inv X c σ H {s with heap:=y}:=I.kept (t':=s.toks) λb o e=>l b o (X_ (XQ e)) e;show h c _ σ H j _ Q A (by simpa using i) f
def Iu(to a:TE)(t:Eg):TG:=λv σ H Q=>to σ H λo H1=>a σ H1 λi c=>t o i v c λb=>Q σ b
def QA(m:PE X o to)(n:PE X i b)(l:MV X t)
 (p:∀v,assign (.Subscript o i pos) X.env v=(do
   let ov <-holding [v] (eval o X.env)
   let iv <-holding [v,ov] (eval i X.env)
   standAt pos
   holding [v,ov,iv] (setItem ov iv v)
   release [v,ov,iv] []):=by intro _;rfl):PG X (.Subscript o i pos) (Iu to b t):=by
 intro a s σ H v u Q I r h;rw[p];show Xw (Zx (cp (m a s σ H _ I h) λov d ⟨x,H1,z,f,k⟩=>?_));show Xw (Zx (cp (n a d σ H1 _ z k) λiv c ⟨y,B,w,e,j⟩=>?_));show Xw (aaF (Xw (Zx (cp (l a c σ B x y v ov iv u _ w f e r j) λ_ C ⟨A,q,g⟩=>?_))));show wpAny_release ⟨σ,A,q,g⟩
def qg(a:TE)(g:TG):TS:=λD σ H=>a σ H λx H1=>g x σ H1 D.nx
def Kb{b e:Expr}{g:TG}(m:PE X e c)(l:PG X b g)(k:swapsWithSole [b] e pos.line X.env=pure false:=by rfl)(j:swappedStores [b] e X.env=pure none:=by rfl)
 (n:(assignEach [b] X.env).map (·.2)=[assign b X.env]:=by rfl):PS X (.Assign [b] e pos) (qg c g):=by
 intro a s σ H D I h;show wpAny_Assign_stores (cp (m a s σ H _ I h) λv d ⟨x,H1,o,f,i⟩=>?_) k j;rw[n];show cp (l a d σ H1 x v _ o f i) λ_ p q=>q
def Th{e:Expr}(n:X.N.Nodup)(k:X.N[i]?=some x)(g:Loc X.env.scope x)(m:PE X e c)(j:swapsWith e (some (.Name x a)) pos.line X.env=pure false:=by rfl)(l:X.fn x=true\/X.env.scope.names.lookup x=some .local:=by first|show .inl rfl|show .inr rfl|assumption):
 PS X (.Assign [.Name x a] e pos) (qg c (h_ i)):=by
 intro b s σ H D I h;show wpAny_Assign_Name (cp (m b s σ H _ I h) λv r ⟨y,H1,p,d,f⟩=>?_) j;show qw p n k g d (λq o=>⟨_,H1,o,f⟩) l
def Q4(i j:Nat)(b:TA):TS:=λD σ H=>b σ H λa H1=>∃v w,a=[v,w]/\D.nx ((σ.set i (some v)).set j (some w)) H1
def RJ{kt k2 pt2}(P:X.calm=true)(B:X.N.Nodup)(O:X.N[i]?=some x)(N:X.N[j]?=some y)(t:i≠j)
 (A:X.env.scope.names.lookup x=some .local) (z:X.env.scope.names.lookup y=some .local) (Q:PA X [a,b] u)
 (L:swappedStores [.Tuple [.Name x n,.Name y m] kt pt] (.Tuple [a,b] k2 pt2) X.env=pure (some [x,y]))
 (M:swapsWithSole [.Tuple [.Name x n,.Name y m] kt pt] (.Tuple [a,b] k2 pt2) pos.line X.env=pure false:=by rfl):
 PS X (.Assign [.Tuple [.Name x n,.Name y m] kt pt] (.Tuple [a,b] k2 pt2) pos) (Q4 i j u):=by
 intro c s σ H D I h;rw[exec_Assign_arm];show Xw (aaF ?_);rw[M];show Xw (XM ?_);rw[Xx ⋯];show Xw (Tuple_ (cp (Q _ c s σ H _ I h) λE g ⟨W,H1,V,G,l⟩=>?_));obtain⟨v,w,R,l⟩:=l;subst R
 obtain⟨f,d,rfl,F,k⟩:∃f d,E=[f,d]/\RelV v f/\RelV w d:=by
  cases G with
  |cons p q=>
   cases q with
   |cons K J=>
    cases J;show⟨_,_,rfl,p,K⟩
 show Zg ?_ (by change 2<=sizeLine;decide);let U:Inv X c σ H1 {g with heap:=g.heap.push {cls:= .type "tuple",data:= .seq [f,d].toArray}}:=V.kept (t':=g.toks) λb o e=>XF _ e;rw[L];show Xw (XM ?_);change wpAny (model X.prog X.w) X.A (do rule "assign.swapped-stores";let items <-unpackItems (.ref g.heap.objs.size) 2 none;assignInOrder [λv=>bindName X.env y v,λv=>bindName X.env x v] items.reverse;pure Flow.next) _ _ _;show Xw (aaq (Xw (unpackItems_tuple (items:= #[f,d]) (I.ok.hd P) (IsTup.new g.heap _) λh' r=>?_)));let T:=U.kept (h':=h') (t':=g.toks) λb o e=>r b o (X_ (XQ e)) e;change wpAny _ _ (assignInOrder [λv=>bindName X.env y v,λv=>bindName X.env x v] [d,f] >>= λ_=>pure Flow.next) _ _ _;show Xw (aa1 (wpAny_bindName (qw T B N (.inl z) k (λZ S=>?_) (.inr z))));show aa1 (wpAny_bindName (qw S B O (.inl A) F (λY C=>assignInOrder_nil (XM ?_)) (.inr A)));rw[List.set_comm _ _ (XI t)]at C;show⟨_,H1,C,l⟩
def TF(i:Nat)(b:TE)(a:FC):TS:=λD σ H=>∃x,σ[i]?=some (some x)/\b σ H λy H1=>a x y H1 λz c=>D.nx (σ.set i (some z)) c
def TH{e:Expr}(P:X.N.Nodup)(o:X.N[i]?=some x)(g:Loc X.env.scope x)(N:PE X e n)(G:Gh X op j)(M:X.fn x=true\/X.env.scope.names.lookup x=some .local:=by first|show .inl rfl|show .inr rfl|assumption):
 PS X (.AugAssign (.Name x d) op e pos) (TF i n j):=by
 intro a s σ H D I h;obtain⟨v,Q,h⟩:=h;obtain⟨m,J,L⟩:=I.loc;let f:CY X.env.scope x:=by rcases g with k|k;show .inl k;show .inr (.inl k)
 obtain⟨u,r,l⟩:=L i x v o Q f;show wpAny_AugAssign_Name ?_
 let p:wpAny (model X.prog X.w) X.A (eval e X.env) (λw t=>wpAny (model X.prog X.w) X.A (inplaceOp op u w) (λr q=>wpAny (model X.prog X.w) X.A (storeName X.env x r) (λ_=>SP X a D .next) X.xe q) X.xe t) X.xe s:=by
  show cp (N a s σ H _ I h) λw A ⟨y,H1,T,C,F⟩=>?_;show cp (G a A σ H1 v y u w _ T r C F) λz Y ⟨V,U,S,B,E⟩=>?_;show qw S P o g B (λW R=>⟨_,U,R,E⟩) M
 rcases l with⟨hk,K⟩|⟨hk,c,O,b⟩
 . show wpAny_loadName_local I.ok.kind hk J K p
 rcases hk with hk|hk
 . show wpAny_loadName_cell I.ok.kind hk O b p
 rcases g with k|k
 . have:X.env.scope.names.lookup x=some .free:=hk;rw[k]at this;cases this
 have:X.env.scope.names.lookup x=some .free:=hk;rw[k]at this;cases this
def Vm(to d e:TE)(b:V->V->Hp->VK->Prop)(c:FC)(a:Eg):TS:=λD σ H=>to σ H λo H1=>d σ H1 λi k=>b o i k λx j=>e σ j λy h=>c x y h λz g=>a o i z g λf=>D.nx σ f
def RT(X:Cx)(t:V->V->Hp->VK->Prop):Prop:=
 ∀(a:List (Addr×Obj)) (s:Shared) (σ:St) (H:Hp) (o i:V) (ov iv:Value) (Q:VK),Inv X a σ H s->RelV o ov->RelV i iv->t o i H Q->
  wpAny (model X.prog X.w) X.A (getItem ov iv) (EP X a σ Q) X.xe s
def Qz{o i e:Expr}{g:Pos}(Q:PE X o to)(R:PE X i n)(S:RT X c)(T:PE X e p)(P:Gh X op j)(O:MV X b)
 (U:∀d f new,augStore i d f new=(do holding [new,d,f] (setItem d f new);release [new,d,f] [];pure .next):=by intros;rfl):PS X (.AugAssign (.Subscript o i g) op e pos) (Vm to n p c j b):=by
 intro a s σ H D I h;show wpAny_AugAssign_SubscriptAny (cp (Q a s σ H _ I h) λd B ⟨m,H1,I1,r,N⟩=>?_) U;show cp (R a B σ H1 _ I1 N) λf A ⟨l,H2,I2,q,M⟩=>?_;show cp (S a A σ H2 m l d f _ I2 r q M) λk z ⟨w,H3,I3,F,L⟩=>?_;show cp (T a z σ H3 _ I3 L) λv y ⟨u,H4,Z,E,K⟩=>?_;show cp (P a y σ H4 w u k v _ Z F E K) λnew x ⟨t,H5,Y,C,J⟩=>?_;show cp (O a x σ H5 m l t d f new _ Y r q C J) λ_ s6 ⟨H6,W,G⟩=>⟨σ,H6,W,G⟩
def I_(f:Int->Int->Int):FC:=λx y H Q=>∃i j,x= .int i/\y= .int j/\Q (.int (f i j)) H
def Lu:Gh X .Add (I_ λi j=>i+j):=by
 intro a s σ H x y v u Q I c b h;obtain⟨i,j,e,d,q⟩:=h;subst e;subst d;obtain⟨t,rfl⟩:=c;obtain⟨f,rfl⟩:=b;show iadd_int ⟨.int _,H,I.tok _,⟨_,rfl⟩,q⟩
def JD(c:TT)(f:TS):TS:=λD σ H=>∃W:Nat->St->Hp->Prop,(∃m,W m σ H)/\∀m σ H,W m σ H->
 c σ H λb H1=>if b=true then∃N:St->Hp->Prop,(∀a e,N a e->∃d,d<m/\W d a e)/\f {D with nx:=N,ct:=N,bk:=D.nx} σ H1 else D.nx σ H1
def Nb(x:PassesOwn (model X.prog X.w) X.A X.env X.xe)(L:PT X c u)(M:jo X d w):PS X (.While c d [] pos) (JD u w):=by
 intro a s σ H D I h;obtain⟨W,⟨K,E⟩,g⟩:=h;show wpAny_While (codeAny_whileLoop (λn J=>∃t B,Inv X a t B J/\W n t B) ?_ K ⟨σ,H,I,E⟩);rintro n G ⟨j,H1,O,C⟩;show Zv x (cp (L a G j H1 _ O (g n j H1 C)) λb F ⟨A,z,l⟩=>?_);cases b with
 |true=>
  obtain⟨N,y,l⟩:=l;rw[XB rfl];show Zv x (cp (M a F j A _ z l) λf P k=>?_);cases f with
  |next=>
   obtain⟨e,i,r,o⟩:=k;obtain⟨p,q,m⟩:=y e i o;show⟨p,q,e,i,r,m⟩
  |cont=>
   obtain⟨e,i,r,o⟩:=k;obtain⟨p,q,m⟩:=y e i o;show⟨p,q,e,i,r,m⟩
  |brk=>show k
  |ret v=>show k
 |false=>
  rw[Xx YB];show aaK ⟨j,A,z,l⟩
end
structure It where
 go:Nat->Hp->Prop
 rf:Nat->Hp->V->Hp->Prop
 stop:Nat->Hp->Prop
def oy(X:Cx)(pins:List (Addr×Obj))(H:Hp)(b:Addr):Prop:=
 H b=none/\b≠X.env.locals/\b∉X.fs/\(b∈X.ex\/X.s₀.heap.objs.size<=b)/\(∀x c,X.env.cells.lookup x=some c->c≠b)/\∀p∈X.pn++pins,p.1≠b
def Inv.xD{X:Cx}{pins:List (Addr×Obj)}{σ:St}{H d:Hp}{s:Shared}{b:Addr}(I:Inv X pins σ H s)(a:s.heap.objs.size<=b)(g:d b=none):oy X pins d b:=by
 show⟨g,ZG (XR I.lt a),I.Tq a,.inr (Xy I.sz a),λx c e z=>?_,λp f z=>?_⟩
 . obtain⟨v,q⟩:=I.cell x c e;show absurd (XR q.lt (by rw[z];show a)) (YM _)
 show absurd (XR (XQ (I.pin p f).1) (by rw[z];show a)) (YM _)
structure Turn(P:Program)(w:World)(K:PySem.W.Frag)(tg:Expr)(J:It)(fp:List Addr)(it:Addr)(tn:Nat->Heap->Prop):Prop where
 mem:it∈fp
 obj:∀i h,tn i h->∀b∈fp,∃o,h.get? b=some o/\∀v,o.data≠ .cell v
 keep:∀i h h',tn i h->(∀b∈fp,∀o,h.get? b=some o->h'.get? b=some o)->tn i h'
 item:∀(X:Cx),X.prog=P->X.w=w->X.K=K->X.calm=true->∀(i:Nat) (pins:List (Addr×Obj)) (s:Shared) (σ:St) (H:Hp) (E:Value->Shared->Prop),Inv X pins σ H s->(∀b∈fp,oy X pins H b)->tn i s.heap->J.go i H->
  wpAny (model P w) X.A (pyNext (.ref it)) (λr s1=>∃u,r=some u/\
   wpAny (model P w) X.A (letOwnedTupleGo tg (.ref it) u) (λ_ s2=>∃x H',Inv X pins σ H' s2/\RelV x u/\J.rf i H x H'/\tn (i+1) s2.heap/\∀b∈fp,H' b=none) E s1) E s
 done:∀(X:Cx),X.prog=P->X.w=w->X.K=K->X.calm=true->∀(i:Nat) (pins:List (Addr×Obj)) (s:Shared) (σ:St) (H:Hp) (E:Value->Shared->Prop),Inv X pins σ H s->(∀b∈fp,oy X pins H b)->tn i s.heap->J.stop i H->
  wpAny (model P w) X.A (pyNext (.ref it)) (λr s1=>r=none/\Inv X pins σ H s1) E s
 self:∀(A:Around) (i:Nat) (s:Shared) (Q:Value->Shared->Prop) (E:Value->Shared->Prop),tn i s.heap->Q (.ref it) s->wpAny (model P w) A (pyIter (.ref it)) Q E s
abbrev TI:=St->Hp->(It->Hp->Prop)->Prop
def ND(X:Cx)(pins:List (Addr×Obj))(σ:St)(e:Expr)(R:It->Hp->Prop)(a:Value)(c:Shared):Prop:=
 ∃(it:Addr) (d:List Addr) (tn:Nat->Heap->Prop) (J:It) (H':Hp),a= .ref it/\Inv X pins σ H' c/\Turn X.prog X.w X.K e J d it tn/\tn 0 c.heap/\(∀b∈d,oy X pins H' b)/\R J H'
def PI(X:Cx)(d b:Expr)(c:TI):Prop:=
 ∀(a:List (Addr×Obj)) (s:Shared) (σ:St) (H:Hp) (R:It->Hp->Prop),Inv X a σ H s->c σ H R->
  wpAny (model X.prog X.w) X.A (eval b X.env) (λv e=>wpAny (model X.prog X.w) X.A (pyIter v) (ND X a σ d R) X.xe e) X.xe s
def Ca{s:Shared}{o:Obj}(c:s.heap.get? it=some o)(f:o.cls= .type n)(e:o.data= .fields vs)
 (d: ["enumerate","zip","dict_itemiterator","dict_reverseitemiterator","odict_iterator","itertools.zip_longest","itertools.pairwise"].contains n=false) (a:Q .unit s):wpAny M A (letOwnedTupleGo b (.ref it) u) Q E s:=by
 unfold letOwnedTupleGo
 cases b<;>first
  |show XM a
  |(cases u<;>first
     |show XM a
     |(show Xw (wpAny_load c ?_)
       rw[f,e];change wpAny M A (if(["enumerate","zip","dict_itemiterator","dict_reverseitemiterator","odict_iterator","itertools.zip_longest","itertools.pairwise"].contains n&&vs[0]?==some (rawInt _))=true then _ else _) Q E s;rw[Xx (by intro h;rw[d,Bool.false_and]at h;cases h)];show XM a))
def QZ(K:PySem.W.Frag)(a:Addr):It:=
 ⟨λi H=>∃b x,oQ K H a b/\b[i]?=some x,λi H x c=>c=H/\∀b,oQ K H a b->b[i]?=some x,λi H=>∃b,oQ K H a b/\b.length<=i⟩
def Sj(K:PySem.W.Frag)(a:Addr):It:=
 ⟨λi H=>∃b x,kY K H a b/\b[i]?=some x,λi H x c=>c=H/\∀b,kY K H a b->b[i]?=some x,λi H=>∃b,kY K H a b/\b.length<=i⟩
def A_(a:Int)(n:Nat):It:=⟨λi _=>i<n,λi H x b=>b=H/\x= .int (a+i),λi _=>n<=i⟩
def Kr{P:Program}{w:World}{K:PySem.W.Frag}{O:Expr}(a it:Addr):Turn P w K O (QZ K a) [it] it (λi h=>h.IsListIter it a i) where
 mem:=by simp
 obj:=λi h f b j=>by
  let e:b=it:=by simpa using j
  subst e;obtain⟨o,e,c,d⟩:=f;show⟨o,e,λv z=>by rw[d]at z;cases z⟩
 keep:=λi h q f k=>f.at λo e=>k it (by simp) o e
 item:=by
  intro X B y C M i g s σ H E I n f A;subst B y C;obtain⟨N,x,m,t⟩:=A;obtain⟨Y,r,p,S⟩:=I.list m;obtain⟨u,U,R⟩:=r.get t;obtain⟨L,J,V,G,F,D⟩:=n it (by simp);show wpAny_pyNext_list_item f p.isList (x:=u) (by simpa using U) λq l Q=>?_;let Z:Inv X g σ H {s with heap:=q}:=I.turned (t':=s.toks) (λb o j e=>(Q.2 b j).trans e) L J G F D;obtain⟨o,e,c,d⟩:=id l;show⟨u,rfl,Ca (s:={s with heap:=q}) e c d ⋯ ⟨x,H,Z,R,⟨rfl,λys T=>by rw[I.EN T m];show t⟩,l,λb j=>(n b j).1⟩⟩
 done:=by
  intro X B y C M i g s σ H E I n f A;subst B y C;obtain⟨N,m,t⟩:=A;obtain⟨Y,r,p,S⟩:=I.list m;obtain⟨L,J,V,G,F,D⟩:=n it (by simp);let hl:=r.length;show wpAny_pyNext_list_end (I.ok.hd M) f p.isList (by simp;lia) λq W=>⟨rfl,I.turned (t':=s.toks) (λb o j e=>W b o j e) L J G F D⟩
 self:=λ_ _ _ _ _ f h=>wpAny_pyIter_listiter f h
def Ip{P:Program}{w:World}{K:PySem.W.Frag}{Q:Expr}(a it:Addr):Turn P w K Q (Sj K a) [it] it (λi h=>h.IsTupleIter it a i) where
 mem:=by simp
 obj:=λi h f b j=>by
  let e:b=it:=by simpa using j
  subst e;obtain⟨o,e,c,d⟩:=f;show⟨o,e,λv z=>by rw[d]at z;cases z⟩
 keep:=λi h q f k=>f.at λo e=>k it (by simp) o e
 item:=by
  intro X B y C N i g s σ H E I n f A;subst B y C;obtain⟨O,x,m,t⟩:=A;obtain⟨M,r,p,T⟩:=I.tuple m;obtain⟨u,V,S⟩:=r.get t;obtain⟨L,J,W,G,F,D⟩:=n it (by simp);show wpAny_pyNext_tuple_item f (show s.heap.IsTuple a M.toArray from p) (x:=u) (by simpa using V) λq l R=>?_;let Z:Inv X g σ H {s with heap:=q}:=I.turned (t':=s.toks) (λb o j e=>(R.2 b j).trans e) L J G F D;obtain⟨o,e,c,d⟩:=id l;show⟨u,rfl,Ca (s:={s with heap:=q}) e c d ⋯ ⟨x,H,Z,S,⟨rfl,λys U=>by rw[I.AN U m];show t⟩,l,λb j=>(n b j).1⟩⟩
 done:=by
  intro X B y C N i g s σ H E I n f A;subst B y C;obtain⟨O,m,t⟩:=A;obtain⟨M,r,p,T⟩:=I.tuple m;obtain⟨L,J,W,G,F,D⟩:=n it (by simp);let hl:=r.length;show wpAny_pyNext_tuple_end (I.ok.hd N) f (show s.heap.IsTuple a M.toArray from p) (by simp;lia) λq Y=>⟨rfl,I.turned (t':=s.toks) (λb o j e=>Y b o j e) L J G F D⟩
 self:=λ_ _ _ _ _ f h=>wpAny_pyIter_tupleiter f h
def Hr{P:Program}{w:World}{K:PySem.W.Frag}{F:Expr}(it:Addr)(g:Int)(n:Nat):Turn P w K F (A_ g n) [it] it (λi h=>IsRangeIter h it (g+(i:Nat)*1) ((n:Int)-(i:Nat)) 1) where
 mem:=by simp
 obj:=λi h a b d=>by
  let e:b=it:=by simpa using d
  subst e
  show⟨_,a,λv z=>by
   let D:Data.fields _=Data.cell v:=z;cases D⟩
 keep:=λi h l a k=>k it (by simp) _ a
 item:=by
  intro X r m u q i c s σ H E I j a p;subst r m u;obtain⟨C,B,L,A,y,x⟩:=j it (by simp);let W:=Walks.range (prog:=X.prog) (w:=X.w) (I.ok.hd q) it g 1 n;show W.item i s _ _ p a λv l tk J f G=>?_;obtain⟨t,rfl⟩:=J;let N:Inv X c σ H {s with heap:=l,toks:=tk}:=I.turned (λb o d e=>G b o (by simpa using d) e) C B A y x;show⟨_,rfl,Ca (s:={s with heap:=l,toks:=tk}) (n:="range_iterator") f rfl rfl ⋯ ⟨.int (g+i),H,N,⟨t,?_⟩,⟨rfl,rfl⟩,f,λb d=>(j b d).1⟩⟩;rw[Int.mul_one]
 done:=by
  intro X r m u q i c s σ H E I j a p;subst r m u;obtain⟨C,B,L,A,y,x⟩:=j it (by simp);show wpAny_pyNext_range_end (I.ok.hd q) a (by let:n<=i:=p;lia) λl M=>⟨rfl,I.turned (t':=s.toks) (λb o d e=>M b o d e) C B A y x⟩
 self:=λ_ _ _ _ _ a h=>wpAny_pyIter_rangeiter a h
section
variable {X:Cx}{tg:Expr}
def CO{pins:List (Addr×Obj)}{σ:St}{H:Hp}{s:Shared}{R:It->Hp->Prop}{E:Value->Shared->Prop}{a c:Int}{t u v:Tok}{tk:Nat}(I:Inv X pins σ H s)(j: -(2^62)<=a)(i:a<2^62)(h: -(2^62)<=c)(g:c<2^62)
 (q:R (A_ a (c-a).toNat) H):wpAny (model X.prog X.w) X.A (pyIter (.ref s.heap.objs.size)) (ND X pins σ tg R) E {s with heap:=s.heap.push {cls:= .type "range",data:= .fields #[.int a t,.int c u,.int 1 v]},toks:=tk}:=by
 show wpAny_pyIter_range (IsRange.new ..) (small_one j i h g) ?_;let d:Inv X pins σ H {s with heap:=s.heap.push {cls:= .type "range",data:= .fields #[.int a t,.int c u,.int 1 v]},toks:=tk}:=I.kept λb o e=>XF _ e
 show⟨(s.heap.push {cls:= .type "range",data:= .fields #[.int a t,.int c u,.int 1 v]}).objs.size,[(s.heap.push {cls:= .type "range",data:= .fields #[.int a t,.int c u,.int 1 v]}).objs.size],_,_,H,rfl,
  d.kept (t':=tk) λb o e=>XF _ e,Hr _ a (c-a).toNat,?_,λb f=>?_,q⟩
 . have l:a+((0:Nat):Int)*1=a:=by simp
   let k:(((c-a).toNat:Nat):Int)-((0:Nat):Int)=Builtin.Range.rangeSize a c 1:=by rw[rangeSize_one];split<;>lia
   change IsRangeIter _ _ (a+((0:Nat):Int)*1) ((((c-a).toNat:Nat):Int)-((0:Nat):Int)) 1;rw[l,k];show X5 _ rfl
 have e:b=(s.heap.push {cls:= .type "range",data:= .fields #[.int a t,.int c u,.int 1 v]}).objs.size:=by simpa using f
 subst e;show d.xD (Xv _) (d.aO.fresh (Xv _))
def GL(b:TA):TI:=λσ H R=>b σ H λa H1=>∃j:Int,a=[.int j]/\ -(2^62)<=j/\j<2^62/\R (A_ 0 j.toNat) H1
def Hz(b:TA):TI:=λσ H R=>b σ H λa H1=>∃i j:Int,a=[.int i,.int j]/\(-(2^62)<=i/\i<2^62/\ -(2^62)<=j/\j<2^62)/\R (A_ i (j-i).toNat) H1
def LB(m:Gl X "range")(l:X.mg "range"=none)(n:PA X [a] d)(k:starEach [a] X.env=[(false,eval a X.env)]:=by rfl):PI X tg (.Call (.Name "range" p) [a] [] pos) (GL d):=by
 intro b s σ H R I h;show Call_ (nH I m l boot_range (YS (cp (n pos b s σ H _ I h) λv w ⟨u,H1,o,g,c⟩=>?_) k rfl));obtain⟨j,e,c,i,q⟩:=c;subst e;cases g with
 |cons r f=>
  cases f;obtain⟨t,rfl⟩:=r;show call_range_1 (CO o () () c i (by simpa using q))
def JX{a b:Expr}{k:TA}{p pos:Pos}(x:Gl X "range")(w:X.mg "range"=none)(y:PA X [a,b] k)(v:starEach [a,b] X.env=[(false,eval a X.env),(false,eval b X.env)]:=by rfl)(d:starEach [b] X.env=[(false,eval b X.env)]:=by rfl):
 PI X tg (.Call (.Name "range" p) [a,b] [] pos) (Hz k):=by
 intro c s σ H R I h;show Call_ (nH I x w boot_range (YS (cp (y pos c s σ H _ I h) λB D ⟨A,H1,z,l,g⟩=>?_) (by rw[v,d]) (by rw[d];rfl)));obtain⟨i,j,e,⟨g,u,o,n⟩,q⟩:=g;subst e;cases l with
 |cons r f=>
  cases f with
  |cons m f=>
   cases f;obtain⟨t,rfl⟩:=r;obtain⟨C,rfl⟩:=m;show call_range_2 (CO z g u o n q)
def SJ(e:TI)(g:TG)(f:TS):TS:=λD σ H=>e σ H λJ H1=>∃W:Nat->Nat->St->Hp->Prop,(∃m,W 0 m σ H1)/\∀i m σ H,W i m σ H->
 (J.stop i H/\D.nx σ H)\/(J.go i H/\∃N:St->Hp->Prop,(∀b a,N b a->∃c,c<m/\W (i+1) c b a)/\∀x a,J.rf i H x a->g x σ a λd h=>f {D with nx:=N,ct:=N,bk:=D.nx} d h)
def vw(fp:List Addr)(h:Heap):List (Addr×Obj):=fp.filterMap λb=>(h.get? b).map λo=>(b,o)
def pQ{h:Heap}(a:b∈fp)(e:h.get? b=some o):(b,o)∈vw fp h:=aak.mpr ⟨b,a,by rw[e];rfl⟩
def Kc{h:Heap}(a:p∈vw fp h):p.1∈fp/\h.get? p.1=some p.2:=by
 obtain⟨b,c,e⟩:=aak.mp a;cases q:h.get? b with
 |none=>rw[q]at e;cases e
 |some o=>
  rw[q]at e;let d:(b,o)=p:=Yx e;subst d;show⟨c,q⟩
def Inv.pinned{pins:List (Addr×Obj)}{σ:St}{H:Hp}{s:Shared}{fp:List Addr}(I:Inv X pins σ H s)(h:∀b∈fp,oy X pins H b)(g:∀b∈fp,∃o,s.heap.get? b=some o/\∀v,o.data≠ .cell v):Inv X (pins++vw fp s.heap) σ H s:=
 I.vQ λp f=>(Yn.mp f).elim (λz=>I.pin p (XY _ z)) λz=>by
  obtain⟨a,e⟩:=Kc z;obtain⟨k,j,i,_⟩:=h p.1 a;obtain⟨o,c,d⟩:=g p.1 a;rw[e]at c;cases c;show⟨e,k,j,i,d⟩
def Inv.jz{pins pl:List (Addr×Obj)}{σ:St}{H:Hp}{s:Shared}(I:Inv X (pins++pl) σ H s):Inv X pins σ H s:=I.vQ λp a=>I.pin p (XY _ (YU _ a))
def RO{k:Expr}{V:TI}{g:TG}(K:PassesOwn (model X.prog X.w) X.A X.env X.xe)(hc:X.calm=true)(hi:PI X tg k V)(hg:PG X tg g)(l:jo X y Z)
 (hs:∀x,foldedSetIterable k X.env x=pure x:=by intro _;rfl):PS X (.For tg k y [] pos) (SJ V g Z):=by
 intro a s σ H D I h;show wpAny_For (cp (hi a s σ H _ I h) λv s1 h1=>cp h1 λab s2 h2=>?_) hs;obtain⟨it,M,Y,J,H2,e,I2,T,P,f2,W,⟨m0,w0⟩,C⟩:=h2;subst e;let j:∀ {t:Hp},(∀b∈M,t b=none)->∀b∈M,oy X a t b:=λhn b l=>⟨hn b l,(f2 b l).2⟩
 show codeAny_forLoop_any (λn s'=>∃i B t,Inv X a B t s'/\Y i s'.heap/\(∀b∈M,t b=none)/\W i n B t) ?_ m0 ⟨0,σ,H2,I2,P,λb l=>(f2 b l).1,w0⟩;rintro n s3 ⟨i,A,O,I3,F,L,w3⟩;rcases C i n A O w3 with⟨E,qn⟩|⟨go,N,hN,step⟩
 . show Zv K (cp (T.done X rfl rfl rfl hc i a s3 A O X.xe I3 (j L) F E) λr s4 ⟨R,I4⟩=>?_);subst R;show aaK ⟨A,O,I4,qn⟩
 show Zv K (cp (T.item X rfl rfl rfl hc i a s3 A O X.xe I3 (j L) F go) λr s4 ⟨u,R,h4⟩=>?_);subst R;show Zv K (cp h4 λ_ s5 ⟨x,H5,I5,r5,y5,z,S⟩=>?_);let U:=I5.pinned (j S) (T.obj _ _ z);show Zv K (cp (hg _ s5 A H5 x u _ U r5 (step x H5 y5)) λ_ s6 ⟨σ6,H6,I6,q6⟩=>?_);show Zv K (cp (l _ s6 σ6 H6 _ I6 q6) λf Q w=>?_)
 let again:∀ {c:St} {q:Hp},Inv X (a++vw M s5.heap) c q Q->N c q->∃m,m<n/\∃i B t,Inv X a B t Q/\Y i Q.heap/\(∀b∈M,t b=none)/\W i m B t:=λ{c q} p G=>by
  obtain⟨m',hm,w7⟩:=hN c q G;show⟨m',hm,i+1,c,q,p.jz,T.keep _ _ _ z λb l o e=>(p.pin (b,o) (XY _ (XY _ (pQ l e)))).1,λb l=>?_,w7⟩;obtain⟨o,e,d⟩:=T.obj _ _ z b l;show(p.pin (b,o) (XY _ (XY _ (pQ l e)))).2.1
 cases f with
 |next=>obtain⟨c,q,p,G⟩:=w;show again p G
 |cont=>obtain⟨c,q,p,G⟩:=w;show again p G
 |brk=>obtain⟨c,q,p,w⟩:=w;show⟨c,q,p.jz,w⟩
 |ret v=>obtain⟨x7,c,q,p,r7,w⟩:=w;show⟨x7,c,q,p.jz,r7,w⟩
end
def kq{c:Int}{n:Nat}{g:TG}{j:TS}{D:Ends}{σ:St}{H:Hp}(Pv:Nat->St->Hp->Prop)(r:Pv 0 σ H)
 (o:∀i σ H,i<n->Pv i σ H->g (.int (c+i)) σ H λd h=>j {D with nx:=Pv (i+1),ct:=Pv (i+1),bk:=D.nx} d h) (q:∀σ H,Pv n σ H->D.nx σ H):
 ∃W:Nat->Nat->St->Hp->Prop,(∃m,W 0 m σ H)/\∀i m σ H,W i m σ H->
  ((A_ c n).stop i H/\D.nx σ H)\/((A_ c n).go i H/\∃N:St->Hp->Prop,(∀f b,N f b->∃k,k<m/\W (i+1) k f b)/\∀x b,(A_ c n).rf i H x b->g x σ b λd h=>j {D with nx:=N,ct:=N,bk:=D.nx} d h):=by
 show⟨λi m σ H=>m=n-i/\i<=n/\Pv i σ H,⟨n,by simp,Yc _,r⟩,?_⟩;rintro i m σ H ⟨rfl,s,p⟩;by_cases a:i<n
 . show .inr ⟨a,Pv (i+1),λf b l=>⟨n-(i+1),by lia,rfl,a,l⟩,λx b y=>?_⟩;obtain⟨e,y⟩:=y;subst e y;show o i σ _ a p
 have e:i=n:=()
 subst e;show .inl ⟨Xv _,q σ H p⟩
abbrev R2:=V->V->Hp->VK->Prop
def cu(X:Cx)(f:Value->Value->Sem Value)(r:R2):Prop:=
 ∀(a:List (Addr×Obj)) (s:Shared) (σ:St) (H:Hp) (x y:V) (v u:Value) (Q:VK),Inv X a σ H s->RelV x v->RelV y u->r x y H Q->
  wpAny (model X.prog X.w) X.A (f v u) (EP X a σ Q) X.xe s
def GC(X:Cx)(f:Value->Sem Value)(r:V->Hp->VK->Prop):Prop:=
 ∀(a:List (Addr×Obj)) (s:Shared) (σ:St) (H:Hp) (x:V) (v:Value) (Q:VK),Inv X a σ H s->RelV x v->r x H Q->
  wpAny (model X.prog X.w) X.A (f v) (EP X a σ Q) X.xe s
def cA(X:Cx)(f:Value)(r:List V->Hp->VK->Prop):Prop:=
 ∀(a:List (Addr×Obj)) (s:Shared) (σ:St) (H:Hp) (xs:List V) (us:List Value) (Q:VK),Inv X a σ H s->Vals xs us->r xs H Q->
  wpAny (model X.prog X.w) X.A (call f us) (EP X a σ Q) X.xe s
def Jq(r:R2)(b a:TE):TE:=λσ H Q=>b σ H λx H1=>a σ H1 λy c=>r x y c Q
def VU(r:V->Hp->VK->Prop)(a:TE):TE:=λσ H Q=>a σ H λx H1=>r x H1 Q
def rI(C:Int->Int->Prop)(g:Int->Int->V):R2:=λx y H Q=>∃i j,x= .int i/\y= .int j/\C i j/\Q (g i j) H
def yr(g:Int->Int->V):R2:=λx y H Q=>∃i j,x= .int i/\y= .int j/\Q (g i j) H
def rU(g:Int->V):V->Hp->VK->Prop:=λx H Q=>∃i,x= .int i/\Q (g i) H
section
variable {X:Cx}{a b c:Expr}{ta tb tc:TE}{pos:Pos}
def Nf(q:PE X a ta)(p:PE X b tb){pins:List (Addr×Obj)}{s:Shared}{σ:St}{H:Hp}{R:V->V->Hp->Prop}(I:Inv X pins σ H s)
 (h:ta σ H λx H1=>tb σ H1 λy d=>R x y d) {Q:Value->Shared->Prop} {f:Value->Value->Sem Value}
 (o:∀v u e x y d,Inv X pins σ d e->RelV x v->RelV y u->R x y d->wpAny (model X.prog X.w) X.A (f v u) Q X.xe e):
 wpAny (model X.prog X.w) X.A (eval a X.env) (λv i=>wpAny (model X.prog X.w) X.A (eval b X.env) (λu g=>wpAny (model X.prog X.w) X.A (f v u) Q X.xe g) X.xe i) X.xe s:=by
 show cp (q pins s σ H _ I h) λv j ⟨x,H1,t,l,n⟩=>?_;show cp (p pins j σ H1 _ t n) λu e ⟨y,d,r,k,m⟩=>?_;show o v u e x y d r l k m
def TJ(i:cu X (binaryOp op) r)(k:PE X a ta)(j:PE X b tb):PE X (.BinOp a op b pos) (Jq r ta tb):=by
 intro d s σ H Q I h;show wpAny_BinOp (Nf k j I h λv u e x y m l g f q=>i d e σ m x y v u Q l g f q)
def U9(i:GC X (unaryOp op) r)(j:PE X a ta):PE X (.UnaryOp op a pos) (VU r ta):=by
 intro d s σ H Q I h;show UnaryOp_ (cp (j d s σ H _ I h) λv e ⟨x,H1,k,f,g⟩=>i d e σ H1 x v Q k f g)
def N9{f:Value->Value->Sem Value}{g:Int->Int->Int}
 (d:∀(i j:Int) (t u:Tok) (s:Shared) (Q:Value->Shared->Prop) (E:Value->Shared->Prop),C i j->Q (.int (g i j) s.toks) {s with toks:=s.toks+1}->wpAny (model X.prog X.w) X.A (f (.int i t) (.int j u)) Q E s):
 cu X f (rI C λi j=> .int (g i j)):=by
 intro e s σ H x y v u Q I m l h;obtain⟨i,j,rfl,rfl,n,q⟩:=h;obtain⟨t,rfl⟩:=m;obtain⟨k,rfl⟩:=l;show d i j t k s _ _ n ⟨.int (g i j),H,I.tok _,⟨_,rfl⟩,q⟩
def RU{f:Value->Value->Sem Value}{g:Int->Int->Int}
 (d:∀(i j:Int) (t u:Tok) (s:Shared) (Q:Value->Shared->Prop) (E:Value->Shared->Prop),Q (.int (g i j) s.toks) {s with toks:=s.toks+1}->wpAny (model X.prog X.w) X.A (f (.int i t) (.int j u)) Q E s):
 cu X f (yr λi j=> .int (g i j)):=by
 intro e s σ H x y v u Q I m l h;obtain⟨i,j,rfl,rfl,q⟩:=h;obtain⟨t,rfl⟩:=m;obtain⟨k,rfl⟩:=l;show d i j t k s _ _ ⟨.int (g i j),H,I.tok _,⟨_,rfl⟩,q⟩
def IK{f:Value->Value->Sem Value}{g:Int->Int->Bool}
 (d:∀(i j:Int) (t u:Tok) (s:Shared) (Q:Value->Shared->Prop) (E:Value->Shared->Prop),Q (.bool (g i j)) s->wpAny (model X.prog X.w) X.A (f (.int i t) (.int j u)) Q E s):
 cu X f (yr λi j=> .bl (g i j)):=by
 intro e s σ H x y v u Q I m l h;obtain⟨i,j,rfl,rfl,q⟩:=h;obtain⟨t,rfl⟩:=m;obtain⟨k,rfl⟩:=l;show d i j t k s _ _ ⟨.bl (g i j),H,I,rfl,q⟩
def Ml(i j:Int):Prop:=0<=j/\j<=1000000/\i.natAbs<2^64
def RL:cu X (binaryOp .Add) (yr λi j=> .int (i+j)):=RU λ_ _ _ _ _ _ _ q=>add_int q
def QK:cu X (binaryOp .Sub) (yr λi j=> .int (i-j)):=RU λ_ _ _ _ _ _ _ q=>sub_int q
def ON:cu X (binaryOp .Mod) (rI (λ_ j=>j≠0) λi j=> .int (i.fmod j)):=N9 λ_ _ _ _ _ _ _ d q=>mod_int' d q
def SN:cu X (binaryOp .Pow) (rI Ml λi j=> .int (i^j.toNat)):=N9 λ_ _ _ _ _ _ _ d q=>pow_int_small d.1 d.2.1 d.2.2 q
def WV{f:Value->Sem Value}{g:Int->Int}
 (d:∀(i:Int) (t:Tok) (s:Shared) (Q:Value->Shared->Prop) (E:Value->Shared->Prop),Q (.int (g i) s.toks) {s with toks:=s.toks+1}->wpAny (model X.prog X.w) X.A (f (.int i t)) Q E s):
 GC X f (rU λi=> .int (g i)):=by
 intro e s σ H x v Q I j h;obtain⟨i,rfl,q⟩:=h;obtain⟨t,rfl⟩:=j;show d i t s _ _ ⟨.int (g i),H,I.tok _,⟨_,rfl⟩,q⟩
def Ro:GC X (unaryOp .USub) (rU λi=> .int (-i)):=WV λ_ _ _ _ _ q=>neg_int q
end
def WA:V->V->Bool
 | .av,.av=>true| .av,.int _=>true| .int _,.av=>true| .av,.bl _=>true| .bl _,.av=>true| .av,.str _=>true| .str _,.av=>true
 | .int _,.int _=>true| .bl _,.bl _=>true| .str _,.str _=>true| .wM _,.wM _=>true
 | .int _,.str _=>true| .str _,.int _=>true| .bl _,.str _=>true| .str _,.bl _=>true
 |_,_=>false
def W_:R2:=λx y H Q=>WA x y=true/\Q (.bl (!decide (x=y))) H
def Pz:decide (V.int i=V.int j)=(i==j):=by
 rw[aaL];simp
def Ry:decide (V.bl i=V.bl j)=(i==j):=by
 rw[aaL];simp
def OX:decide (V.str i=V.str j)=(i==j):=by
 rw[aaL];simp
def Qs{i j:Array UInt8}:decide (V.wM i=V.wM j)=(i.toList==j.toList):=by
 rw[aaL];cases i;cases j;simp
section
variable {X:Cx}{a b c:Expr}{ta tb tc:TE}{pos:Pos}
def fZ{pins:List (Addr×Obj)}{σ:St}{H:Hp}{s:Shared}{Q:VK}{k d:Bool}(I:Inv X pins σ H s)(q:Q (.bl k) H)(e:k=d):EP X pins σ Q (.bool d) s:=by
 subst e;show⟨.bl k,H,I,rfl,q⟩
def Vp:cu X (compareOp .NotEq) W_:=by
 intro k s σ H x y v u Q I g d h;obtain⟨f,q⟩:=h;cases x with
 |av=>
  cases g;cases y with
  |av=>cases d;show PySem.EqNone.ne_none_none (fZ I q (by simp))
  |bl j=>cases d;show PySem.EqNone.ne_none_bool (fZ I q (by simp))
  |int j=>obtain⟨e,rfl⟩:=d;show PySem.EqNone.ne_none_int (fZ I q (by simp))
  |str j=>obtain⟨e,rfl⟩:=d;show PySem.EqNone.ne_none_str (fZ I q (by simp))
  |_=>show absurd (show false=true from f) YB
 |bl i=>
  cases g;cases y with
  |av=>cases d;show PySem.EqNone.ne_bool_none (fZ I q (by simp))
  |bl j=>cases d;show ne_bool (fZ I q (YK not Ry))
  |str j=>obtain⟨e,rfl⟩:=d;show PySem.EqMixed.ne_bool_str (fZ I q (by simp))
  |_=>show absurd (show false=true from f) YB
 |int i=>
  obtain⟨t,rfl⟩:=g;cases y with
  |av=>cases d;show PySem.EqNone.ne_int_none (fZ I q (by simp))
  |int j=>obtain⟨e,rfl⟩:=d;show ne_int (fZ I q (YK not Pz))
  |str j=>obtain⟨e,rfl⟩:=d;show PySem.EqMixed.ne_int_str (fZ I q (by simp))
  |_=>show absurd (show false=true from f) YB
 |str i=>
  obtain⟨t,rfl⟩:=g;cases y with
  |av=>cases d;show PySem.EqNone.ne_str_none (fZ I q (by simp))
  |bl j=>cases d;show PySem.EqMixed.ne_str_bool (fZ I q (by simp))
  |int j=>obtain⟨e,rfl⟩:=d;show PySem.EqMixed.ne_str_int (fZ I q (by simp))
  |str j=>obtain⟨e,rfl⟩:=d;show ne_str (fZ I q (YK not OX))
  |_=>show absurd (show false=true from f) YB
 |wM i=>
  obtain⟨t,rfl⟩:=g;cases y with
  |wM j=>obtain⟨e,rfl⟩:=d;show PySem.W.ne_bytes (fZ I q (YK not Qs))
  |_=>show absurd (show false=true from f) YB
 |_=>cases y<;>show absurd (show false=true from f) YB
def Vb:cu X (compareOp .Lt) (yr λi j=> .bl (decide (i<j))):=IK λ_ _ _ _ _ _ _ q=>lt_int q
def TL:cu X (compareOp .LtE) (yr λi j=> .bl (decide (i<=j))):=IK λ_ _ _ _ _ _ _ q=>le_int q
def Ur:cu X (compareOp .Gt) (yr λi j=> .bl (decide (j<i))):=IK λ_ _ _ _ _ _ _ q=>gt_int q
def UD:cu X (compareOp .GtE) (yr λi j=> .bl (decide (j<=i))):=IK λ_ _ _ _ _ _ _ q=>ge_int q
def QB:cu X (compareOp .Is) (λx y H Q=>y= .av/\Q (.bl (decide (x= .av))) H):=by
 intro e s σ H x y v u Q I d f h;obtain⟨rfl,q⟩:=h;cases f;show is_none_gen (fZ I q ?_)
 cases x<;>first
  |(cases d;rfl)
  |(obtain⟨t,rfl⟩:=d;rfl)
def O_:cu X (compareOp .IsNot) (λx y H Q=>y= .av/\Q (.bl (!decide (x= .av))) H):=by
 intro e s σ H x y v u Q I d f h;obtain⟨rfl,q⟩:=h;cases f;show isnot_none_gen (fZ I q ?_)
 cases x<;>first
  |(cases d;rfl)
  |(obtain⟨t,rfl⟩:=d;rfl)
def di(b:Expr)(h:op≠ .In:=by decide)(d:op≠ .NotIn:=by decide):behindInMarks op b=false:=by
 let f:(op==CmpOp.In)=false:=by cases op<;>first|rfl|show absurd rfl h
 let e:(op==CmpOp.NotIn)=false:=by cases op<;>first|rfl|show absurd rfl d
 cases b<;>simp[behindInMarks,f,e]
def Qa(i:cu X (compareOp op) r)(l:PE X a ta)(k:PE X b tb)(j:behindInMarks op b=false):PE X (.Compare a [op] [b] pos) (Jq r ta tb):=by
 intro d s σ H Q I h;show wpAny_Compare1 (Nf l k I h λv u e x y n m g f q=>i d e σ n x y v u Q m g f q) j
def NW(t:TE):TT:=λσ H Q=>t σ H λx d=>∃k,x= .bl k/\Q k d
def O9(p:cu X (compareOp op) r)(w:PE X a ta)(t:PE X b tb)(q:behindInMarks op b=false):PT X (.Compare a [op] [b] pos) (NW (Jq r ta tb)):=by
 intro d s σ H Q I h
 show wpAny_isTrue_Compare1 (cp (w d s σ H _ I h) λv g ⟨x,H1,C,l,o⟩=>cp (t d g σ H1 _ C o) λu f ⟨y,E,B,j,n⟩=>
  cp (p d f σ E x y v u _ B l j n) λc F ⟨z,D,A,i,k,e,m⟩=>?_) q
 subst e;cases i;show YY ⟨D,A,m⟩
def Dc(r f:R2)(ta tb tc:TE):TE:=λσ H Q=>ta σ H λx H1=>tb σ H1 λy h=>r x y h λz d=>∃k,z= .bl k/\
 (if k=true then tc σ d λe g=>f y e g Q else Q (.bl false) d)
def MQ{op g:CmpOp}(K:cu X (compareOp op) r)(i:cu X (compareOp g) l)(O:PE X a ta)(N:PE X b tb)(M:PE X c tc)
 (L:lastMarks [op,g] [b,c]=false:=by with_unfolding_all rfl):PE X (.Compare a [op,g] [b,c] pos) (Dc r l ta tb tc):=by
 intro f s σ H Q I h
 show Compare_chain (cp (O f s σ H _ I h) λv B ⟨x,H1,S,E,J⟩=>chain_link (cp (N f B σ H1 _ S J) λu A ⟨y,U,R,j,G⟩=>
  cp (K f A σ U x y v u _ R E j G) λd w ⟨z,o,n,D,k,e,m⟩=>?_)) L
 subst e;cases D;show YY ?_;cases k with
 |false=>show ite_ff ⟨.bl false,o,n,rfl,m⟩
 |true=>show ite_tt (chain_last (cp (M f w σ o _ n m) λq t ⟨p,T,P,C,F⟩=>i f t σ T y p u q Q P j C F))
def MT{op g:CmpOp}(N:cu X (compareOp op) r)(i:cu X (compareOp g) l)(S:PE X a ta)(R:PE X b tb)(P:PE X c tc)
 (O:lastMarks [op,g] [b,c]=false:=by with_unfolding_all rfl):PT X (.Compare a [op,g] [b,c] pos) (NW (Dc r l ta tb tc)):=by
 intro f s σ H Q I h
 show isTrue_chain (cp (S f s σ H _ I h) λv B ⟨x,H1,Z,F,L⟩=>test_link (cp (R f B σ H1 _ Z L) λu A ⟨y,H2,Y,j,K⟩=>
  cp (N f A σ H2 x y v u _ Y F j K) λd w ⟨z,o,n,E,k,e,m⟩=>?_)) O
 subst e;cases E;show YY ?_;cases k with
 |false=>
  obtain⟨k',U,M⟩:=m;cases U;show ite_ff ⟨o,n,M⟩
 |true=>
  show ite_tt (test_last (cp (P f w σ o _ n m) λq t ⟨p,H4,W,D,J⟩=>cp (i f t σ H4 y p u q _ W j D J) λd' s5 ⟨z2,H5,V,C,k2,T,G⟩=>?_));subst T;cases C;show YY ⟨H5,V,G⟩
def sE:(sizeLine:Nat)<2^63:=by rw[ZC];decide
def Hb:cu X (binaryOp .Add) (λx y H Q=>∃i j,x= .str i/\y= .str j/\i.length+j.length<=sizeLine/\Q (.str (i++j)) H):=by
 intro d s σ H x y v u Q I g f h;obtain⟨i,j,rfl,rfl,k,q⟩:=h;obtain⟨t,rfl⟩:=g;obtain⟨e,rfl⟩:=f;show add_str (λe tk=>⟨.str (i++j),H,I.tok _,⟨_,rfl⟩,q⟩) k
def vals1(r:Vals [x] us):∃u,us=[u]/\RelV x u:=by
 cases r with
 |cons e d=>cases d;show⟨_,rfl,e⟩
def vals2(r:Vals [x,y] us):∃u d,us=[u,d]/\RelV x u/\RelV y d:=by
 cases r with
 |cons h g=>
  cases g with
  |cons f e=>cases e;show⟨_,_,rfl,h,f⟩
def Mh:cA X (.builtin "abs") (λxs H Q=>∃i,xs=[.int i]/\Q (.int (if i<0 then-i else i)) H):=by
 intro d s σ H xs e Q I r h;obtain⟨i,rfl,q⟩:=h;obtain⟨u,rfl,t,rfl⟩:=vals1 r;show call_abs_int λu tk=>⟨.int (if i<0 then-i else i),H,I.tok _,⟨_,rfl⟩,q⟩
def Ks(f:X.calm=true):cA X (.builtin "max") (λxs H Q=>∃i j,xs=[.int i,.int j]/\Q (.int (if j>i then j else i)) H):=by
 intro e s σ H xs l Q I r h;obtain⟨i,j,rfl,q⟩:=h;obtain⟨u,g,rfl,⟨t,rfl⟩,⟨m,rfl⟩⟩:=vals2 r;show max_two_ints (I.ok.hd f) λn tk k=>⟨_,H,I.kept k,?_,q⟩
 by_cases d:j>i
 . rw[XB d,XB d];show⟨_,rfl⟩
 rw[Xx d,Xx d];show⟨_,rfl⟩
def Jb(f:X.calm=true):cA X (.builtin "min") (λxs H Q=>∃i j,xs=[.int i,.int j]/\Q (.int (if j<i then j else i)) H):=by
 intro e s σ H xs l Q I r h;obtain⟨i,j,rfl,q⟩:=h;obtain⟨u,g,rfl,⟨t,rfl⟩,⟨m,rfl⟩⟩:=vals2 r;show min_two_ints (I.ok.hd f) λn tk k=>⟨_,H,I.kept k,?_,q⟩
 by_cases d:j<i
 . rw[XB d,XB d];show⟨_,rfl⟩
 rw[Xx d,Xx d];show⟨_,rfl⟩
def Kz:cA X (.type "int") (λxs H Q=>(∃i,xs=[.int i]/\Q (.int i) H)\/∃k,xs=[.bl k]/\Q (.int (if k then 1 else 0)) H):=by
 intro d s σ H xs f Q I r h;rcases h with⟨i,rfl,q⟩|⟨k,rfl,q⟩
 . obtain⟨u,rfl,t,rfl⟩:=vals1 r;show call_int_int ⟨.int i,H,I,⟨_,rfl⟩,q⟩
 obtain⟨u,rfl,e⟩:=vals1 r;cases e;show call_int_bool ⟨.int (if k then 1 else 0),H,I.tok _,⟨_,rfl⟩,q⟩
end
structure ye(h:Heap)(x dx C:Addr)(mA:Str->Option Value):Prop where
 obj:h.get? x=some (PySem.W.instObj C dx)
 ns:h.Ns1 dx mA
 ne:dx≠x
def K9{h:Heap}{g:Addr}{d:Str->Option Value}(n:h.Ns1 g d):∃c,h.get? g=some c/\∀name,PySem.W.lookIn name c=some (d name):=by
 obtain⟨o,f,p,j,l,hk,_,k⟩:=n;show⟨o,j,λname=>?_⟩;let e:=k name;unfold nsFind findBy at e;rw[<-Array.find?_toList]at e;unfold PySem.W.lookIn;rw[l];dsimp only;split
 . rename_i y q;rw[q]at e;show YK some e
 rename_i q;rw[q]at e
 let a:f.toList.any (·.refKey)=false:=by
  rw[List.any_eq_false];intro y i;obtain⟨z,t,b⟩:=hk y (Array.mem_toList_iff.mp i);simp[DictEntry.refKey,b]
 let m:¬f.toList.any (·.refKey)=true:=by rw[a];show YB
 rw[Xx m];show YK some e
def ye.look{b:Str->Option Value}(I:ye h x c C b):∃a,PySem.W.InstAt h x (PySem.W.instObj C c) C (some a)/\∀name,PySem.W.lookIn name a=some (b name):=
 let⟨a,ho,hl⟩:=K9 I.ns
 ⟨a,⟨I.obj,rfl,rfl,ho⟩,hl⟩
section
variable {prog:Program}{w:World}{A:Around}{E:Value->Shared->Prop}{s:Shared}{K:PySem.W.Frag}{x dx C f:Addr}{mA:Str->Option Value}{name:Str}{v:Value}
def get_map(X:K.In s.heap)(I:ye s.heap x dx C mA)(g:PySem.W.plainGet K C name=true)(e:PySem.W.hasDictIn K C=true)
 (i:PySem.W.findIn K (.ref C) name=some none) (c:mA name=some v) (b:PySem.W.handedIn v=true) (h:Q v {s with toks:=s.toks+1}):
 wpAny (model prog w) A (getAttr (.ref x) name a) Q E s:=by
 obtain⟨j,J,d⟩:=I.look;show PySem.W.get_value X J (aaW g).1 (PySem.W.findObj_own e i rfl (by rw[d,c])) b h
def Mj{pl:Sem Bool}(X:K.In s.heap)(I:ye s.heap x dx C mA)(a:PySem.W.plainGet K C name=true)
 (g:PySem.W.findIn K (.ref C) name=some (some (.ref f))) (d:PySem.W.isFn K (.ref f)=true) (c:mA name=none) (h:Q (.ref f,[.ref x]) s):
 wpAny (model prog w) A (getMethod (.ref x) name pl) Q E s:=by
 obtain⟨b,J,e⟩:=I.look;show PySem.W.method_fn X J (aaW a).1 (aaW a).2 g (Zm.mp d) (by change(PySem.W.lookIn name b).map (·.isSome)=some false;rw[e,c];rfl) h
def jX{ns:List Str}(X:K.In s.heap)(I:ye s.heap x dx C mA)
 (o:PySem.W.findIn K (.ref C) "__setattr__"=some (some (.builtin "object.__setattr__"))) (p:PySem.W.plainOver K C=true) (m:PySem.W.takerIn K C name=some none) (q:PySem.W.hasDictIn K C=true)
 (l:PySem.Within mA ns) (n:ns.length<=sizeLine)
 (h:∀h',ye h' x dx C (λy=>if y=name then some v else mA y)->Heap.SameBut dx s.heap h'->Q .unit {s with heap:=h',toks:=s.toks+2}):
 wpAny (model prog w) A (setAttr (.ref x) name v) Q E s:=by
 obtain⟨B,J,F⟩:=I.look;show PySem.W.set_plain X J o (PySem.W.osa_open (s:={s with toks:=s.toks+1}) (r:=none) X J p m λb=>?_);obtain⟨G,t,i⟩:=PySem.W.any_some q;let k:s.heap.get? x=some ⟨.ref C,some dx,.plain,#[]⟩:=I.obj;show Xw (XM (Xw (Xw (wpAny_loadPart k (Xw (PySem.W.Looks.here (s:={s with toks:=s.toks+1}) (PySem.W.looks_clsIn X t) ?_))))));rw[i];show XM (a:=some dx) (Xw (XM (Xw ?_)));show wpAny_nsSet1 (s:={s with toks:=s.toks+1}) I.ns λh' d c=>?_;obtain⟨D,u,z,e,g,j⟩:=d.count (PySem.Within.cons name v l);show Xw (wpAny_lookBehind e (by rw[g];show pastItsLine_dict (Xy j (by rw[XT];lia))) ?_);show XM (h _ ⟨(c.2 _ (XI I.ne)).trans I.obj,d,I.ne⟩ c)
def Nh(X:K.In s.heap)(c:PySem.W.makesIn K C=true)
 (e:PySem.W.findIn K (.ref C) "__init__"=some (some (.ref f))) (i:PySem.W.typeIn K (.ref f)=some (.type "function"))
 (h:codeAny (model prog w) (A.under (.builtin "type.__call__" ⟨.ref C::vs,b⟩)) (.call (.ref f) ⟨.ref (s.heap.objs.size+1)::vs,b⟩) (PySem.W.InitBack (s.heap.objs.size+1) R)
   {s with heap:=(s.heap.push PySem.W.emptyDict).push (PySem.W.instObj C s.heap.objs.size)}):
 codeAny (model prog w) A (.call (.ref C) ⟨vs,b⟩) R s:=by
 obtain⟨k,g,d,t,j⟩:=s;show PySem.W.make_core (PySem.W.makes_of X c) (PySem.W.looks_findIn X e) (λa=>PySem.W.bind_fn X a i) (.inl rfl) h
end
def ja(f:Str)(v:V):List (Str×V)->List (Str×V)
 | []=>[(f,v)]
 |(g,x)::r=>if g=f then(g,v)::r else(g,x)::ja f v r
def wC(f g:Str)(v:V):∀fs:List (Str×V),(ja f v fs).lookup g=if g=f then some v else fs.lookup g
 | []=>by
   change List.lookup g [(f,v)]=_;by_cases h:g=f
   . have a:(g==f)=true:=Zm.mpr h;simp![List.lookup,a,XB h]
   have a:(g==f)=false:=Zj.mpr h;simp![List.lookup,a,Xx h]
 |(k,x)::r=>by
  let b:=wC f g v r;rw[show ja f v ((k,x)::r)=(if k=f then(k,v)::r else(k,x)::ja f v r)from rfl];by_cases hk:k=f
  . rw[XB hk];by_cases h:g=k
    . have a:(g==k)=true:=Zm.mpr h;simp![List.lookup,a,XB (h.trans hk)]
    have a:(g==k)=false:=Zj.mpr h;simp![List.lookup,a,Xx (λe:g=f=>h (e.trans hk.symm))]
  rw[Xx hk];by_cases h:g=k
  . have a:(g==k)=true:=Zm.mpr h;simp![List.lookup,a,Xx (λe:g=f=>hk (h.symm.trans e))]
  have a:(g==k)=false:=Zj.mpr h;simp![List.lookup,a];show b
def uO(f:Str)(v:V):∀fs:List (Str×V),f∈(ja f v fs).map (·.1)/\∀g,g∈fs.map (·.1)->g∈(ja f v fs).map (·.1)
 | []=>⟨by simp[ja],λg h=>by simp at h⟩
 |(k,x)::r=>by
  obtain⟨b,a⟩:=uO f v r;rw[show ja f v ((k,x)::r)=(if k=f then(k,v)::r else(k,x)::ja f v r)from rfl];by_cases hk:k=f
  . rw[XB hk];subst hk;show⟨by simp,λg h=>by simpa using h⟩
  rw[Xx hk];show⟨?_,λg h=>?_⟩
  . rw[Yg];show XN _ b
  rw[Yg]at h⊢;rcases XU.mp h with e|e
  . show XU.mpr (.inl e)
  show XN _ (a g e)
def wN(f:Str)(v:V):∀fs:List (Str×V),(ja f v fs).length<=fs.length+1
 | []=>by simp[ja]
 |(k,x)::r=>by
  let a:=wN f v r;rw[show ja f v ((k,x)::r)=(if k=f then(k,v)::r else(k,x)::ja f v r)from rfl];by_cases hk:k=f
  . rw[XB hk,XT,XT];lia
  rw[Xx hk,XT,XT];lia
def se.some_of(r:se (some v) o):∃u,o=some u/\RelV v u:=by
 cases o with
 |none=>show(show False from r).elim
 |some u=>show⟨u,rfl,r⟩
def se.none_of(r:se none o):o=none:=by
 cases o with
 |none=>rfl
 |some u=>show(show False from r).elim
def Ly(r:RelV v u):PySem.W.handedIn u=true:=by
 cases v with
 |av=>cases (show u=Value.none from r);rfl
 |bl b=>cases (show u=Value.bool b from r);rfl
 |int i=>obtain⟨t,e⟩:=(show∃t,u=Value.int i t from r);cases e;rfl
 |str x=>obtain⟨t,e⟩:=(show∃t,u=Value.str x t from r);cases e;rfl
 |wM b=>obtain⟨t,e⟩:=(show∃t,u=Value.bytes b t from r);cases e;rfl
 |wX b=>obtain⟨t,e⟩:=(show∃t,u=Value.float b t from r);cases e;rfl
 |ref a=>cases (show u=Value.ref a from r);rfl
 |ty n=>cases (show u=Value.type n from r);rfl
section
variable {P:Program}{w:World}{H H':Hp}{h h':Heap}{a C dx:Addr}{fs fs':List (Str×V)}
def sI(i:jJ P w H h)(e:H a=some (.ins C dx fs)):∃b,ye h a dx C b/\(∀f,se (fs.lookup f) (b f))/\PySem.Within b (fs.map (·.1))/\fs.length<=1000/\H dx=some (.own a):=by
 obtain⟨d,z,g,c,b,n,r,q⟩:=(show eH P w H h a (.ins C dx fs)from i a _ e)
 show⟨b,⟨c,n,g⟩,r,q,z,d⟩
end
structure o4(K:PySem.W.Frag)(C:Addr):Prop where
 pg:PySem.W.plainGet K C Str.empty=true
 hd:PySem.W.hasDictIn K C=true
 po:PySem.W.plainOver K C=true
 sa:PySem.W.findIn K (.ref C) "__setattr__"=some (some (.builtin "object.__setattr__"))
def o4.get{K:PySem.W.Frag}{C:Addr}(c:o4 K C)(f:Str):PySem.W.plainGet K C f=true:=c.pg
def dE(K:PySem.W.Frag)(C:Addr)(f:Str):Prop:=PySem.W.findIn K (.ref C) f=some none
def dE.T3{K:PySem.W.Frag}{C:Addr}{f:Str}(n:dE K C f):PySem.W.takerIn K C f=some none:=by
 unfold PySem.W.takerIn;rw[show PySem.W.findIn K (.ref C) f=some none from n];rfl
structure Meth(K:PySem.W.Frag)(C:Addr)(m:Str)(f:Addr):Prop where
 at_:PySem.W.findIn K (.ref C) m=some (some (.ref f))
 fn:PySem.W.isFn K (.ref f)=true
 kp:PySem.W.keepIn K (.ref f)=true
section
variable {X:Cx}{pins:List (Addr×Obj)}{σ:St}{H:Hp}{s:Shared}{a C dx:Addr}{fs:List (Str×V)}{f:Str}{v:V}{A:Around}{E:Value->Shared->Prop}
def Il(I:Inv X pins σ H s)(e:H a=some (.ins C dx fs))(c:o4 X.K C)(n:dE X.K C f)(l:fs.lookup f=some v)
 (h:∀u s',Inv X pins σ H s'->RelV v u->Q u s'):wpAny (model X.prog X.w) A (getAttr (.ref a) f b) Q E s:=by
 obtain⟨g,O,r,_,_,_⟩:=sI I.aO e;obtain⟨u,i,d⟩:=se.some_of (v:=v) (o:=g f) (by rw[<-l];show r f);show get_map I.iQ O (c.get f) c.hd n i (Ly d) (h u _ (I.tok _) d)
def yv{g:Addr}{pl:Sem Bool}(I:Inv X pins σ H s)(e:H a=some (.ins C dx fs))(c:o4 X.K C)(k:Meth X.K C m g)(l:fs.lookup m=none)
 (h:Q (.ref g,[.ref a]) s):wpAny (model X.prog X.w) A (getMethod (.ref a) m pl) Q E s:=by
 obtain⟨b,O,r,_,_,_⟩:=sI I.aO e;let d:b m=none:=se.none_of (by rw[<-l];show r m);show Mj I.iQ O (c.get m) k.at_ k.fn d h
def H_(I:Inv X pins σ H s)(e:H a=some (.ins C dx fs))(c:o4 X.K C)(n:dE X.K C f)(F:fs.length<1000)(m:RelV y u)
 (h:∀s',Inv X pins σ (upd H a (.ins C dx (ja f y fs))) s'->Q .unit s'):wpAny (model X.prog X.w) A (setAttr (.ref a) f u) Q E s:=by
 obtain⟨j,O,r,i,_,k⟩:=sI I.aO e;let p:(fs.map (·.1)).length<=sizeLine:=by rw[Xr,ZC];lia
 show jX I.iQ O c.sa c.po n.T3 c.hd i p λD d l=>h _ ?_;let w:∃o,D.get? dx=some o:=let⟨o,_,_,e',_⟩:=d.ns;⟨o,e'⟩
 show I.write (x:=a) (e:=dx) (by rw[e];show True.intro) (.inr k) (λb q B z=>(l.2 b B).trans z) w ?_;show⟨by rw[aF O.ne];show k,?_,O.ne,d.obj,_,d.ns,λg=>?_,λg t=>?_⟩
 . have:=wN f y fs;lia
 . change se ((ja f y fs).lookup g) (if g=f then some u else j g);rw[wC];by_cases q:g=f
   . rw[XB q,XB q];show m
   rw[Xx q,Xx q];show r g
 by_cases q:g=f
 . rw[q];show(uO f y fs).1
 show(uO f y fs).2 g (i g λz=>t ?_);change(if g=f then some u else j g)=none;rw[Xx q];show z
def Inv.made(I:Inv X pins σ H s):Inv X pins σ (upd (upd H s.heap.objs.size (.own (s.heap.objs.size+1))) (s.heap.objs.size+1) (.ins C s.heap.objs.size []))
 {s with heap:=(s.heap.push PySem.W.emptyDict).push (PySem.W.instObj C s.heap.objs.size)}:=by
 let d:(s.heap.push PySem.W.emptyDict).get? s.heap.objs.size=some PySem.W.emptyDict:=X5 s.heap rfl
 let j:((s.heap.push PySem.W.emptyDict).push (PySem.W.instObj C s.heap.objs.size)).get? (s.heap.objs.size+1)=some (PySem.W.instObj C s.heap.objs.size):=by
  let:=X5 (s.heap.push PySem.W.emptyDict) (o:=PySem.W.instObj C s.heap.objs.size) rfl;rwa [YO]at this
 let i:(s.heap.push PySem.W.emptyDict).Ns s.heap.objs.size (λ_=>none):=⟨PySem.W.emptyDict,#[],_,d,rfl,(λe h=>absurd h (by simp)),λ_=>rfl⟩
 let k:=I.laid (a:=s.heap.objs.size) (o:= .own (s.heap.objs.size+1)) (h':=s.heap.push PySem.W.emptyDict) (t':=s.toks) (λb u q=>XF _ q) (Xv _) ⟨_,d⟩;show k.laid (a:=s.heap.objs.size+1) (o:= .ins C s.heap.objs.size []) (t':=s.toks) (λb u q=>XF _ q) (abn (YO _ _)) ?_;let c:s.heap.objs.size≠s.heap.objs.size+1:=X_ (Yp _);show⟨by rw[aF c,bf],Yc _,c,j,λ_=>none,(Heap.Ns1.of_empty i).at λo q=>XF _ q,λ_=>True.intro,λy g=>absurd rfl g⟩
def Qf{e:Expr}{f:Str}{s:Shared}(c:attributeBase e f env (eval e env)=eval e env)
 (h:wpAny (model prog w) A (eval e env) (λo b=>wpAny (model prog w) A (getAttr o f true) Q E b) E s):wpAny (model prog w) A (eval (.Attribute e f pos) env) Q E s:=
 Attribute_any_ h (by rw[arm_eval_Attribute,c])
end
def V4(K:PySem.W.Frag)(b:TE)(f:Str):TE:=λσ H Q=>b σ H λx H1=>∃a C c fs v,x= .ref a/\H1 a=some (.ins C c fs)/\o4 K C/\dE K C f/\fs.lookup f=some v/\Q v H1
def V_(K:PySem.W.Frag)(e d:TE)(f:Str):TS:=λD σ H=>d σ H λy H1=>e σ H1 λx c=>∃a C b fs,x= .ref a/\c a=some (.ins C b fs)/\o4 K C/\dE K C f/\fs.length<1000/\
 D.nx σ (upd c a (.ins C b (ja f y fs)))
section
variable {X:Cx}{o e value:Expr}{f:Str}{pos pos' tpos:Pos}{ta tv:TE}
def R8(i:PE X e ta)(j:attributeBase e f X.env (eval e X.env)=eval e X.env):PE X (.Attribute e f pos) (V4 X.K ta f):=by
 intro b s σ H Q I h;show Qf j (cp (i b s σ H _ I h) λu w ⟨x,H1,p,d,a,C,y,fs,v,ex,k,c,n,l,q⟩=>?_);subst ex;obtain rfl:u=Value.ref a:=d;show Il p k c n l λr t m g=>⟨v,H1,m,g,q⟩
def QS(r:PE X o ta)(m:PE X value tv)(p:swapsWith value (some (.Attribute o f pos')) pos.line X.env=pure false):PS X (.Assign [.Attribute o f pos'] value pos) (V_ X.K ta tv f):=by
 intro b s σ H D I h;show plainObj_wpAny_Assign_Attribute (cp (m b s σ H _ I h) λu d ⟨y,H1,z,g,q⟩=>cp (r b d σ H1 _ z q) λk B ⟨x,F,w,i,a,C,E,fs,ex,t,c,n,l,j⟩=>?_) p;subst ex;obtain rfl:k=Value.ref a:=i;show H_ w t c n l g λA v=>⟨σ,_,v,j⟩
end
section
variable {X:Cx}{pins:List (Addr×Obj)}{σ:St}{H:Hp}{s:Shared}{A:Around}{E:Value->Shared->Prop}{Q:Value->Shared->Prop}{c:Value}{b:Bool}
inductive lK(K:PySem.W.Frag)(H:Hp):V->Value->Prop where
 |av:lK K H .av (.type "NoneType")
 |bl (x:Bool):lK K H (.bl x) (.type "bool")
 |int (i:Int):lK K H (.int i) (.type "int")
 |str (x:Str):lK K H (.str x) (.type "str")
 |wX (x:UInt64):lK K H (.wX x) (.type "float")
 |lst {a:Addr} {xs:List V} (e:H a=some (.lst xs)):lK K H (.ref a) (.type "list")
 |iP {a:Addr} {o:Obj} {xs:List V} (e:H a=some (.iP o (.lst xs))):lK K H (.ref a) (.type "list")
 |tup {a:Addr} {xs:List V} (e:H a=some (.tup xs)):lK K H (.ref a) (.type "tuple")
 |dK {a:Addr} {kvs:List (Key×V)} (e:H a=some (.dK kvs)):lK K H (.ref a) (.type "dict")
 |dT {a:Addr} {kvs:List (List Key×V)} (e:H a=some (.dT kvs)):lK K H (.ref a) (.type "dict")
 |ins {a C dx:Addr} {fs:List (Str×V)} (e:H a=some (.ins C dx fs)) (cl:o4 K C) (ha:PySem.W.findIn K (.ref C) "__class__"=some (some (.builtin "object.__class__")))
   (hn:PySem.W.specialIn K (.builtin "object.__class__") "__get__"=some (some (.builtin "getset_descriptor.__get__"))) (htk:PySem.W.takesIn K (.builtin "object.__class__")=some true)
   (hm:PySem.W.mroIn K C (.type "object")=some true):lK K H (.ref a) (.ref C)
def J3(I:Inv X pins σ H s)(d:RelV x u)(r:lK X.K H x t)(e:PySem.W.kitOne X.K t c=some b)(h:∀tk,Q (.bool b) {s with toks:=tk}):
 wpAny (model X.prog X.w) A (call (.builtin "isinstance") [u,c]) Q E s:=by
 cases r with
 |av=>cases (show u=Value.none from d);show YQ PySem.W.kitx_none I.iQ True.intro e (λz=>nomatch z) h
 |bl y=>cases (show u=Value.bool y from d);show YQ PySem.W.kitx_bool I.iQ True.intro e (λz=>nomatch z) h
 |int i=>obtain⟨t,q⟩:=(show∃t,u=Value.int i t from d);cases q;show YQ PySem.W.kitx_int I.iQ True.intro e (λz=>nomatch z) h
 |str y=>obtain⟨t,q⟩:=(show∃t,u=Value.str y t from d);cases q;show YQ PySem.W.kitx_str I.iQ True.intro e (λz=>nomatch z) h
 |wX y=>obtain⟨t,q⟩:=(show∃t,u=Value.float y t from d);cases q;show YQ PySem.W.kitx_float I.iQ True.intro e (λz=>nomatch z) h
 | @lst a k f=>
   cases (show u=Value.ref a from d);obtain⟨_,_,n,_,g⟩:=(show eH X.prog X.w H s.heap a (.lst k)from I.aO a _ f)
   show YQ aax I.iQ ⟨_,g,rfl⟩ e (λz=>nomatch z) h
 | @iP a v k f=>
   cases (show u=Value.ref a from d);obtain⟨_,_,_,n,_,g⟩:=(show eH X.prog X.w H s.heap a (.iP v (.lst k))from I.aO a _ f)
   show YQ aax I.iQ ⟨_,g,rfl⟩ e (λz=>nomatch z) h
 | @tup a k f=>
   cases (show u=Value.ref a from d);obtain⟨_,_,_,p⟩:=(show eH X.prog X.w H s.heap a (.tup k)from I.aO a _ f)
   obtain⟨o,g,l,_⟩:=p;show YQ PySem.W.kitx_tuple I.iQ ⟨o,g,l⟩ e (λz=>nomatch z) h
 | @dK a j f=>
   cases (show u=Value.ref a from d);obtain⟨_,_,K,_,p⟩:=(show eH X.prog X.w H s.heap a (.dK j)from I.aO a _ f)
   obtain⟨o,F,G,g,l,_⟩:=p;show YQ aay I.iQ ⟨o,g,l.1⟩ e (λz=>nomatch z) h
 | @dT a j f=>
   cases (show u=Value.ref a from d);obtain⟨_,_,k,_,o,F,G,g,l,_⟩:=(show eH X.prog X.w H s.heap a (.dT j)from I.aO a _ f)
   show YQ aay I.iQ ⟨o,g,l.1⟩ e (λz=>nomatch z) h
 | @ins a C N fs f cl D w m B=>
   cases (show u=Value.ref a from d);obtain⟨M,O,_⟩:=sI I.aO f;obtain⟨L,J,_⟩:=O.look;show YQ (PySem.W.kitx_own (cl.get _) cl.hd D w m B) I.iQ J e (λz=>nomatch z) h
end
structure dv(k:Nat)(A:Around):Prop where
 hd:A.handled=none
 dp:A.depth+3*k+105<recursionLimit
 un:A.units+16*k+200<cLine
def dv.mono{j k:Nat}(r:dv k A)(h:j<=k):dv j A:=⟨r.hd,by let:=r.dp;lia,by let:=r.un;lia⟩
def dv.deeper{k:Nat}{A:Around}(r:dv (k+1) A)(env:Env):dv k (A.deeper env):=
 ⟨r.hd,by let:=r.dp;change A.depth+1+3*k+105<_;lia,by let:=r.un;change A.units+3+16*k+200<_;lia⟩
def IH{A:Around}:(A.under (.builtin "type.__call__" ⟨.ref C::us,a⟩)).depth=A.depth+1:=by
 first|rfl|simp[Around.under,Code.weight,Code.isCreation,Code.isGuard,Code.isCaller,Code.frames,Code.isFrame,guardIds]
def IC{A:Around}:(A.under (.builtin "type.__call__" ⟨.ref C::us,a⟩)).units=A.units+1:=by
 first|rfl|simp[Around.under,Code.cUnits,Code.frames,Code.isFrame]
def dv.make{k:Nat}{A:Around}(r:dv (k+1) A)(C:Addr)(us:List Value)(a:List (Str×Value)):dv k (A.under (.builtin "type.__call__" ⟨.ref C::us,a⟩)):=
 ⟨r.hd,by let:=r.dp;rw[IH];lia,by let:=r.un;rw[IC];lia⟩
def dv.depth{k:Nat}{A:Around}(r:dv k A):A.depth<recursionLimit:=by let:=r.dp;lia
def dv.units{k:Nat}{A:Around}(r:dv k A):A.units+64<cLine:=by let:=r.un;lia
def Mi:TA:=λ_ H Q=>Q [] H
def Ug(b:TE)(tr:TA):TA:=λσ H Q=>b σ H λx H1=>tr σ H1 λa c=>Q (x::a) c
section
variable {X:Cx}{e:Expr}{es:List Expr}{te:TE}{t:TA}{pos:Pos}
def RN:PA X [] Mi:=λ_ _ _ _ H Q I h=>Calls.spliced_nil ⟨[],H,I,.nil,h⟩
def PB(l:PE X e te)(k:PA X es t)(j:starEach (e::es) X.env=(false,eval e X.env)::starEach es X.env:=by rfl):PA X (e::es) (Ug te t):=by
 intro pos a s σ H Q I h;rw[j];change wpAny _ _ (spliced ((false,eval e X.env)::backTo pos (starEach es X.env))) _ _ s;show Calls.spliced_cons (cp (l a s σ H _ I h) λu c ⟨x,H1,n,f,i⟩=>?_);show cp (k pos a c σ H1 _ n i) λp q ⟨b,o,m,d,g⟩=>⟨x::b,o,m,.cons f d,g⟩
def Wu(t:TA):TE:=λσ H Q=>t σ H λa H1=>a.length<=sizeLine/\∀p,H1 p=none->Q (.ref p) (upd H1 p (.tup a))
def V6(t:TA):TE:=λσ H Q=>t σ H λa H1=>a.length<=sizeLine/\∀p,H1 p=none->Q (.ref p) (upd H1 p (.lst a))
def Q3{x1}(h:PA X es t):PE X (.Tuple es x1 pos) (Wu t):=by
 intro a s σ H Q I i;show wpAny_Tuple_spliced (cp (h pos a s σ H _ I i) λg c ⟨f,H1,d,r,z,q⟩=>⟨by rw[<-r.length];show z,?_⟩);let j:H1 c.heap.objs.size=none:=d.aO.fresh (Xv _);show⟨.ref c.heap.objs.size,upd H1 c.heap.objs.size (.tup f),d.laid (t':=c.toks) (λb u e=>XF _ e) (Xv _) ?_,rfl,q _ j⟩;show⟨z,g,r,⟨_,X5 _ rfl,rfl,_,rfl⟩⟩
def Ls(h:PA X es t):PE X (.List es pos) (V6 t):=by
 intro a s σ H Q I i;show wpAny_List_spliced (cp (h pos a s σ H _ I i) λg c ⟨f,H1,d,r,z,q⟩=>⟨by rw[<-r.length];show z,?_⟩);let j:H1 c.heap.objs.size=none:=d.aO.fresh (Xv _);show⟨.ref c.heap.objs.size,upd H1 c.heap.objs.size (.lst f),d.laid (t':=c.toks) (λb u e=>XF _ e) (Xv _) ?_,rfl,q _ j⟩;show⟨z,g,0,r,X5 _ rfl⟩
end
abbrev Sp:=List V->Hp->VK->XK->Prop
abbrev wD:=List Env->Hp->Shared->XK->Value->Shared->Prop
structure xy(P:Program)(w:World)(K:PySem.W.Frag)(mg:Str->Option Value)(base:Heap)(A:Around)(outer:List Env)(s:Shared)(H:Hp):Prop where
 frames:A.frames=some outer
 mod:Mod K mg base
 bs:∀b o,base.get? b=some o->s.heap.get? b=some o/\H b=none
 vt:base.objs.size<=s.heap.objs.size
 nO:s.heap.FunFrames base outer
 zt:∀b∈sy outer,H b=none
 aO:jJ P w H s.heap
 bare:AllBare s.gens
 gt:P.given.tree=none
def CE(outer:List Env)(P:Program)(w:World)(H:Hp)(s:Shared)(Q:VK)(u:Value)(s':Shared):Prop:=
 ∃v a,s'.os=s.os/\AllBare s'.gens/\Un (sy outer) [] H a s.heap s'.heap/\jJ P w a s'.heap/\RelV v u/\Q v a
def CR(a:wD)(outer:List Env)(P:Program)(w:World)(H:Hp)(s:Shared)(Q:VK)(E:XK)(r:Result)(s':Shared):Prop:=
 match r with
 | .ok (.ret u)=>CE outer P w H s Q u s'
 | .ok _=>False
 | .error e=>a outer H s E e s'
structure cV(P:Program)(w:World)(K:PySem.W.Frag)(mg:Str->Option Value)(base:Heap)(CX:wD)(k:Nat)(f:Addr)(fd:FuncData)(ps:List Str)(sp:Sp):Prop where
 len:∀vs H Q E,sp vs H Q E->vs.length=ps.length
 run:∀(A:Around) (outer:List Env) (s:Shared) (H:Hp) (args:Args) (us:List Value) (vs:List V) (Q:VK) (E:XK),dv k A->xy P w K mg base A outer s H->BindsTo s fd args (ps.zip us)->Vals vs us->sp vs H Q E->
  codeAny (model P w) A (.call (.ref f) args) (CR CX outer P w H s Q E) s
def cV.imp{P:Program}{w:World}{K:PySem.W.Frag}{e:Str->Option Value}{a:Heap}{g:wD}{k:Nat}{f:Addr}{fd:FuncData}{d:List Str}{sp b:Sp}(F:cV P w K e a g k f fd d sp)
 (h:∀vs H Q E,b vs H Q E->sp vs H Q E):cV P w K e a g k f fd d b:=
 ⟨λvs H Q E q=>F.len vs H Q E (h _ _ _ _ q),λA outer s H c i vs Q E m n o j l=>F.run A outer s H c i vs Q E m n o j (h _ _ _ _ l)⟩
def xy.make{P:Program}{w:World}{K:PySem.W.Frag}{b:Str->Option Value}{a:Heap}{A:Around}{outer:List Env}{s:Shared}{H:Hp}(e:xy P w K b a A outer s H)(C:Addr)(us:List Value)(c:List (Str×Value)):
 xy P w K b a (A.under (.builtin "type.__call__" ⟨.ref C::us,c⟩)) outer s H:=⟨by first|show e.frames|(simpa[Around.under,Code.envs,Code.isFrame,pushEnvs]using e.frames),e.mod,e.bs,e.vt,e.nO,e.zt,e.aO,e.bare,e.gt⟩
section
variable {X:Cx}{pins:List (Addr×Obj)}{σ:St}{H:Hp}{s s':Shared}
def Inv.Sy(I:Inv X pins σ H s):xy X.prog X.w X.K X.mg X.base X.A X.stack s H:=
 ⟨I.ok.frames,I.ok.mod,I.bs,Xy I.ok.vt I.sz,I.stack,I.zz,I.aO,I.bare,I.ok.gt⟩
def Inv.after(I:Inv X pins σ H s)(h:CE X.stack X.prog X.w H s Q u s'):EP X pins σ Q u s':=by
 obtain⟨v,j,e,a,un,i,r,q⟩:=h;obtain⟨f,g,d,t,c⟩:=s';obtain rfl:c=s.os:=e;show⟨v,j,I.call (h':=f) (g':=g) (d':=d) (t':=t) (ch:=[]) un i a (λb z=>absurd z (by simp)),r,q⟩
end
def NO(sp:Sp)(a:List V)(E:XK)(t:TA):TE:=λσ H Q=>t σ H λb H1=>sp (b++a) H1 Q E
def Hl(C:Addr)(m:Str)(sp:Sp)(b:List V)(E:XK)(d:TE)(t:TA):TE:=λσ H Q=>d σ H λx H1=>∃a e fs,x= .ref a/\H1 a=some (.ins C e fs)/\fs.lookup m=none/\
 t σ H1 λc f=>sp (x::(c++b)) f Q E
def H0(C:Addr)(sp:Sp)(b:List V)(E:XK)(t:TA):TE:=λσ H Q=>t σ H λc H1=>∀x a,H1 x=none->H1 a=none->a≠x->
 sp (.ref x::(c++b)) (upd (upd H1 a (.own x)) x (.ins C a [])) (λv d=>v= .av/\Q (.ref x) d) E
def Binds(K:PySem.W.Frag)(fd:FuncData)(a:List Str)(b:List Value):Prop:=
 ∀(s:Shared) (us:List Value),K.In s.heap->(us++b).length=a.length->BindsTo s fd ⟨us,[]⟩ (a.zip (us++b))
def Binds.all{K:PySem.W.Frag}{fd:FuncData}{a:List Str}(h:∀us:List Value,us.length=a.length->bindArgs fd ⟨us,[]⟩=pure (a.zip us)):Binds K fd a []:=λs us _ b=>by
 rw[Zb]at b⊢;show .of_eq (h us b)
def Passes(b:wD)(X:Cx)(E:XK):Prop:=∀(a:List (Addr×Obj)) (σ:St) (H:Hp) (s:Shared) (e:Value) (s':Shared),Inv X a σ H s->b X.stack H s E e s'->X.xe e s'
section
variable {X:Cx}{CX:wD}{k:Nat}{f C:Addr}{fd:FuncData}{ps:List Str}{sp:Sp}{dvs:List V}{ds:List Value}{E:XK}{x m:Str}{p pos apos:Pos}{e o:Expr}{es:List Expr}{ta:TE}{t:TA}
def ER{pins:List (Addr×Obj)}{σ:St}{H:Hp}{s:Shared}{Q:VK}{us:List Value}{vs:List V}(F:cV X.prog X.w X.K X.mg X.base CX k f fd ps sp)(g:dv k X.A)(l:Binds X.K fd ps ds)(j:Vals dvs ds)(d:Passes CX X E)
 (I:Inv X pins σ H s) (r:Vals vs us) (h:sp (vs++dvs) H Q E):wpAny (model X.prog X.w) X.A (call (.ref f) us) (EP X pins σ Q) X.xe s:=by
 let b:Vals (vs++dvs) (us++ds):=r.append j;let i:(us++ds).length=ps.length:=by rw[<-b.length];show F.len _ _ _ _ h
 show wpAny_call (abo (F.run X.A X.stack s H ⟨us,[]⟩ (us++ds) (vs++dvs) Q E g I.Sy (l s us I.iQ i) b h) λr c a=>?_);cases r with
 |error e=>show d pins σ H s e c I a
 |ok n=>
  cases n with
  |ret u=>show I.after a
  |next=>show False.elim a
  |brk=>show False.elim a
  |cont=>show False.elim a
def OZ(F:cV X.prog X.w X.K X.mg X.base CX k f fd ps sp)(i:dv k X.A)(l:Gl X x)(j:X.mg x=some (.ref f))(hk:PySem.W.keepIn X.K (.ref f)=true)(v:Binds X.K fd ps ds)(u:Vals dvs ds)(g:Passes CX X E)
 (w:PA X (e::es) t) (c:(x==("__debug__":Str))=false:=by decide) (n:starEach (e::es) X.env=(false,eval e X.env)::starEach es X.env:=by rfl) (b:(backTo pos (starEach es X.env)).any (·.1)=false:=by rfl):
 PE X (.Call (.Name x p) (e::es) [] pos) (NO sp dvs E t):=by
 intro a s σ H Q I h;show Zr (AE I l j ?_ c);show aa2 (h₀:=X.base) I.ok.mod.KL hk (cp (w pos a s σ H _ I h) λz A ⟨y,H1,d,r,q⟩=>⟨d.iQ,?_⟩) n b;show ER F i v u g d r q
def OY{pl:Sem Bool}(D:PE X o ta)(c:o4 X.K C)(i:Meth X.K C m f)(F:cV X.prog X.w X.K X.mg X.base CX k f fd ps sp)(B:dv k X.A)(J:Binds X.K fd ps ds)(G:Vals dvs ds)(z:Passes CX X E)(K:PA X (e::es) t)
 (d:starEach (e::es) X.env=(false,eval e X.env)::starEach es X.env:=by rfl) (g:(backTo pos (starEach es X.env)).any (·.1)=false:=by rfl)
 (A:eval (.Call (.Attribute o m apos) (e::es) [] pos) X.env=(do
   let ov <-eval o X.env
   standAt apos.atName
   let(f,first) <-holding [ov] (getMethod ov m pl)
   callWith pos f first (backTo pos (starEach (e::es) X.env)) (backToKw pos (keywordEach [] X.env))):=by rfl):
 PE X (.Call (.Attribute o m apos) (e::es) [] pos) (Hl C m sp dvs E ta t):=by
 intro b s σ H Q I h;show abL (pl:=pl) (cp (D b s σ H _ I h) λu v ⟨x,H1,n,w,a,N,fs,ex,L,l,q⟩=>?_) A;subst ex;obtain rfl:u=Value.ref a:=w;show yv n L c i l ?_;show aa2 (first:=[.ref a]) (h₀:=X.base) I.ok.mod.KL i.kp (cp (K pos b v σ H1 _ n q) λus M ⟨vs,O,j,r,y⟩=>⟨j.iQ,?_⟩) d g;show ER (us:= .ref a::us) (vs:= .ref a::vs) F B J G z j (.cons rfl r) y
def L7{pl:Sem Bool}(v:PE X o ta)(c:o4 X.K C)(g:Meth X.K C m f)(F:cV X.prog X.w X.K X.mg X.base CX k f fd ps sp)(r:dv k X.A)(y:Binds X.K fd ps ds)(w:Vals dvs ds)(j:Passes CX X E)
 (n:eval (.Call (.Attribute o m apos) [] [] pos) X.env=(do
   let ov <-eval o X.env
   standAt apos.atName
   let(f,first) <-holding [ov] (getMethod ov m pl)
   callWith pos f first (backTo pos (starEach [] X.env)) (backToKw pos (keywordEach [] X.env))):=by rfl):
 PE X (.Call (.Attribute o m apos) [] [] pos) (Hl C m sp dvs E ta Mi):=by
 intro b s σ H Q I h;show abL (pl:=pl) (cp (v b s σ H _ I h) λu A ⟨x,H1,d,i,a,B,fs,ex,z,l,q⟩=>?_) n;subst ex;obtain rfl:u=Value.ref a:=i;show yv d z c g l ?_;show PySem.W.callWith_K0 (first:=[.ref a]) d.iQ g.kp (ER (us:=[.ref a]) (vs:=[.ref a]) F r y w j d (.cons rfl .nil) q)
structure Mk(K:PySem.W.Frag)(C f:Addr):Prop where
 makes:PySem.W.makesIn K C=true
 init:PySem.W.findIn K (.ref C) "__init__"=some (some (.ref f))
 fn:PySem.W.isFn K (.ref f)=true
 kp:PySem.W.keepIn K (.ref C)=true
def CS{pins:List (Addr×Obj)}{σ:St}{H:Hp}{s:Shared}{Q:VK}{us:List Value}{vs:List V}(M:Mk X.K C f)(F:cV X.prog X.w X.K X.mg X.base CX k f fd ps sp)(q:dv (k+1) X.A)(z:Binds X.K fd ps ds)(y:Vals dvs ds)
 (n:Passes CX X E) (I:Inv X pins σ H s) (r:Vals vs us)
 (h:∀x b,H x=none->H b=none->b≠x->sp (.ref x::(vs++dvs)) (upd (upd H b (.own x)) x (.ins C b [])) (λv D=>v= .av/\Q (.ref x) D) E):
 wpAny (model X.prog X.w) X.A (call (.ref C) us) (EP X pins σ Q) X.xe s:=by
 let g:=h (s.heap.objs.size+1) s.heap.objs.size (I.aO.fresh (Nat.le_succ _)) (I.aO.fresh (Xv _)) (X_ (Yp _));let c:=Inv.made (C:=C) I;let d:Vals (V.ref (s.heap.objs.size+1)::(vs++dvs)) (Value.ref (s.heap.objs.size+1)::(us++ds)):= .cons rfl (r.append y)
 let w:(Value.ref (s.heap.objs.size+1)::us++ds).length=ps.length:=by
  let e:=d.length;rw[F.len _ _ _ _ g]at e;show e.symm
 show wpAny_call (Nh (f:=f) I.iQ M.makes M.init (Zm.mp M.fn) (abo (F.run _ X.stack _ _ ⟨Value.ref (s.heap.objs.size+1)::us,[]⟩ (Value.ref (s.heap.objs.size+1)::(us++ds)) _ _ E (q.make C us [])
  (c.Sy.make C us []) (z _ (Value.ref (s.heap.objs.size+1)::us) c.iQ w) d g) λr i a=>?_))
 cases r with
 |error e=>show n pins σ _ _ e i c a
 |ok A=>
  cases A with
  |ret u=>
   obtain⟨v,G,B,j,ev,l⟩:=c.after a;subst ev;show⟨j,⟨V.ref (s.heap.objs.size+1),G,B,rfl,l⟩⟩
  |next=>show False.elim a
  |brk=>show False.elim a
  |cont=>show False.elim a
def Pp(M:Mk X.K C f)(F:cV X.prog X.w X.K X.mg X.base CX k f fd ps sp)(i:dv (k+1) X.A)(l:Gl X x)(j:X.mg x=some (.ref C))(v:Binds X.K fd ps ds)(u:Vals dvs ds)(g:Passes CX X E)
 (w:PA X (e::es) t) (c:(x==("__debug__":Str))=false:=by decide) (n:starEach (e::es) X.env=(false,eval e X.env)::starEach es X.env:=by rfl) (b:(backTo pos (starEach es X.env)).any (·.1)=false:=by rfl):
 PE X (.Call (.Name x p) (e::es) [] pos) (H0 C sp dvs E t):=by
 intro a s σ H Q I h;show Zr (AE I l j ?_ c);show aa2 (h₀:=X.base) I.ok.mod.KL M.kp (cp (w pos a s σ H _ I h) λz A ⟨y,H1,d,r,q⟩=>⟨d.iQ,?_⟩) n b;show CS M F i v u g d r q
def MA(M:Mk X.K C f)(F:cV X.prog X.w X.K X.mg X.base CX k f fd ps sp)(d:dv (k+1) X.A)(i:Gl X x)(g:X.mg x=some (.ref C))(l:Binds X.K fd ps ds)(j:Vals dvs ds)(c:Passes CX X E)
 (a:(x==("__debug__":Str))=false:=by decide):PE X (.Call (.Name x p) [] [] pos) (H0 C sp dvs E Mi):=by
 intro b s σ H Q I h;show Zr (AE I i g ?_ a);show PySem.W.callWith_K0 I.iQ M.kp (CS (us:=[]) M F d l j c I .nil h)
end
structure ou(N P:List Str)(sc:Scope):Prop where
 kind:sc.kind= .function
 co:sc.isCoroutine=false
 gen:sc.isGenerator=false
 nd:N.Nodup
 pre:N.take P.length=P
 par:∀x∈P,sc.names.lookup x=some .local\/sc.names.lookup x=some .cell
 QW:∀y∈sc.names,y.2≠ .free
def Bd{kindOf:Str->Option NameKind}:∀ {binds:List (Str×Value)} {m:Str->Option Value},(∀v,(x,v)∉binds)->bindL kindOf binds m x=m x
 | [],_,_=>rfl
 |(n,v)::r,m,h=>by
  unfold bindL;rw[Bd λw a=>h w (XN _ a)];split
  . have:x≠n:=by rintro rfl;show h v XX
    simp[this]
  rfl
def BA{kindOf:Str->Option NameKind}:∀ {binds:List (Str×Value)} {m:Str->Option Value},(∀v,(x,v)∉binds)->bindC kindOf binds m x=m x
 | [],_,_=>rfl
 |(n,v)::r,m,h=>by
  unfold bindC;rw[BA λw a=>h w (XN _ a)];split
  . rfl
  have:x≠n:=by rintro rfl;show h v XX
  simp[this]
def AS{kindOf:Str->Option NameKind}:∀ {P:List Str} {vs:List Value} {i:Nat} {m:Str->Option Value},P.Nodup->P[i]?=some x->vs[i]?=some v->kindOf x=some .local->
 bindL kindOf (P.zip vs) m x=some v
 | [],_,_,_,_,h,_,_=>by simp at h
 |_::_,[],_,_,_,_,h,_=>by simp at h
 |p::P,w::vs,0,m,c,b,a,hk=>by
  simp at b a;subst b;subst a;change bindL kindOf ((p,w)::P.zip vs) m p=_;unfold bindL;rw[Bd λv d=>(YF.mp c).1 (aaM d).1,XB hk];simp
 |p::P,w::vs,i+1,m,c,b,a,hk=>by
  change bindL kindOf ((p,w)::P.zip vs) m x=_;unfold bindL;show AS (i:=i) (YF.mp c).2 (by simpa using b) (by simpa using a) hk
def By{kindOf:Str->Option NameKind}:∀ {P:List Str} {vs:List Value} {i:Nat} {m:Str->Option Value},P.Nodup->P[i]?=some x->vs[i]?=some v->kindOf x≠some .local->
 bindC kindOf (P.zip vs) m x=some v
 | [],_,_,_,_,h,_,_=>by simp at h
 |_::_,[],_,_,_,_,h,_=>by simp at h
 |p::P,w::vs,0,m,c,b,a,hk=>by
  simp at b a;subst b;subst a;change bindC kindOf ((p,w)::P.zip vs) m p=_;unfold bindC;rw[BA λv d=>(YF.mp c).1 (aaM d).1,Xx hk];simp
 |p::P,w::vs,i+1,m,c,b,a,hk=>by
  change bindC kindOf ((p,w)::P.zip vs) m x=_;unfold bindC;show By (i:=i) (YF.mp c).2 (by simpa using b) (by simpa using a) hk
def start(N:List Str)(vs:List V):St:=vs.map some++List.replicate (N.length-vs.length) none
def rQ(d:wD)(P:Program)(w:World)(K:PySem.W.Frag)(mg:Str->Option Value)(base:Heap)(N:List Str)(a:Str)(scope:Scope)(f:Addr)(c:Value)(A:Around)(outer:List Env)(s:Shared)(H:Hp)(E:XK):Cx where
 prog:=P
 w:=w
 K:=K
 mg:=mg
 base:=base
 A:=A.deeper (envOfC a scope s.heap.objs.size f c)
 N:=N
 s₀:=s
 H₀:=H
 env:=envOfC a scope s.heap.objs.size f c
 outer:=outer
 stack:=envOfC a scope s.heap.objs.size f c::outer
 ex:=[]
 calm:=true
 fn:=λ_=>true
 pn:=[]
 xe:=λe g=>wpAny (model P w) (A.deeper (envOfC a scope s.heap.objs.size f c)) (leaving (envOfC a scope s.heap.objs.size f c) e) (λ_ b=>d outer H s E e b) (λh b=>d outer H s E h b) g
def C8{a:Scope}(h:a.names.lookup x=some .cell):∃c,(cellsFrom n a.names []).lookup x=some c:=by
 let q:=Zn a.names n [] (.inl h);show ZH.mp q
def Kg{M:wD}{P:Program}{w:World}{K:PySem.W.Frag}{I:Str->Option Value}{l:Heap}{N m:List Str}{d:Str}{scope:Scope}{f:Addr}{G:Value}{A:Around}{outer:List Env}{s J:Shared}{H:Hp}{E:XK}{us:List Value}{vs:List V}
 (S:ou N m scope) (R:A.handled=none) (j:xy P w K I l A outer s H) (U:vs.length=m.length) (r:Vals vs us)
 (x:InCallC s s.heap.objs.size (bindL (envOfC d scope s.heap.objs.size f G).kindOf (m.zip us) λ_=>none) (cellsFrom (s.heap.objs.size+1) scope.names []) (bindC (envOfC d scope s.heap.objs.size f G).kindOf (m.zip us) λ_=>none) J):
 Inv (rQ M P w K I l N d scope f G A outer s H E) [] (start N vs) H J:=by
 let Q:m.length<=N.length:=by let:=YK List.length S.pre;rw[YD]at this;lia
 obtain⟨F,tk,rfl,hk⟩:=x.done;let o:∀b:Addr,b∉(rQ M P w K I l N d scope f G A outer s H E).ex:=λb z=>absurd (show b∈([]:List Addr)from z) (by simp)
 show⟨⟨j.mod,S.kind,rfl,rfl,Xv _,λy z c F g=>?_,λy t=>?_,λy c _ h=>?_,λ_=>R,Around.frames_deeper j.frames,.inr ⟨rfl,rfl⟩,λb z=>absurd z (o b),j.bs,j.vt,λb _ _=>o b,λb z=>absurd z (o b),j.nO,j.zt,j.gt⟩,
  rfl,j.bare,Un.kept hk,⟨_,x.toInCall.ns,λi y v F g W=>?_⟩,λy c h=>⟨_,x.cell y c h⟩,j.aO.fresh (Xv _),λy c h=>?_,λp C=>absurd (show p∈([]:List (Addr×Obj))from C) (by simp),j.aO.kept hk,?_⟩
 . show name_of_addr x.apart (Yr F) (Yr g)
 . have t:scope.names.lookup y=some .cell\/scope.names.lookup y=some .free:=t;rcases t with t|t
   . show C8 t
   show absurd rfl (S.QW _ (Yr t))
 . show YN (x.above y c (Yr h))
 . have D:i<vs.length:=by
    unfold start at g;by_cases D:i<vs.length
    . show D
    rw[Yi (by simpa using D)]at g;rw[aat]at g;split at g<;>cases g
   let T:vs[i]?=some v:=by
    unfold start at g;rw[XA (by simpa using D),XJ]at g;cases e:vs[i]? with
    |none=>rw[e]at g;cases g
    |some a=>rw[e]at g;cases g;rfl
   obtain⟨u,L,O⟩:=r.get T
   let C:m[i]?=some y:=by
    rw[<-S.pre,Zc ()];show F
   let B:m.Nodup:=by rw[<-S.pre];show S.nd.sublist (List.take_sublist _ _)
   show⟨u,O,?_⟩;rcases S.par y (XS C)with k|k
   . show .inl ⟨k,AS B C L k⟩
   obtain⟨c,e⟩:=C8 (n:=s.heap.objs.size+1) k;show .inr ⟨.inl k,c,e,?_⟩;let q:=x.cell y c e;rw[By B C L (by change scope.names.lookup y≠_;rw[k];decide)]at q;show q
 . show j.aO.fresh (YN (x.above y c (Yr h)))
 unfold start;change _=N.length;rw[YC,Xr,List.length_replicate];lia
def Nz{K:PySem.W.Frag}{F:Str->Option Value}{k:Nat}{g:List Stmt}{Y kV B X c ct oc:Value}
  {N D:List Str}  (lk:K.lookup f=some ⟨oc,od,.func (PySem.W.fnOf name a params g scope Y kV B X an c ct),O⟩) (U:PySem.W.codeIn K c a=true) (S:ou N D scope)
 (len:∀vs H Q E,sp vs H Q E->vs.length=D.length)
 (j:∀(A:Around) (outer:List Env) (s:Shared) (H:Hp) (vs:List V) (Q:VK) (E:XK),dv k (A.deeper (envOfC a scope s.heap.objs.size f c))->sp vs H Q E->
   ∃t,jo (rQ G P w K F d N a scope f c A outer s H E) g t/\t {nx:=λ_ h=>Q .av h,rt:=Q} (start N vs) H):
 cV P w K F d G (k+1) f (PySem.W.fnOf name a params g scope Y kV B X an c ct) D sp:=by
 show⟨len,λA outer s H Z us vs Q E T z hb r m=>?_⟩;let hl:=len _ _ _ _ m;let KX:K.In s.heap:=z.mod.KL.keeps λb o e=>(z.bs b o e).1;let R:s.heap.NoLimit:=z.mod.nolimit.keeps λb o e=>(z.bs b o e).1
 let i:∀y∈D.zip us,scope.names.lookup y.1=some .local\/(scope.names.lookup y.1=some .cell/\((cellsFrom (s.heap.objs.size+1) scope.names []).lookup y.1).isSome=true):=λ⟨n,v⟩ hy=>by
  rcases S.par n (aaM hy).1 with q|q
  . show .inl q
  show .inr ⟨q,Zn _ _ _ (.inl q)⟩
 show codeAny_call_function T.depth (KX _ _ lk) rfl S.co S.gen rfl (PySem.W.codeRec_of KX U) (hb _ _ _ _ ?_);show wpAny_newFunctionEnv_cells S.kind i λab he W x=>?_;subst he;show⟨R.keeps x.toInCall.keep,codeAny_func ?_⟩;obtain⟨t,ht,hq⟩:=j A outer s H vs Q E (T.deeper _) m;let I:Inv (rQ G P w K F d N a scope f c A outer s H E) [] (start N vs) H W:=Kg S T.hd z hl r x;show Y3 (ht [] W (start N vs) H _ I hq) (λfl L l=>?_) λe L l=>l
 let p:∀ {C:St} {h:Hp} {v:V} {u:Value},Inv (rQ G P w K F d N a scope f c A outer s H E) [] C h L->RelV v u->Q v h->CE outer P w H s Q u L:=
  λ{C h v u} J M q=>⟨v,h,J.os,J.bare,J.base,J.aO,M,q⟩
 cases fl with
 |ret u=>
  obtain⟨v,C,h,J,M,q⟩:=l;show p J M q
 |next=>
  obtain⟨C,h,J,q⟩:=l;show p (v:=V.av) (u:=Value.none) J rfl q
 |brk=>
  obtain⟨_,_,_,q⟩:=l;show False.elim q
 |cont=>
  obtain⟨_,_,_,q⟩:=l;show False.elim q
section
variable {X:Cx}{x:Str}{p pos:Pos}{e:Expr}{es:List Expr}{t:TA}{id T:String}{r:List V->Hp->VK->Prop}
def SF(r:List V->Hp->VK->Prop)(t:TA):TE:=λσ H Q=>t σ H λa H1=>r a H1 Q
def Nj(q:cA X (.builtin id) r)(n:Gl X x)(m:X.mg x=none)(k:bootBuiltins x=some (.builtin id))(u:PA X (e::es) t)(l:x≠"__name__":=by decide)(c:(x==("__debug__":Str))=false:=by decide)
 (o:starEach (e::es) X.env=(false,eval e X.env)::starEach es X.env:=by rfl) (b:(backTo pos (starEach es X.env)).any (·.1)=false:=by rfl):PE X (.Call (.Name x p) (e::es) [] pos) (SF r t):=by
 intro a s σ H Q I h;show Zr (nH I n m k ?_ l c);show PyProof.Rows.callWith_builtin1 (cp (u pos a s σ H _ I h) λf g ⟨d,H1,v,i,j⟩=>q a g σ H1 d f Q v i j) o b
def Ld(q:cA X (.type T) r)(n:Gl X x)(m:X.mg x=none)(k:bootBuiltins x=some (.type T))(u:PA X (e::es) t)(l:x≠"__name__":=by decide)(c:(x==("__debug__":Str))=false:=by decide)
 (o:starEach (e::es) X.env=(false,eval e X.env)::starEach es X.env:=by rfl) (b:(backTo pos (starEach es X.env)).any (·.1)=false:=by rfl):PE X (.Call (.Name x p) (e::es) [] pos) (SF r t):=by
 intro a s σ H Q I h;show Zr (nH I n m k ?_ l c);show YS (cp (u pos a s σ H _ I h) λf g ⟨d,H1,v,i,j⟩=>q a g σ H1 d f Q v i j) o b
end
end L2
namespace HT
open PySem PyProof.Rows
section
open PySem.SeqAt
open PySem.AutoSeq1 (wpAny_loadPart')
open PySem.MeetsSeq PySem.MeetsSeq2 PySem.MeetsSeq3
end
section
variable {prog:Program}{w:World}{A:Around}{E:Value->Shared->Prop}{s:Shared}
def PK{vs a:List Value}(v:IsTup s.heap t vs.toArray)(x:IsTup s.heap b a.toArray)(o:vs≠ [])
 (z:a=[]->Q (.ref t) s) (y:a≠ []->Q (.ref s.heap.objs.size) {s with heap:=s.heap.push {cls:= .type "tuple",data:= .seq (vs++a).toArray}})
 (k:vs.length+a.length<=sizeLine):wpAny (model prog w) A (binaryOp .Add (.ref t) (.ref b)) Q E s:=by
 obtain⟨⟨cls,r,data,l⟩,j,q,n,p⟩:=id v;obtain⟨⟨u,h,data2,d⟩,c,g,m,f⟩:=id x;simp only at q p g f;subst q p g f;let e:vs.toArray++a.toArray=(vs++a).toArray:=by simp
 by_cases i:a=[]
 . show concat_meets ⟨_,j,rfl⟩ ⟨_,c,rfl⟩ abp seq_tuple_add aaD aau (aal _ _)
    (tuple_addW1 t b vs.toArray a.toArray n m r h l d (by simpa using o) (by simp[i])) ⟨j,c,z i⟩
 show concat_meets ⟨_,j,rfl⟩ ⟨_,c,rfl⟩ abp seq_tuple_add aaD aau (aal _ _)
  (tuple_addW2 t b vs.toArray a.toArray n m r h l d (by simpa using o) (by simpa using i) (by rw[XG,XG];show k)) ⟨j,c,?_⟩
 rw[e];show y i
def cN(n d:Nat):Option Int->Nat
 |none=>d
 |some v=>if v<0 then(v+(n:Int)).toNat else min v.toNat n
def sY(n d:Nat):cN n d none=d:=rfl
def vS(n d k:Nat):cN n d (some (k:Int))=min k n:=by
 change(if(k:Int)<0 then((k:Int)+(n:Int)).toNat else min (k:Int).toNat n)=min k n;rw[Xx (),Yb]
def RC(n d:Nat)(b:d<=n)(o:Option Int):cN n d o<=n:=by
 cases o with
 |none=>show b
 |some v=>
  change(if v<0 then(v+(n:Int)).toNat else min v.toNat n)<=n;by_cases a:v<0
  . rw[XB a];lia
  rw[Xx a];show abq _ _
def FE(v:Int)(n d:Nat):(if v<0 then max (v+(n:Int)) 0 else min v (n:Int))=((cN n d (some v):Nat):Int):=by
 change(if v<0 then max (v+(n:Int)) 0 else min v (n:Int))=(((if v<0 then(v+(n:Int)).toNat else min v.toNat n):Nat):Int)
 by_cases a:v<0
 . simp![XB a];lia
 simp![Xx a];lia
def Hj(a b:Option Int)(n:Nat):Builtin.Slice.sliceAdjust a b 1 (n:Int)=(((cN n 0 a:Nat):Int),((cN n n b:Nat):Int)):=by
 let c:¬((1:Int)<0):=()
 unfold Builtin.Slice.sliceAdjust;simp![c,Z9];show Prod.ext ?_ ?_
 . cases a with
   |none=>rfl
   |some v=>show FE v n 0
 cases b with
 |none=>rfl
 |some v=>show FE v n n
def HY(i j:Nat):Builtin.Slice.slicePlaces (i:Int) (j:Int) 1=j-i:=by
 unfold Builtin.Slice.slicePlaces;let a:(1:Int)>0:=()
 simp![a,aar,Int.ediv_one];split<;>lia
def zf(p:IsPart v o)(h:Q o s):wpAny (model prog w) A (Builtin.Slice.slicePartIndex v) Q E s:=by
 cases p with
 |none=>show slicePart_none h
 |int i t=>show slicePart_int h
def qA{g:Addr}{f e:Value}{a c:Option Int}{n:Nat}{Q:Int×Int×Nat->Shared->Prop}(j:s.heap.IsSliceOf g f e .none)(pl:IsPart f a)(i:IsPart e c)
 (h:Q (((cN n 0 a:Nat):Int),1,cN n n c-cN n 0 a) s):wpAny (model prog w) A (Builtin.Slice.sliceApplied (.ref g) (pure (n:Int))) Q E s:=by
 obtain⟨l,b,k,d⟩:=id j;unfold Builtin.Slice.sliceApplied Builtin.Slice.sliceFields;show Xw (Xw (Y6 b d (x:=f) rfl (Xw (Y6 b d (x:=e) rfl (Xw (Y6 b d (x:= .none) rfl (XM ?_)))))));show Xw (slicePart_none ?_);change wpAny _ _ (if((1:Int)==0)=true then _ else _) _ _ s;rw[Xx ⋯];show Xw (zf pl (Xw (zf i (Xw (XM ?_)))));change wpAny _ _ (match Builtin.Slice.sliceAdjust a c 1 (n:Int)with|(a,c)=>pure (a,(1:Int),Builtin.Slice.slicePlaces a c 1)) _ _ s;rw[Hj a c n];change wpAny _ _ (pure (((cN n 0 a:Nat):Int),(1:Int),Builtin.Slice.slicePlaces ((cN n 0 a:Nat):Int) ((cN n n c:Nat):Int) 1)) _ _ s;rw[HY];show XM h
def ML(xs:Array Value)(i k:Nat):((List.range k).filterMap λ(m:Nat)=>xs[((i:Int)+(m:Int)*1).toNat]?).toArray=((xs.toList.drop i).take k).toArray:=by
 let e:(λ(m:Nat)=>xs[((i:Int)+(m:Int)*1).toNat]?)=λm=>xs[i+m]?:=by
  funext m;let:((i:Int)+(m:Int)*1).toNat=i+m:=()
  rw[this]
 rw[e];let:=pick_run xs i k;rw[List.filterMap_map]at this;let a:((λx=>xs[x]?)∘λx=>i+x)=λm=>xs[i+m]?:=rfl;rw[a]at this;rw[this]
def wu{t e:Addr}{items:Array Value}{l k:Value}(d:IsTup s.heap t items)(n:s.heap.IsSliceOf e l k .none)(pl:IsPart l b)(o:IsPart k c)
 (r:¬(cN items.size 0 b=0/\cN items.size items.size c=items.size))
 (h:Q (.ref s.heap.objs.size) {s with heap:=s.heap.push {cls:= .type "tuple",data:= .seq ((items.toList.drop (cN items.size 0 b)).take (cN items.size items.size c-cN items.size 0 b)).toArray}})
 (u:items.size<=sizeLine):wpAny (model prog w) A (getItem (.ref t) (.ref e)) Q E s:=by
 let a:sizeOk (.seq ((items.toList.drop (cN items.size 0 b)).take (cN items.size items.size c-cN items.size 0 b)).toArray):=by
  change((items.toList.drop (cN items.size 0 b)).take (cN items.size items.size c-cN items.size 0 b)).toArray.size<=sizeLine;rw[XG,YD,YG,ZN];lia
 let z:cN items.size items.size c<=items.size:=RC _ _ (Xv _) c;obtain⟨p,f,i,v⟩:=id n;let j:s.TypeIs (.ref e) "slice":=⟨p,f,i⟩
 unfold getItem;try with_reducible show Zx ?_
 first|show Xw (XM ?_)|skip
 show Xw (wpAny_sequenceKey d.typeIs ⋯ ?_)
 show Xw (YT (name:=Str.ofString "__getitem__") d.typeIs YJ
  (Zl YJ d.typeIs entry_tuple_getitem ?_ (args_tuple_getitem _ _)))
 change wpAny _ _ (Builtin.Tuple.tupleItemsOf (.ref t) >>= _) _ _ s;show Xw (tupleItemsOf_ d ?_);show Xw (wpAny_typeOf j ?_);rw[XB ⋯];show Xw (qA n pl o ?_)
 let g:¬((((cN items.size 0 b:Nat):Int)==0&&(1:Int)==1&&(cN items.size items.size c-cN items.size 0 b)==items.size)=true):=by
  intro q;rw[Ym,Ym]at q;let y:((cN items.size 0 b:Nat):Int)=0:=eq_of_beq q.1.1;let x:cN items.size items.size c-cN items.size 0 b=items.size:=eq_of_beq q.2;show r ⟨by lia,by lia⟩
 change wpAny _ _ (if(((cN items.size 0 b:Nat):Int)==0&&(1:Int)==1&&(cN items.size items.size c-cN items.size 0 b)==items.size)=true then _ else _) _ _ s;rw[Xx g,ML]
 first
  |show Xw (m:=Builtin.Tuple.tupleExact _) (Zg (XM ⟨_,rfl,XM h⟩) a)
  |show Xw (m:=Builtin.Tuple.tupleExact _) (Zg (Xw (XM (XM ⟨_,rfl,XM h⟩))) a)
  |show Xw (Xw (m:=Builtin.Tuple.tupleExact _) (Zg (XM (XM ⟨_,rfl,XM h⟩)) a))
  |show Xw (Xw (m:=Builtin.Tuple.tupleExact _) (Zg (XM ⟨_,rfl,XM h⟩) a))
end
end HT
namespace L2
open PySem PySem.Spec PyProof.Rows
abbrev TO:=St->Hp->(Option Int->Hp->Prop)->Prop
def PO(X:Cx)(e:Option Expr)(t:TO):Prop:=
 ∀(a:List (Addr×Obj)) (s:Shared) (σ:St) (H:Hp) (Q:Option Int->Hp->Prop),Inv X a σ H s->t σ H Q->
  wpAny (model X.prog X.w) X.A (evalPart e X.env) (λu c=>∃o b,Inv X a σ b c/\IsPart u o/\Q o b) X.xe s
def Qd:TO:=λ_ H Q=>Q none H
def Ub(t:TE):TO:=λσ H Q=>t σ H λx H1=>∃i,x= .int i/\Q (some i) H1
section
variable {X:Cx}{e:Expr}{te:TE}{lo hi:Option Expr}{tl th:TO}{pos p2:Pos}
def Ph:PO X none Qd:=by
 intro a s σ H Q I h;rw[evalPart_none];show XM ⟨none,H,I,.none,h⟩
def PJ(h:PE X e te):PO X (some e) (Ub te):=by
 intro a s σ H Q I d;rw[evalPart_some];show cp (h a s σ H _ I d) λu g ⟨x,H1,f,b,c⟩=>?_;obtain⟨i,rfl,q⟩:=c;obtain⟨t,rfl⟩:=b;show⟨some i,H1,f,.int i t,q⟩
def Ka(X:Cx)(r:V->Option Int->Option Int->Hp->VK->Prop):Prop:=
 ∀(a:List (Addr×Obj)) (s:Shared) (σ:St) (H:Hp) (x:V) (v vl vu:Value) (lo hi:Option Int) (sl:Addr) (Q:VK),Inv X a σ H s->RelV x v->s.heap.IsSliceOf sl vl vu .none->IsPart vl lo->IsPart vu hi->r x lo hi H Q->
  ∃T b,typeLookup (.type T) "__getitem__"=pure (some (.builtin b))/\s.TypeIs v T/\wpAny (model X.prog X.w) X.A (getItem v (.ref sl)) (EP X a σ Q) X.xe s
def Xf(r:V->Option Int->Option Int->Hp->VK->Prop)(te:TE)(tl th:TO):TE:=λσ H Q=>te σ H λx H1=>tl σ H1 λl b=>th σ b λu a=>r x l u a Q
def MC(y:Ka X r)(B:PE X e te)(z:PO X lo tl)(t:PO X hi th):PE X (.Subscript e (.Slice lo hi none p2) pos) (Xf r te tl th):=by
 intro a s σ H Q I h;show Subscript_ (cp (B a s σ H _ I h) λv j ⟨x,H1,G,k,o⟩=>?_);show wpAny_Slice (cp (z a j σ H1 _ G o) λf i ⟨l,J,F,pl,n⟩=>cp (t a i σ J _ F n) λd c ⟨u,g,E,p,m⟩=>?_);rw[evalPart_none];show XM ?_;let D:Inv X a σ g {c with heap:=c.heap.push {cls:= .type "slice",data:= .fields #[f,d,.none]}}:=E.kept (t':=c.toks) λb K q=>XF _ q;obtain⟨T,L,C,w,A⟩:=y a {c with heap:=c.heap.push {cls:= .type "slice",data:= .fields #[f,d,.none]}} σ g x v f d l u c.heap.objs.size Q D k (Heap.IsSliceOf.new ..) pl p m;change wpAny (model X.prog X.w) X.A (subscriptTail e (.Slice lo hi none p2) v (.ref c.heap.objs.size)) (EP X a σ Q) X.xe {c with heap:=c.heap.push {cls:= .type "slice",data:= .fields #[f,d,.none]}};show tail_any (ops:=[.ref c.heap.objs.size,v]) w C A (by with_unfolding_all rfl)
def sU(xs:List V)(lo hi:Option Int):List V:=(xs.drop (HT.cN xs.length 0 lo)).take (HT.cN xs.length xs.length hi-HT.cN xs.length 0 lo)
def wH(xs:List V)(lo hi:Option Int):(sU xs lo hi).length<=xs.length:=by
 unfold sU;rw[YD,YG];lia
def WC(K:PySem.W.Frag):V->Option Int->Option Int->Hp->VK->Prop:=λx lo hi H Q=>∃a b,x= .ref a/\kY K H a b/\
 ¬(HT.cN b.length 0 lo=0/\HT.cN b.length b.length hi=b.length)/\∀p,H p=none->Q (.ref p) (upd H p (.tup (sU b lo hi)))
def Rq:Ka X (WC X.K):=by
 intro f s σ H x v u t lo hi w Q I j n pl k h;obtain⟨a,d,rfl,l,m,q⟩:=h;cases j;obtain⟨p,r,i,g⟩:=I.tuple l;let c:p.toArray.size=d.length:=by rw[XG];show r.length.symm
 show⟨"tuple",_,YJ.lookup,i.typeIs,?_⟩;show HT.wu i n pl k (by rw[c];show m) ?_ (by rw[c];show g);rw[c];show⟨.ref s.heap.objs.size,_,I.laid (t':=s.toks) (o:= .tup (sU d lo hi)) (λb y q=>XF _ q) (Xv _) ?_,rfl,q _ (I.aO.fresh (Xv _))⟩;show⟨Xy (wH d lo hi) g,_,(r.drop (HT.cN d.length 0 lo)).take (HT.cN d.length d.length hi-HT.cN d.length 0 lo),IsTup.new _ _⟩
def Ud(K:PySem.W.Frag):R2:=λx y H Q=>∃a b d c,x= .ref a/\y= .ref b/\kY K H a d/\kY K H b c/\d≠ []/\d.length+c.length<=sizeLine/\
 (c=[]->Q (.ref a) H)/\(c≠ []->∀p,H p=none->Q (.ref p) (upd H p (.tup (d++c))))
def Vals.v_(r:Vals xs us):us=[]↔xs=[]:=by
 cases r with
 |nil=>simp
 |cons _ _=>simp
def O7:cu X (binaryOp .Add) (Ud X.K):=by
 intro f s σ H x y v u Q I m l h;obtain⟨a,b,k,j,rfl,rfl,B,A,t,i,p,n⟩:=h;cases m;cases l;obtain⟨D,d,r,_⟩:=I.tuple B;obtain⟨g,c,p2,_⟩:=I.tuple A;show HT.PK r p2 (λz=>t (d.v_.mp z)) (λz=>⟨.ref a,H,I,rfl,p (c.v_.mp z)⟩) (λz=>?_) (by rw[<-d.length,<-c.length];show i);show⟨.ref s.heap.objs.size,_,I.laid (t':=s.toks) (o:= .tup (k++j)) (λb C q=>XF _ q) (Xv _) ?_,rfl,n (λw=>z (c.v_.mpr w)) _ (I.aO.fresh (Xv _))⟩;show⟨by rw[YC];show i,_,d.append c,IsTup.new _ _⟩
end
def kE(n:Nat)(i:Int):Option Nat:=if 0<=i then(if i<n then some i.toNat else none)else if-(n:Int)<=i then some (i+n).toNat else none
def eF{α:Type}(xs:List α)(i:Int):Option α:=(kE xs.length i).bind λj=>xs[j]?
def zM(h:kE n i=some j):seqIndex? i n=some j/\j<n/\ -(n:Int)<=i/\i<n:=by
 unfold kE at h;by_cases b:0<=i
 . rw[XB b]at h;by_cases a:i<n
   . rw[XB a]at h;let e:i.toNat=j:=Yx h;show⟨by rw[abI b a,e],by lia,by lia,a⟩
   rw[Xx a]at h;cases h
 rw[Xx b]at h;by_cases a: -(n:Int)<=i
 . rw[XB a]at h;let e:(i+n).toNat=j:=Yx h;show⟨by rw[seqIndex_neg () a,e],by lia,a,by lia⟩
 rw[Xx a]at h;cases h
def zI{α:Type}{xs:List α}{v:α}(h:eF xs i=some v):∃j,seqIndex? i xs.length=some j/\xs[j]?=some v/\j<xs.length/\ -(xs.length:Int)<=i/\i<xs.length:=by
 unfold eF at h;cases e:kE xs.length i with
 |none=>rw[e]at h;cases h
 |some j=>
  rw[e]at h;obtain⟨d,c,b,a⟩:=zM e;show⟨j,d,h,c,b,a⟩
def fb{α:Type}{xs:List α}{j:Nat}{v:α}(h:xs[j]?=some v):eF xs (j:Int)=some v:=by
 let a:j<xs.length:=(Xs.mp h).1
 let e:kE xs.length (j:Int)=some j:=by
  unfold kE;rw[XB (),XB ()];simp
 unfold eF;rw[e];show h
def vZ(b:Expr):Prop:=∀o i,subscripted b false o i=operate [o,i] (getItem o i)
def Nv(X:Cx)(r:R2):Prop:=
 ∀(value slice:Expr) (pins:List (Addr×Obj)) (s:Shared) (σ:St) (H:Hp) (x y:V) (v u:Value) (Q:VK),Inv X pins σ H s->RelV x v->RelV y u->r x y H Q->
  subscripted slice false v u=operate [v,u] (getItem v u)->wpAny (model X.prog X.w) X.A (subscriptTail value slice v u) (EP X pins σ Q) X.xe s
def TC(X:Cx)(id:String)(r:V->List V->Hp->VK->Prop):Prop:=
 ∀(a:List (Addr×Obj)) (s:Shared) (σ:St) (H:Hp) (x:V) (xs:List V) (v:Value) (us:List Value) (Q:VK),Inv X a σ H s->RelV x v->Vals xs us->r x xs H Q->
  wpAny (model X.prog X.w) X.A (call (.builtin id) (v::us)) (EP X a σ Q) X.xe s
section
variable {X:Cx}{a b:Expr}{ta tb:TE}{pos:Pos}
def Ut(i:Nv X r)(k:PE X a ta)(j:PE X b tb)(g:vZ b):PE X (.Subscript a b pos) (Jq r ta tb):=by
 intro c s σ H Q I h;show Subscript_ (Nf k j I h λv u d x y m l f e q=>i a b c d σ m x y v u Q l f e q (g _ _))
def Wz(K:PySem.W.Frag):R2:=λx y H Q=>∃p c i v,x= .ref p/\y= .int i/\oQ K H p c/\eF c i=some v/\Q v H
def V1(K:PySem.W.Frag):R2:=λx y H Q=>∃p c i v,x= .ref p/\y= .int i/\kY K H p c/\eF c i=some v/\Q v H
def F0:Nv X (Wz X.K):=by
 intro value slice c s σ H x y v u Q I A o h k;obtain⟨p,K,i,z,rfl,rfl,B,D,q⟩:=h;cases A;obtain⟨t,rfl⟩:=o;obtain⟨J,r,pl,L⟩:=I.list B;obtain⟨j,e,G,N,F,E⟩:=zI D;obtain⟨w,m,f⟩:=r.get G;let C:=r.length;let M:=sE;let d:EP X c σ Q w s:=⟨z,H,I,f,q⟩
 by_cases l:0<=i
 . have g:i.toNat=j:=by
    rw[abI l E]at e;show Yx e
   show item_listR pl.isList l () (by rw[g];simpa using m) d k
 have g:(i+(J.toArray.size:Int)).toNat=j:=by
  rw[seqIndex_neg () F]at e;rw[XG,<-C];show Yx e
 show subscriptTail_builtinR (x:=w) pl.isList.typeIs slot_list_getitem.lookup
  (wpAny_getItem_list_neg (Q:=λr n=>r=w/\EP X c σ Q r n) pl.isList () (by rw[XG]<;>lia) () (by rw[g];simpa using m) ⟨rfl,d⟩) k
def RZ:Nv X (V1 X.K):=by
 intro value slice c s σ H x y v u Q I k g h l;obtain⟨p,D,i,z,rfl,rfl,m,o,q⟩:=h;cases k;obtain⟨t,rfl⟩:=g;obtain⟨L,r,pl,E⟩:=I.tuple m;obtain⟨j,B,A,K,J,G⟩:=zI o;obtain⟨w,C,d⟩:=r.get A;let n:=r.length;let F:=sE;let e:EP X c σ Q w s:=⟨z,H,I,d,q⟩
 show subscriptTail_builtinR (x:=w) pl.typeIs slot_tuple_getitem.lookup
  (getItem_tuple (j:=j) (Q:=λr f=>r=w/\EP X c σ Q r f) pl () () (by rw[XG,<-n];show B) (by simpa using C) ⟨rfl,e⟩) l
def G8(aq:List Value)(n j:Nat)(u:Value):Obj.mapSeq (·.setIfInBounds j u) {cls:= .type "list",data:= .seq aq.toArray n}= {cls:= .type "list",data:= .seq (aq.set j u).toArray n}:=by
 simp[Obj.mapSeq]
def Inv.lst{pins:List (Addr×Obj)}{σ:St}{H:Hp}{s:Shared}{p:Addr}{xs:List V}(I:Inv X pins σ H s)(h:H p=some (.lst xs)):
 ∃(aq:List Value) (n:Nat),Vals xs aq/\s.heap.get? p=some {cls:= .type "list",data:= .seq aq.toArray n}/\xs.length<=sizeLine:=by
 obtain⟨z,aq,n,r,e⟩:=I.aO p _ h;show⟨aq,n,r,e,z⟩
def Inv.Ti{pins:List (Addr×Obj)}{σ:St}{H:Hp}{s:Shared}{p:Addr}{xs ys:List V}{aq its':List Value}{n c:Nat}{f:Obj->Obj}(I:Inv X pins σ H s)(h:H p=some (.lst xs))
 (i:s.heap.get? p=some {cls:= .type "list",data:= .seq aq.toArray n}) (d:f {cls:= .type "list",data:= .seq aq.toArray n}= {cls:= .type "list",data:= .seq its'.toArray c}) (r:Vals ys its') (g:ys.length<=sizeLine) (t:Nat):
 Inv X pins σ (upd H p (.lst ys)) {s with heap:=s.heap.update p f,toks:=t}:=by
 let e:(s.heap.update p f).get? p=some {cls:= .type "list",data:= .seq its'.toArray c}:=by
  rw[aaI f i (by rw[d]<;>rfl),d]
 show I.write (x:=p) (e:=p) (by rw[h];trivial) (.inl rfl) (λb u j q=>(Heap.get?_update_other _ _ (XI j)).trans q) ⟨_,e⟩ ?_;show⟨g,its',c,r,e⟩
def Cb:V->V->V->Hp->(Hp->Prop)->Prop:=λo i v H Q=>∃p c k j,o= .ref p/\i= .int k/\H p=some (.lst c)/\kE c.length k=some j/\Q (upd H p (.lst (c.set j v)))
def set_list:MV X Cb:=by
 intro c s σ H o i v F G u Q I B C A h;obtain⟨p,z,k,j,rfl,rfl,g,E,q⟩:=h;cases B;obtain⟨t,rfl⟩:=C;obtain⟨x,n,r,e,D⟩:=I.lst g;obtain⟨d,K,m,l⟩:=zM E;let f:=r.length;let J:=sE
 let y:Inv X c σ (upd H p (.lst (z.set j v))) {s with heap:=s.heap.update p (Obj.mapSeq (·.setIfInBounds j u))}:=
  I.Ti g e (G8 x n j u) (r.set A j) (by rw[XH];show D) s.toks
 by_cases w:0<=k
 . have hk:k.toNat=j:=by
    rw[abI w l]at d;show Yx d
   show PySem.W.ki_setAt e w () (by rw[XG,<-f];show l) (by rw[hk];show⟨_,y,q⟩)
 have hk:(k+(x.toArray.size:Int)).toNat=j:=by
  rw[seqIndex_neg () m]at d;rw[XG,<-f];show Yx d
 show PySem.W.ki_setBack e () (by rw[XG,<-f];show m) () (by rw[hk];show⟨_,y,q⟩)
def D5(c d:Option Int)(n:Nat):(sliceBounds c d none n).1=((HT.cN n 0 c:Nat):Int)/\(sliceBounds c d none n).2.1=((HT.cN n n d:Nat):Int)/\(sliceBounds c d none n).2.2=1:=by
 show⟨?_,?_,rfl⟩
 . cases c with
   |none=>simp[sliceBounds,HT.cN]
   |some i=>
    simp![sliceBounds,HT.cN,Option.getD_none,show(1:Int)>0 by decide,aar];by_cases h:i<0
    . simp![h,aar]<;>lia
    simp![h,Z9]<;>lia
 cases d with
 |none=>simp[sliceBounds,HT.cN]
 |some i=>
  simp![sliceBounds,HT.cN,Option.getD_none,show(1:Int)>0 by decide,aar];by_cases h:i<0
  . simp![h,aar]<;>lia
  simp![h,Z9]<;>lia
def BG(aq:List Value)(c d:Option Int):slicePick aq.toArray c d none=((aq.drop (HT.cN aq.length 0 c)).take (HT.cN aq.length aq.length d-HT.cN aq.length 0 c)).toArray:=by
 obtain⟨g,f,e⟩:=D5 c d aq.toArray.size;unfold slicePick;rw[g,f,e];simp![sliceRange_one,pick_run,XG]<;>rfl
def Wq(K:PySem.W.Frag):V->Option Int->Option Int->Hp->VK->Prop:=λx d e H Q=>∃a c,x= .ref a/\oQ K H a c/\∀p,H p=none->Q (.ref p) (upd H p (.lst (sU c d e)))
def FD:Ka X (Wq X.K):=by
 intro g s σ H x v t p e f u Q I j n pl k h;obtain⟨a,c,rfl,m,q⟩:=h;cases j;obtain⟨y,r,i,l⟩:=I.list m;let d:=r.length;show⟨"list",_,slot_list_getitem.lookup,i.isList.typeIs,?_⟩;show wpAny_getItem_list_slice i.isList n pl k .none (by simp) ?_ (by rw[XG]<;>lia);rw[BG,<-d];show⟨.ref s.heap.objs.size,_,I.laid (t':=s.toks) (o:= .lst (sU c e f)) (λb w q=>XF _ q) (Xv _) ?_,rfl,q _ (I.aO.fresh (Xv _))⟩;show⟨Xy (wH c e f) l,_,0,(r.drop (HT.cN c.length 0 e)).take (HT.cN c.length c.length f-HT.cN c.length 0 e),X5 _ rfl⟩
def Dx:cA X (.builtin "len") (λxs H Q=>∃p ys,xs=[.ref p]/\(oQ X.K H p ys\/kY X.K H p ys)/\Q (.int ys.length) H):=by
 intro f s σ H xs k Q I r h;obtain⟨p,ys,rfl,d,q⟩:=h;obtain⟨u,rfl,g⟩:=vals1 r;cases g;let l:=sE;rcases d with d|d
 . obtain⟨j,e,pl,i⟩:=I.list d;let c:=e.length;show Calls.call_len_list pl.isList (by simp![XG]<;>lia) ⟨.int ys.length,H,I.tok _,⟨s.toks+1,by rw[XG,c]⟩,q⟩
 obtain⟨j,e,pl,i⟩:=I.tuple d;let c:=e.length;show len_tuple pl (by simp![XG]<;>lia) ⟨.int ys.length,H,I.tok _,⟨s.toks+1,by rw[XG,c]⟩,q⟩
def DC:cA X (.builtin "len") (λxs H Q=>∃z,xs=[.str z]/\z.length<=sizeLine/\Q (.int z.length) H):=by
 intro c s σ H xs d Q I r h;obtain⟨z,rfl,e,q⟩:=h;obtain⟨u,rfl,t,rfl⟩:=vals1 r;let f:=sE;show len_str () ⟨.int z.length,H,I.tok _,⟨_,rfl⟩,q⟩
def vB:cA X (.type "list") (λxs H Q=>∃p ys,xs=[.ref p]/\(oQ X.K H p ys\/kY X.K H p ys)/\∀l,H l=none->Q (.ref l) (upd H l (.lst ys))):=by
 intro i s σ H xs B Q I r h;obtain⟨p,ys,rfl,m,q⟩:=h;obtain⟨u,rfl,A⟩:=vals1 r;cases A
 let v:∀(d:List Value),Vals ys d->ys.length<=sizeLine->∀(c:Heap) (g:Nat),(∀b z,s.heap.get? b=some z->c.get? b=some z)->
  c.get? s.heap.objs.size=some {cls:= .type "list",dict:=none,data:= .seq d.toArray g,slots:= #[]}->EP X i σ Q (.ref s.heap.objs.size) {s with heap:=c}:=λd f k c g j e=>
  ⟨.ref s.heap.objs.size,_,I.laid (t':=s.toks) j (Xv _) (show eH X.prog X.w _ c _ (.lst ys)from⟨k,d,g,f,e⟩),rfl,q _ (I.aO.fresh (Xv _))⟩
 rcases m with m|m
 . obtain⟨d,f,pl,k⟩:=I.list m;let t:=f.length;obtain⟨o,w,y,n,x⟩:=pl.isList;show call_list_seq p (.inl rfl) w y x (λc g j e=>v d f k c g j e) (by simp![XG]<;>lia)
 obtain⟨d,f,pl,k⟩:=I.tuple m;let t:=f.length;obtain⟨o,w,y,n,x⟩:=pl;show call_list_seq p (.inr rfl) w y x (λc g j e=>v d f k c g j e) (by simp![XG]<;>lia)
def BV:cA X (.type "tuple") (λxs H Q=>∃p ys,xs=[.ref p]/\((oQ X.K H p ys/\∀l,H l=none->Q (.ref l) (upd H l (.tup ys)))\/(kY X.K H p ys/\Q (.ref p) H))):=by
 intro c s σ H xs w Q I r h;obtain⟨p,ys,rfl,h⟩:=h;obtain⟨u,rfl,n⟩:=vals1 r;cases n;rcases h with⟨g,q⟩|⟨g,q⟩
 . obtain⟨i,f,pl,j⟩:=I.list g;let k:=f.length;show call_tuple_list pl.isList (λd t=>?_) (by simp![XG]<;>lia);let m:Inv X c σ H {s with heap:=d}:=I.kept (t':=s.toks) t
   let v:Inv X c σ (upd H d.objs.size (.tup ys)) {s with heap:=d.push {cls:= .type "tuple",data:= .seq i.toArray}}:=
    m.laid (t':=s.toks) (λb o e=>XF _ e) (Xv _) (show eH X.prog X.w _ _ _ (.tup ys)from⟨j,i,f,IsTup.new _ _⟩)
   show⟨.ref d.objs.size,_,v,rfl,q _ (m.aO.fresh (Xv _))⟩
 obtain⟨i,f,pl,j⟩:=I.tuple g;show call_tuple_same pl ⟨.ref p,H,I,rfl,q⟩
def Ts(K:PySem.W.Frag)(T:String)(x:V)(H:Hp):Prop:=match x with
 | .str _=>T="str"
 | .int _=>T="int"
 | .ref p=>(T="list"/\∃d,oQ K H p d)\/(T="tuple"/\∃o,K.lookup p=some o/\o.cls= .type "tuple"/\o.dict=none)\/
    (T="dict"/\((∃c,H p=some (.dK c))\/∃c,H p=some (.dT c)))\/(T="set"/\∃S n,H p=some (.set S n))
 |_=>False
def JM{pins:List (Addr×Obj)}{σ:St}{H:Hp}{s:Shared}{T:String}{x:V}{v:Value}(I:Inv X pins σ H s)(r:RelV x v)(d:Ts X.K T x H):
 s.TypeIs v T/\∀a,v= .ref a->∃j,s.heap.get? a=some j/\j.dict=none:=by
 cases x with
 |str z=>
  obtain⟨t,rfl⟩:=r;cases (show T="str" from d);show⟨typeIs_str s z t,λ_ e=>nomatch e⟩
 |int i=>
  obtain⟨t,rfl⟩:=r;cases (show T="int" from d);show⟨abj s i t,λ_ e=>nomatch e⟩
 |ref p=>
  cases r;rcases d with⟨rfl,m,k⟩|⟨rfl,o,hk,l,g⟩|⟨rfl,hk⟩|⟨rfl,S,n,hk⟩
  . obtain⟨q,_,pl,_⟩:=I.list k;show⟨pl.isList.typeIs,λa e=>?_⟩;cases e;obtain⟨o,n,e,c,g,_⟩:=pl;show⟨o,e,g⟩
  . show⟨⟨o,I.iQ p o hk,l⟩,λa e=>?_⟩;cases e;show⟨o,I.iQ _ o hk,g⟩
  . have z:∃o,s.heap.get? p=some o/\o.ExactDict:=by
     rcases hk with⟨f,hk⟩|⟨f,hk⟩
     . obtain⟨_,_,_,_,o,_,_,e,ex,_⟩:=I.aO p _ hk;show⟨o,e,ex⟩
     obtain⟨_,_,_,_,o,_,_,e,ex,_⟩:=I.aO p _ hk;show⟨o,e,ex⟩
    obtain⟨o,e,ex⟩:=z;show⟨⟨o,e,ex.1⟩,λa h=>?_⟩;cases h;show⟨o,e,ex.2.1⟩
  obtain⟨o,_,_,_,e,ex,_⟩:=I.aO p _ hk;show⟨⟨o,e,ex.1⟩,λa h=>?_⟩;cases h;show⟨o,e,ex.2.1⟩
 |_=>show False.elim d
def M1(K:PySem.W.Frag)(T:String)(r:V->List V->Hp->VK->Prop)(to:TE):TE:=λσ H Q=>to σ H λx H1=>Ts K T x H1/\r x [] H1 Q
def VC(K:PySem.W.Frag)(T:String)(r:V->List V->Hp->VK->Prop)(to:TE)(t:TA):TE:=λσ H Q=>to σ H λx H1=>Ts K T x H1/\t σ H1 λc d=>r x c d Q
variable {o e:Expr}{es:List Expr}{to:TE}{t:TA}{name:Str}{apos cpos:Pos}{T id:String}{r:V->List V->Hp->VK->Prop}
def Jz(n:PlainAttrs T)(slot:Slot T name id)(g:typeOf (.builtin id)=pure (.type "method_descriptor"))(q:TC X id r)(p:PE X o to)
 (f:attributeBase o name X.env (eval o X.env)=eval o X.env:=by rfl) (d:(apos.endLine==cpos.line)=true:=by rfl):PE X (.Call (.Attribute o name apos) [] [] cpos) (M1 X.K T r to):=by
 intro c s σ H Q I h;show wpAny_Call_method0_late f d (cp (p c s σ H _ I h) λv l ⟨x,H1,j,i,k,m⟩=>?_);obtain⟨w,u⟩:=JM j i k;show⟨T,id,n,slot,g,w,u,Calls.callWith_builtin rfl (PySem.evalArgs_none (q c l σ H1 x [] v [] Q j i .nil m))⟩
def Vd(B:PlainAttrs T)(slot:Slot T name id)(j:typeOf (.builtin id)=pure (.type "method_descriptor"))(E:TC X id r)(D:PE X o to)(F:PA X (e::es) t)
 (g:attributeBase o name X.env (eval o X.env)=eval o X.env:=by rfl)
 (i:((backTo cpos (starEach (e::es) X.env)).all (λx=> !x.1)&&(backToKw cpos (keywordEach [] X.env)).all (λx=>x.1.isSome)
   &&decide ((e::es).length+([]:List Keyword).length+(if([]:List Keyword).isEmpty then 0 else 1)<30))=true:=by rfl)
 (f:(apos.endLine==cpos.line)=true:=by rfl) (C:starEach (e::es) X.env=(false,eval e X.env)::starEach es X.env:=by rfl) (d:(backTo cpos (starEach es X.env)).any (·.1)=false:=by rfl):
 PE X (.Call (.Attribute o name apos) (e::es) [] cpos) (VC X.K T r to t):=by
 intro c s σ H Q I h;show wpAny_Call_method_late g i f rfl (cp (D c s σ H _ I h) λv w ⟨x,H1,m,k,q,A⟩=>?_);obtain⟨J,G⟩:=JM m k q;show⟨T,id,B,slot,j,J,G,?_⟩;let l:=F cpos c w σ H1 _ m A;rw[C]at l⊢;show Calls.callWith_builtin (by change(false||(backTo cpos (starEach es X.env)).any (·.1))=false;rw[d]<;>rfl) (Calls.evalArgs_plain ?_);show cp l λp u ⟨n,L,K,y,z⟩=>E c u σ L x n v p Q K k y z
/-xs.append(e),list.index on a module's tuple .. are TC facts of 06m-/
end
def Tz(X:Cx)(id:String)(r:V->List V->Hp->VK->Prop):Prop:=
 ∀(a:List (Addr×Obj)) (s:Shared) (σ:St) (H:Hp) (x:V) (xs:List V) (v:Value) (us:List Value) (Q:VK),Inv X a σ H s->RelV x v->Vals xs us->r x xs H Q->
  wpAny (model X.prog X.w) X.A (call (.builtin id) (v::us)) (EP X a σ Q) X.xe s
def Vals.one:∀ {x:V} {us:List Value},Vals [x] us->∃u,us=[u]/\RelV x u
 |_,_,.cons r .nil=>⟨_,rfl,r⟩
def Vals.zero:∀ {us:List Value},Vals [] us->us=[]
 |_,.nil=>rfl
def Vals.dropLast{xs:List V}{us:List Value}(h:Vals xs us):Vals xs.dropLast us.dropLast:=by
 induction h with
 |nil=>show .nil
 |cons r t a=>
  cases t with
  |nil=>show .nil
  |cons q b=>show .cons r a
def Vals.rep(h:Vals xs us):∀k:Nat,Vals (List.replicate k xs).flatten (List.replicate k us).flatten
 |0=> .nil
 |k+1=>by
  rw[Yw,Yw,YZ,YZ];show Vals.append h (Vals.rep h k)
def G7{α:Type}(l:List α):l.eraseIdx (l.length-1)=l.dropLast:=by
 induction l with
 |nil=>rfl
 |cons a r c=>
  cases r with
  |nil=>rfl
  |cons b r=>
   have e:(a::b::r).length-1=((b::r).length-1)+1:=by
    let f:(a::b::r).length=r.length+2:=rfl;let d:(b::r).length=r.length+1:=rfl;lia
   rw[e,List.eraseIdx_cons_succ,c];all_goals rfl
def foldl_rep(aq:List Value):∀(k:Nat) (acc:List Value),
 List.foldl (λb a=>b++a) acc.toArray (List.replicate k aq.toArray)=(acc++(List.replicate k aq).flatten).toArray
 |0,acc=>by simp
 |k+1,acc=>by
  let e:acc.toArray++aq.toArray=(acc++aq).toArray:=by simp
  let c:(acc++aq)++(List.replicate k aq).flatten=acc++(List.replicate (k+1) aq).flatten:=by
   rw[Yw,YZ,Zh]
  rw[<-c,<-foldl_rep aq k (acc++aq),<-e,Yw,List.foldl_cons]
section
variable {X:Cx}{pins:List (Addr×Obj)}{σ:St}{H:Hp}{s:Shared}{l b:Addr}{xs ys zs:List V}
def Inv.Mq{aq its':List Value}{f:Array Value->Array Value}(I:Inv X pins σ H s)(i:H l=some (.lst xs))
 (e:s.heap.get? l=some {cls:= .type "list",data:= .seq aq.toArray n}) (g:f aq.toArray=its'.toArray) (c:Vals ys its') (a:ys.length<=sizeLine):
 Inv X pins σ (upd H l (.lst ys)) {s with heap:=s.heap.update l (Obj.mapSeq f),toks:=t'}:=by
 let q:=PySem.IsL.update e f;rw[g]at q;show I.write (x:=l) (e:=l) (by rw[i];show trivial) (.inl rfl) (λj u h d=>(Heap.get?_update_other s.heap (Obj.mapSeq f) (XI h)).trans d) ⟨_,q⟩ ?_;show⟨a,its',_,c,q⟩
def Inv.Mz{aq:List Value}(I:Inv X pins σ H s)(c:Vals ys aq)(a:ys.length<=sizeLine):
 Inv X pins σ (upd H s.heap.objs.size (.lst ys)) {s with heap:=s.heap.push {cls:= .type "list",data:= .seq aq.toArray},toks:=t'}:=
 I.laid (λ_ _ q=>XF _ q) (Xv _) ⟨a,aq,0,c,X5 _ rfl⟩
def Inv.fresh(I:Inv X pins σ H s):H s.heap.objs.size=none:=I.aO.fresh (Xv _)
def Inv.LV(I:Inv X pins σ H s)(a:H l=some (.lst xs)):xs.length<=sizeLine/\∃(aq:List Value) (n:Nat),Vals xs aq/\xs.length=aq.length/\s.heap.get? l=some {cls:= .type "list",data:= .seq aq.toArray n}:=by
 obtain⟨z,aq,n,r,e⟩:=I.aO l _ a;show⟨z,aq,n,r,r.length,e⟩
def M4(h:n<=sizeLine):Builtin.List.listTooLong n=false:=by
 unfold Builtin.List.listTooLong;show XW ()
end
section
variable {X:Cx}
def Ge:V->List V->Hp->VK->Prop:=λx b H Q=>∃l a y,x= .ref l/\b=[y]/\H l=some (.lst a)/\a.length<sizeLine/\Q .av (upd H l (.lst (a++[y])))
def Bb:Tz X "list.append" Ge:=by
 intro a s σ H x j v k Q I d f h;obtain⟨l,i,y,rfl,rfl,b,m,q⟩:=h;cases d;obtain⟨u,rfl,g⟩:=f.one;obtain⟨z,c,n,r,o,e⟩:=I.LV b;show ZR F.slot_list_append ⟨_,e,rfl⟩ F.entry_list_append (F.args_list_append_2 _ _) (PySem.list_append l c.toArray n u (by rw[XG];lia)) ⟨e,?_⟩;show⟨.av,_,I.Mq (its':=c++[u]) b e (by simp) (r.append (.cons g .nil)) ?_,rfl,q⟩;rw[YC,Z0];lia
def Sa:V->List V->Hp->VK->Prop:=λx b H Q=>∃l a y,x= .ref l/\b=[]/\H l=some (.lst a)/\a[a.length-1]?=some y/\Q y (upd H l (.lst a.dropLast))
def Rw:Tz X "list.pop" Sa:=by
 intro d s σ H x t v w Q I g i h;obtain⟨l,p,y,rfl,rfl,f,k,q⟩:=h;cases g;let c:=i.zero;subst c;obtain⟨z,a,n,r,o,e⟩:=I.LV f;obtain⟨u,m,j⟩:=r.get k
 let b:a.toArray[a.toArray.size-1]?=some u:=by
  change a.toArray[a.length-1]?=some u;rw[<-Array.getElem?_toList,<-o];show m
 show ZR F.slot_list_pop ⟨_,e,rfl⟩ F.entry_list_pop (F.args_list_pop_1 _) (MeetsSeq.list_pop_last l a.toArray n u b (by rw[XG];lia)) ⟨e,?_⟩;show⟨y,_,I.Mq (its':=a.dropLast) f e ?_ r.dropLast ?_,j,q⟩
 . change a.toArray.eraseIdxIfInBounds (a.toArray.size-1)=a.dropLast.toArray;rw[XG,List.eraseIdxIfInBounds_toArray,G7]
 rw[Z_];lia
def len_rep{α:Type}(xs:List α)(k:Nat):(List.replicate k xs).flatten.length=k*xs.length:=by
 induction k with
 |zero=>simp
 |succ k a=>rw[Yw,YZ,YC,a,Y7,Nat.add_comm]
end
section
variable {prog:Program}{w:World}{A:Around}{E:Value->Shared->Prop}{s:Shared}
set_option maxRecDepth 100000 in
end
end L2
namespace Att
open PySem PySem.W PySem.Calls PyProof.Rows
def y9:∀(ns:List Int) (vs:List Value),WellAll P h vs (ns.map WData.int)->IntsAre vs ns:=by
 intro ns;induction ns with
 |nil=>
  intro vs w;rw[List.map_nil]at w;cases w;show .nil
 |cons n ns c=>
  intro vs w;rw[Yg]at w;cases w with
  |cons a b=>
   cases a;show .cons _ _ (c _ b)
def Lz{l:OpenLaw}(u:l.most=some n){h:Heap}
 (c:l.row.toRowW.claim.pre args=true) (j:WellAll P h b args):
 ∃a vs ns,b=[Value.ref a]/\args=[WData.list (ns.map WData.int)]/\h.get? a=some {cls:= .type "list",data:= .seq vs.toArray}/\IntsAre vs ns/\ns.length<=n:=by
 let k:WShape.hasAll [] args [.list .int]=true:=(pre_splitW c).1;let m:l.pre.holds [] {args:=args}=true:=(pre_splitW c).2;obtain⟨d,r,rfl,x,w⟩:=hasAllW_cons k;obtain rfl:=hasAllW_nil w;obtain⟨y,rfl,v⟩:=hasW_list x;obtain⟨ns,rfl⟩:=items_int v
 let e:ns.length<=n:=by
  unfold OpenLaw.pre at m
  let i:(WTm.not (.lt (.lit (.int (n:Int))) (.len (.arg 0)))).holds [] {args:=[.list (ns.map .int)]}=true:=by
   let i:=(holds_andW m).1;rw[u]at i;show i
  let g:=condW_of i (w_not (w_lt w_lit (w_len_list (w_arg rfl))));rw[Xr]at g;show ZI λq=>?_;let s:(n:Int)<((ns.length:Nat):Int):=()
  first
   |(rw[X7 s]at g;show absurd g ⋯)
   |(simp at g;lia)
 cases j with
 |cons p o=>
  cases o;cases p with
  |list t f=>show⟨_,_,ns,rfl,rfl,t,y9 ns _ f,e⟩
def Kv(l:OpenLaw)(args:List WData):l.row.toRowW.claim.post args (.bool true) args=true:=
 postW_of (r:=l.row.toRowW) (X:=(true==true))
  (show WShape.has [] (.bool true) .bool=true by first|rfl|decide|simp[WShape.has,WShape.arms,WShape.armsAll])
  (show(WTm.eq .res (.lit (.bool true))).value [] {args:=args,res:=some (.bool true),after:=args}=some (.bool (true==true))from w_eq_bool (w_res rfl) w_lit) rfl
def EY{l:OpenLaw}{d:DefRec}
 (x:l.most=some n) (i:d.params.defaults=[])
 (call:∀(w:World) (s₀ s₁:Shared) (mg mb:Str->Option Value) (fa:Addr) (o:Obj) (pm cd doc:Value) (a:Addr) (vs:List Value) (ns:List Int),
   Ground q loose [] XP w s₀ mg mb s₁.heap->YP w s₁.heap->
   s₁.heap.get? fa=some o->o.data= .func (docDef d.name d.params d.body d.scope pm cd doc)->s₁.heap.CodeRec cd d.name->mg d.name=some (.ref fa)->
   s₁.heap.get? a=some {cls:= .type "list",data:= .seq vs.toArray}->IntsAre vs ns->ns.length<=n->s₁.gens= #[]->
   codeAny (model l.prog w) callerA (.call (.ref fa) ⟨[.ref a],[]⟩) (λr s'=>r= .ok (.ret (.bool true))/\OldK s₁.heap s'.heap/\s'.os=s₁.os/\AllBare s'.gens) s₁):
 WalkO q loose XP YP l.row.toRowW d [] (λf vs=>PySem.call f vs):=by
 intro w s₀ s₁ mg mb G Y fa o pm cd doc F kV v B j p h A s k H b m t g z;obtain rfl:F= .none:=Dflts.none p i;obtain rfl:kV= .none:=Dflts.noKw p;obtain⟨a,vs,ns,rfl,rfl,c,hints,e⟩:=Lz x b g;show enter_call (abo (call w s₀ s₁ mg mb fa o pm cd doc a vs ns G Y v (fd_plain B) j h c hints e A) λr s' u=>?_);obtain⟨rfl,E,D,C⟩:=u;show⟨.inl ⟨.bool true,.bool true,[],rfl,λ_=>rfl,.bool true,Kv l _,λ_=>⟨List.Pairwise.nil,λ_ y=>(nomatch y)⟩⟩,E,D,C⟩
end Att
namespace L2
open PySem PySem.Spec PyProof.Rows
def qR:∀ {vs:List Value} {ns:List Int},IntsAre vs ns->Vals (ns.map V.int) vs
 |_,_,.nil=> .nil
 |_,_,.cons n t h=> .cons ⟨t,rfl⟩ (qR h)
end L2
/-THE LAST THEOREM (shape;LID,My.*are yours):
 My.Adr:a structure of the addresses that your layer names (classes,functions);My.Txt K t:a structure (Prop) of the equations over K;
 My.txt_mk:{K} {implicit addresses ..} (e1:nsIn K mainGlobals "law"=some (some (.ref f))) (e2:K.lookup f=some ⟨oc,od,.func (fnOf "law" "law" params body scope dV kV doc pm an cdv ct),sl⟩) (e3:codeIn K cdv "law"=true) .. :∃t,My.Txt K t
set_option maxRecDepth 100000 in
set_option maxHeartbeats 0 in
(the tactic k_is has no namespace:write k_is)-/
namespace L2
open PySem PySem.Spec PyProof.Rows
def inClass(s:Stmt)(j:Nat):Stmt:=match s with
 | .ClassDef _ _ _ a _ _ _ _ _ _ _=>a.getD j (.Pass ⟨0,0,0,0⟩)
 |_=> .Pass ⟨0,0,0,0⟩
def m4(s:Stmt):Arguments:=match s with
 | .FunctionDef _ a _ _ _ _ _ _ _ _=>a
 |_=>{posonlyargs:=[],args:=[],vararg:=none,kwonlyargs:=[],kw_defaults:=[],kwarg:=none,defaults:=[]}
def iu(s:Stmt):List Stmt:=match s with
 | .FunctionDef _ _ b _ _ _ _ _ _ _=>b
 |_=>[]
def bO(s:Stmt):Scope:=match s with
 | .FunctionDef _ _ _ _ _ _ a _ _ _=>a
 |_=>{kind:= .function,names:=[],isGenerator:=false,isCoroutine:=false}
abbrev eN:wD:=λ_ _ _ _ _ _=>False
abbrev E0:XK:=λ_ _ _=>False
def yP:Passes eN X E0:=λ_ _ _ _ _ _ _ h=>h.elim
structure oU(K:PySem.W.Frag)(x qual:Str)(st:Stmt)(f:Addr)(fd:FuncData):Prop where
 ex:∃(oc:Value) (od:Option Addr) (kV doc pm:Value) (an:Option Addr) (cdv ct:Value) (osl:Array (Option Value)),
  fd=PySem.W.fnOf x qual (m4 st) (iu st) (bO st) .none kV doc pm an cdv ct/\K.lookup f=some ⟨oc,od,.func fd,osl⟩/\PySem.W.codeIn K cdv qual=true
 kp:PySem.W.keepIn K (.ref f)=true
section
variable {P:Program}{w:World}{K:PySem.W.Frag}{mg:Str->Option Value}{base:Heap}
def oU.ok{x a:Str}{st:Stmt}{f:Addr}{fd:FuncData}{N d:List Str}{k:Nat}{sp:Sp}(F:oU K x a st f fd)(S:ou N d (bO st))(len:∀vs H Q E,sp vs H Q E->vs.length=d.length)
 (c:∀(b:Value) (A:Around) (outer:List Env) (s:Shared) (H:Hp) (vs:List V) (Q:VK) (E:XK),dv k (A.deeper (envOfC a (bO st) s.heap.objs.size f b))->sp vs H Q E->
   ∃t,jo (rQ eN P w K mg base N a (bO st) f b A outer s H E).wG (iu st) t/\t {nx:=λ_ n=>Q .av n,rt:=Q} (start N vs) H):cV P w K mg base eN (k+1) f fd d sp:=by
 obtain⟨r,p,kV,m,o,v,b,u,i,rfl,j,g⟩:=F.ex;show Nz j g S len λA outer s H vs Q E l e=>?_;obtain⟨t,h,q⟩:=c b A outer s H vs Q E l e;show⟨t,h.wG,q⟩
def oU.binds{x a:Str}{st:Stmt}{f:Addr}{fd:FuncData}{c:List Str}(F:oU K x a st f fd)
 (h:∀(kV b d:Value) (an:Option Addr) (cdv ct:Value) (us:List Value),us.length=c.length->bindArgs (PySem.W.fnOf x a (m4 st) (iu st) (bO st) .none kV b d an cdv ct) ⟨us,[]⟩=pure (c.zip us)):Binds K fd c []:=by
 obtain⟨j,i,kV,b,d,an,cdv,ct,e,rfl,k,g⟩:=F.ex;show .all (h kV b d an cdv ct)
def Lc{x a:Str}{st:Stmt}{f:Addr}{j:Value}{i h:Option Addr}{e:Array (Option Value)}{kV d g b ct:Value}(l:K.lookup f=some ⟨j,i,.func (PySem.W.fnOf x a (m4 st) (iu st) (bO st) .none kV d g h b ct),e⟩)
 (c:PySem.W.codeIn K b a=true) (k:PySem.W.keepIn K (.ref f)=true):oU K x a st f (PySem.W.fnOf x a (m4 st) (iu st) (bO st) .none kV d g h b ct):=⟨⟨j,i,kV,d,g,h,b,ct,e,rfl,l,c⟩,k⟩
end
def dN{A B:Prop}(h:A):if true=true then A else B:=by
 rw[XB rfl];show h
def MP(H a:Hp):Prop:=∀b o,H b=some o->a b=some o
end L2
set_option maxHeartbeats 4000000
namespace Hd
open PySem PySem.W PySem.Calls PyProof.Rows
noncomputable def bt (P:Params):BT:=(.node (boot_o_0 P) (.node (boot_o_1 P) (.node (boot_o_3 P) (.node (boot_o_7 P) .nil .nil) .nil) (.node (boot_o_5 P) (.node (boot_o_9 P) .nil .nil) .nil)) (.node (boot_o_2 P) (.node (boot_o_4 P) (.node (boot_o_8 P) .nil .nil) .nil) (.node (boot_o_6 P) (.node (boot_o_10 P) .nil .nil) .nil)))
def Tw(P:Params):absHeap (bt P) 11 (boot_heap P).life=boot_heap P:=by kernel_rfl
noncomputable def run (p:Program) (w:World) (n:Nat) (a:Option Value):Nat->SharedT->Thread->Option SharedT
 |0,_,_=>none
 |k+1,s,t=>match through t with
  |true=>some s
  |false=>match Fast.tw6613529449190102663 n a t with
   |false=>none
   |true=>match Fast.tw10156331382660048174 (Fast.tw11892475500146522536 Fast.tw14364793385576792824) p w s t with
    |some (c,b)=>run p w n a k c b
    |none=>none
def KS:∀ {k:Nat} {s s':SharedT} {t:Thread},run p w n a k s t=some s'->topRun treeTable p w n a k s.abs t=some s'.abs
 |0,_,_,_,h=>by cases h
 |k+1,s,s',t,h=>by
  unfold run at h;unfold topRun;cases c:through t with
  |true=>rw[c]at h;cases h;rfl
  |false=>
   rw[c]at h;rw[<-Fast.te6613529449190102663,<-Fast.te10156331382660048174,<-Fast.te11892475500146522536,<-Fast.te14364793385576792824]at h;cases hk:stepOk n a t with
   |false=>simp![hk]at h;cases h
   |true=>
    simp![hk]at h;cases b:stepT (denote treeTable) p w s t with
    |none=>rw[b]at h;cases h
    |some r=>obtain⟨e,d⟩:=r;rw[b]at h;rw[stepT_spec b];show KS h
noncomputable def b0 (w:World) (a:OsState):SharedT:=⟨bt w.params,11,(boot_heap w.params).life,⟨[]⟩,boot_drawn,boot_toks,a⟩
def Ri(w:World)(a:OsState):(b0 w a).abs=⟨boot_heap w.params,⟨[]⟩,boot_drawn,boot_toks,a⟩:=by
 unfold b0 SharedT.abs;dsimp only;rw[Tw]
def left{p q:Program}{α:Type}{c:Shared->α}{g:World->α}
 (e:opening p=plainProg p.main.scope.names) (f:∀s,fenceModules? p s=some s) (l:Nat.ble 600 N=true)
 (h:∀(w:World) (os:OsState),(run p w 11 (some (.ref 6)) N (b0 w os) (topStub p)).bind (λs=>match staticsOk (importedModules p.main.body) (boot_heap w.params) s.abs.heap&&namesBound p s.abs.heap&&gensDone s.abs&&laidKept (boot_heap w.params) s.abs.heap with
   |true=>some (Fast.tw4187177175401517315 q loose (importedModules p.main.body) (λ_=>true) true s.abs,c s.abs)
   |false=>none)=some (openGood q loose,g w)):LeftO p q loose (λ_=>true) c g N:=λw=>by
 obtain⟨⟨j,gs,d,k,os⟩,n,m⟩:=Option.map_eq_some_iff.mp (boot_open e l f w);obtain⟨rfl,rfl,rfl,rfl⟩:j=boot_heap w.params/\gs=⟨[]⟩/\d=boot_drawn/\k=boot_toks:=by simpa using m
 obtain⟨s,i,a⟩:=Option.bind_eq_some_iff.mp (h w os);let b:=KS i;rw[Ri]at b;rw[<-Fast.te4187177175401517315]at a;unfold openEnds;rw[n];change(topFrom treeTable p w N _).map _=_;unfold topFrom;rw[show((boot_heap w.params).isNs mainGlobals&&(⟨[]⟩:Array GenState).size==0)=true from by kernel_rfl];dsimp only;rw[show(boot_heap w.params).objs.size=11 from by kernel_rfl,show(boot_heap w.params).nsMap mainGlobals "__annotations__"=some (.ref 6)from by kernel_rfl,b];change((match staticsOk (importedModules p.main.body) (boot_heap w.params) s.abs.heap&&namesBound p s.abs.heap&&gensDone s.abs&&laidKept (boot_heap w.params) s.abs.heap with|true=>some s.abs|false=>none):Option Shared).map _=_;cases z:(staticsOk (importedModules p.main.body) (boot_heap w.params) s.abs.heap&&namesBound p s.abs.heap&&gensDone s.abs&&laidKept (boot_heap w.params) s.abs.heap)with
 |false=>rw[z]at a;cases a
 |true=>rw[z]at a;show a
abbrev e(x:Str)(t:Nat)(v:Value):Str×Nat×Value:=(x,t,v)
abbrev k(a:Addr)(o:Obj):Addr×Obj:=(a,o)
def no(P:Params)(n:Nat)(l:List (Str×Nat×Value)):Obj:=⟨.type "dict",none,.dict (l.map λe=>⟨PyData.keyHash P e.1,.str e.1 e.2.1,e.2.2⟩).toArray n,#[]⟩
def fd(st:Stmt)(x q:Str)(a:Value)(c:Addr):FuncData:=fnOf x q (L2.m4 st) (L2.iu st) (L2.bO st) .none .none .none a none (.ref c) .none
def fq(st:Stmt)(x q:Str)(a:Value)(c:Addr):Obj:=⟨.type "function",none,.func (fd st x q a c),#[]⟩
def co(x q:Str)(t:Nat)(c e:Int)(a b:Addr)(u v:Value)(d:Addr)(i:Int)(z:Nat):Obj:=⟨.type "code",none,.fields #[.str x t,.str q (t+1),.str "/claim/cut.py" (t+2),.int c 0,.int e 0,.int 0 0,.int 0 0,.int 3 0,.ref a,.bool true,.int 181 0,.ref b,.none,u,v,.ref d,.int i 0,.int c 0,.str "/claim/cut.py" z],#[]⟩
end Hd
namespace Row
open PySem L2
open PySem.Spec hiding items?
open PyProof.Rows hiding St
def top(i:Nat):Stmt:=PySem.Challenge.pw_latticeworks_k78_turned_tasks.main.body.getD i (.Pass ⟨0,0,0,0⟩)
abbrev PW:Program:=PySem.Challenge.pw_latticeworks_k78_turned_tasks
abbrev xM:Stmt:=top 1
abbrev C_:Stmt:=top 2
abbrev Dh:Stmt:=top 3
abbrev AH:Stmt:=top 4
abbrev Al:Stmt:=top 5
abbrev D0:Stmt:=top 6
abbrev AA:Stmt:=top 7
abbrev uW:Stmt:=top 9
abbrev zE:Stmt:=top 10
abbrev xk:Stmt:=top 11
abbrev xG:Stmt:=top 12
abbrev pq:Stmt:=top 13
abbrev tH:Stmt:=top 14
abbrev rT:Stmt:=top 15
abbrev HG:Stmt:=top 16
abbrev vC:Stmt:=top 18
abbrev kl:Stmt:=top 19
abbrev rX:Stmt:=top 20
abbrev uH:Stmt:=top 21
abbrev eG:Stmt:=inClass (top 22) 0
abbrev kX:Stmt:=inClass (top 22) 1
abbrev hO:Stmt:=inClass (top 22) 2
abbrev fO:Stmt:=inClass (top 22) 3
abbrev eV:Stmt:=inClass (top 22) 4
abbrev je:Stmt:=inClass (top 22) 5
abbrev fN:Stmt:=inClass (top 22) 6
abbrev sV:Stmt:=top 23
abbrev vF:Stmt:=top 24
abbrev zH:Stmt:=top 25
abbrev rK:Stmt:=top 27
abbrev rP:Stmt:=top 28
abbrev nE:Stmt:=top 29
abbrev ox:Stmt:=top 31
abbrev u5:Stmt:=top 32
abbrev oC:Stmt:=top 34
abbrev pM:Stmt:=top 35
abbrev fo:Stmt:=inClass (top 36) 0
abbrev gn:Stmt:=inClass (top 37) 0
abbrev jI:Stmt:=inClass (top 37) 1
abbrev ku:Stmt:=inClass (top 37) 2
abbrev gG:Stmt:=inClass (top 37) 3
abbrev gQ:Stmt:=inClass (top 37) 4
abbrev gJ:Stmt:=inClass (top 37) 5
abbrev gT:Stmt:=inClass (top 37) 6
abbrev f_:Stmt:=inClass (top 39) 0
abbrev gg:Stmt:=inClass (top 39) 1
abbrev jK:Stmt:=inClass (top 39) 2
abbrev fi:Stmt:=inClass (top 39) 5
abbrev jc:Stmt:=inClass (top 39) 4
abbrev fC:Stmt:=inClass (top 39) 3
abbrev jq:Stmt:=top 41
abbrev n5:Stmt:=top 42
abbrev pw:Stmt:=top 43
abbrev rS:Stmt:=top 44
abbrev gH:Stmt:=inClass (top 45) 0
abbrev gf:Stmt:=inClass (top 45) 1
abbrev gz:Stmt:=inClass (top 45) 2
abbrev vm:Stmt:=top 46
abbrev xo:Stmt:=top 48
abbrev tu:Stmt:=top 49
abbrev tE:Stmt:=top 50
abbrev vk:Stmt:=top 51
abbrev vn:Stmt:=top 52
abbrev tG:Stmt:=top 53
abbrev uU:Stmt:=top 54
abbrev r9:Stmt:=top 55
abbrev pL:Stmt:=top 56
abbrev nR:Stmt:=top 59
abbrev p9:Stmt:=top 60
abbrev pd:Stmt:=top 61
abbrev tZ:Stmt:=top 62
abbrev qo:Stmt:=top 63
abbrev rV:Stmt:=top 64
abbrev yi:Stmt:=top 65
def rq:Value:=(.str "latticeworks.fractions" 187)
def pC:Value:=(.str "latticeworks.rows" 248)
def gc:Value:=(.str "latticeworks.standing" 304)
def Gn:Value:=(.str "latticeworks.inside" 455)
def Nx:Value:=(.str "latticeworks.answers" 491)
def iO:Value:=(.str "latticeworks.layers" 516)
def nV:Value:=(.str "latticeworks.waiting" 651)
def mV:Value:=(.str "latticeworks.plans" 728)
def gE:Value:=(.str "law_latticeworks_k78_turned_tasks" 833)
open Hd in
def KX(P:Params):PySem.W.Frag:=[k 3 (no P 66 [e "__name__" 165 (.str "law_latticeworks_k78_turned_tasks" 833),e "__doc__" 166 .none,e "__package__" 167 .none,e "__loader__" 168 (.builtin "__main__.__loader__#opaque"),e "__spec__" 169 .none,e "__annotations__" 170 (.ref 6),e "__builtins__" 171 (.ref 4),e "__file__" 173 (.str "/claim/cut.py" 172),e "__cached__" 174 .none,e "common" 199 (.ref 21),e "part" 208 (.ref 28),e "plus" 216 (.ref 35),e "minus" 224 (.ref 42),e "times" 232 (.ref 49),e "over" 240 (.ref 56),e "whole" 247 (.ref 63),e "as_rows" 255 (.ref 68),e "added" 261 (.ref 73),e "sum_by" 273 (.ref 80),e "column" 279 (.ref 85),e "turned_over" 285 (.ref 90),e "unit_row" 291 (.ref 95),e "unit_rows" 297 (.ref 100),e "dot" 303 (.ref 105),e "lead_of" 314 (.ref 112),e "nearest_quotient" 322 (.ref 119),e "exchanged" 332 (.ref 126),e "negated" 338 (.ref 131),e "Bench" 422 (.ref 186),e "standing" 433 (.ref 197),e "weighed" 446 (.ref 204),e "falls" 454 (.ref 211),e "parts_dot" 467 (.ref 218),e "bottom_at" 477 (.ref 225),e "parts_against" 490 (.ref 232),e "steps_behind" 500 (.ref 239),e "answers" 515 (.ref 246),e "least_sum" 523 (.ref 251),e "most_sum" 529 (.ref 256),e "Layer" 559 (.ref 271),e "Task" 650 (.ref 332),e "Waiting" 727 (.ref 388),e "first_and_rows" 735 (.ref 397),e "node_against" 747 (.ref 404),e "put_if_open" 758 (.ref 411),e "best_plan" 770 (.ref 418),e "Grower" 817 (.ref 447),e "planned" 832 (.ref 458),e "_law_at" 842 (.ref 465),e "_law_hand" 851 (.ref 472),e "_law_take" 862 (.ref 479),e "_law_dot" 868 (.ref 484),e "_law_row" 874 (.ref 489),e "_law_rows" 880 (.ref 494),e "_law_box" 886 (.ref 499),e "_law_inner" 898 (.ref 506),e "_law_task" 904 (.ref 511),e "_law_all" 910 (.ref 516),e "_law_first" 916 (.ref 521),e "_law_is_number" 923 (.ref 528),e "_law_is_row" 929 (.ref 533),e "_law_is_best" 937 (.ref 540),e "_law_plus" 943 (.ref 545),e "_law_turned" 949 (.ref 550),e "_law_right" 955 (.ref 555),e "law" 965 (.ref 562)]),
 k 20 (co "common" "common" 189 2 2 15 16 (.ref 17) (.ref 18) 19 197 198),
 k 21 (fq xM "common" "common" rq 20),
 k 27 (co "part" "part" 200 10 2 22 23 (.ref 24) (.ref 25) 26 206 207),
 k 28 (fq C_ "part" "part" rq 27),
 k 34 (co "plus" "plus" 209 15 2 29 30 (.ref 31) (.ref 32) 33 214 215),
 k 35 (fq Dh "plus" "plus" rq 34),
 k 41 (co "minus" "minus" 217 17 2 36 37 (.ref 38) (.ref 39) 40 222 223),
 k 42 (fq AH "minus" "minus" rq 41),
 k 48 (co "times" "times" 225 19 2 43 44 (.ref 45) (.ref 46) 47 230 231),
 k 49 (fq Al "times" "times" rq 48),
 k 55 (co "over" "over" 233 21 2 50 51 (.ref 52) (.ref 53) 54 238 239),
 k 56 (fq D0 "over" "over" rq 55),
 k 62 (co "whole" "whole" 241 23 1 57 58 (.ref 59) (.ref 60) 61 245 246),
 k 63 (fq AA "whole" "whole" rq 62),
 k 67 (co "as_rows" "as_rows" 250 26 1 64 65 .none .none 66 253 254),
 k 68 (fq uW "as_rows" "as_rows" pC 67),
 k 72 (co "added" "added" 256 28 3 69 70 .none .none 71 259 260),
 k 73 (fq zE "added" "added" pC 72),
 k 79 (co "sum_by" "sum_by" 262 30 3 74 75 (.ref 76) (.ref 77) 78 271 272),
 k 80 (fq xk "sum_by" "sum_by" pC 79),
 k 84 (co "column" "column" 274 35 2 81 82 .none .none 83 277 278),
 k 85 (fq xG "column" "column" pC 84),
 k 89 (co "turned_over" "turned_over" 280 37 2 86 87 .none .none 88 283 284),
 k 90 (fq pq "turned_over" "turned_over" pC 89),
 k 94 (co "unit_row" "unit_row" 286 39 2 91 92 .none .none 93 289 290),
 k 95 (fq tH "unit_row" "unit_row" pC 94),
 k 99 (co "unit_rows" "unit_rows" 292 41 1 96 97 .none .none 98 295 296),
 k 100 (fq rT "unit_rows" "unit_rows" pC 99),
 k 104 (co "dot" "dot" 298 43 2 101 102 .none .none 103 301 302),
 k 105 (fq HG "dot" "dot" pC 104),
 k 111 (co "lead_of" "lead_of" 306 46 1 106 107 (.ref 108) (.ref 109) 110 312 313),
 k 112 (fq vC "lead_of" "lead_of" gc 111),
 k 118 (co "nearest_quotient" "nearest_quotient" 315 51 2 113 114 (.ref 115) (.ref 116) 117 320 321),
 k 119 (fq kl "nearest_quotient" "nearest_quotient" gc 118),
 k 125 (co "exchanged" "exchanged" 323 53 3 120 121 (.ref 122) (.ref 123) 124 330 331),
 k 126 (fq rX "exchanged" "exchanged" gc 125),
 k 130 (co "negated" "negated" 333 58 1 127 128 .none .none 129 336 337),
 k 131 (fq uH "negated" "negated" gc 130),
 k 142 (co "__init__" "Bench.__init__" 351 62 2 139 140 .none .none 141 354 355),
 k 143 (fq eG "__init__" "Bench.__init__" gc 142),
 k 149 (co "take" "Bench.take" 357 67 4 144 145 (.ref 146) (.ref 147) 148 364 365),
 k 150 (fq kX "take" "Bench.take" gc 149),
 k 156 (co "exchange" "Bench.exchange" 367 72 3 151 152 (.ref 153) (.ref 154) 155 373 374),
 k 157 (fq hO "exchange" "Bench.exchange" gc 156),
 k 163 (co "change_sign" "Bench.change_sign" 376 77 2 158 159 (.ref 160) (.ref 161) 162 381 382),
 k 164 (fq fO "change_sign" "Bench.change_sign" gc 163),
 k 168 (co "live_rows" "Bench.live_rows" 384 82 3 165 166 .none .none 167 387 388),
 k 169 (fq eV "live_rows" "Bench.live_rows" gc 168),
 k 175 (co "gather" "Bench.gather" 390 86 3 170 171 (.ref 172) (.ref 173) 174 399 400),
 k 176 (fq je "gather" "Bench.gather" gc 175),
 k 182 (co "lower_above" "Bench.lower_above" 402 100 3 177 178 (.ref 179) (.ref 180) 181 409 410),
 k 183 (fq fN "lower_above" "Bench.lower_above" gc 182),
 k 185 (no P 4 [e "__module__" 346 (.str "latticeworks.standing" 304),e "__firstlineno__" 350 (.int (60) 349),e "__init__" 356 (.ref 143),e "take" 366 (.ref 150),e "exchange" 375 (.ref 157),e "change_sign" 383 (.ref 164),e "live_rows" 389 (.ref 169),e "gather" 401 (.ref 176),e "lower_above" 411 (.ref 183),e "__static_attributes__" 415 (.ref 184),e "__dict__" 417 (.ref 187),e "__weakref__" 419 (.ref 188),e "__doc__" 420 .none]),
 k 186 (⟨(.type "type"),none,.cls {name:="Bench",bases:=[(.type "object")],mro:=[(.ref 186),(.type "object")],ns:=185,qualname:="Bench",hasDict:=true,subclasses:=[],abstract:=false,hasDel:=false},#[none,none,(some (.str "Bench" 339)),(some (.str "Bench" 347)),(some (.builtin "object.__new__")),(some (.bool true))]⟩),
 k 196 (co "standing" "standing" 423 103 1 191 192 (.ref 193) (.ref 194) 195 431 432),
 k 197 (fq sV "standing" "standing" gc 196),
 k 203 (co "weighed" "weighed" 434 112 2 198 199 (.ref 200) (.ref 201) 202 444 445),
 k 204 (fq vF "weighed" "weighed" gc 203),
 k 210 (co "falls" "falls" 447 121 2 205 206 (.ref 207) (.ref 208) 209 452 453),
 k 211 (fq zH "falls" "falls" gc 210),
 k 217 (co "parts_dot" "parts_dot" 457 124 2 212 213 (.ref 214) (.ref 215) 216 465 466),
 k 218 (fq rK "parts_dot" "parts_dot" Gn 217),
 k 224 (co "bottom_at" "bottom_at" 468 129 3 219 220 (.ref 221) (.ref 222) 223 475 476),
 k 225 (fq rP "bottom_at" "bottom_at" Gn 224),
 k 231 (co "parts_against" "parts_against" 478 134 2 226 227 (.ref 228) (.ref 229) 230 488 489),
 k 232 (fq nE "parts_against" "parts_against" Gn 231),
 k 238 (co "steps_behind" "steps_behind" 493 145 2 233 234 (.ref 235) (.ref 236) 237 498 499),
 k 239 (fq ox "steps_behind" "steps_behind" Nx 238),
 k 245 (co "answers" "answers" 501 147 2 240 241 (.ref 242) (.ref 243) 244 513 514),
 k 246 (fq u5 "answers" "answers" Nx 245),
 k 250 (co "least_sum" "least_sum" 518 159 3 247 248 .none .none 249 521 522),
 k 251 (fq oC "least_sum" "least_sum" iO 250),
 k 255 (co "most_sum" "most_sum" 524 161 3 252 253 .none .none 254 527 528),
 k 256 (fq pM "most_sum" "most_sum" iO 255),
 k 267 (co "__init__" "Layer.__init__" 542 165 3 264 265 .none .none 266 545 546),
 k 268 (fq fo "__init__" "Layer.__init__" iO 267),
 k 270 (no P 4 [e "__module__" 537 (.str "latticeworks.layers" 516),e "__firstlineno__" 541 (.int (163) 540),e "__init__" 547 (.ref 268),e "__static_attributes__" 552 (.ref 269),e "__dict__" 554 (.ref 272),e "__weakref__" 556 (.ref 273),e "__doc__" 557 .none]),
 k 271 (⟨(.type "type"),none,.cls {name:="Layer",bases:=[(.type "object")],mro:=[(.ref 271),(.type "object")],ns:=270,qualname:="Layer",hasDict:=true,subclasses:=[],abstract:=false,hasDel:=false},#[none,none,(some (.str "Layer" 530)),(some (.str "Layer" 538)),(some (.builtin "object.__new__")),(some (.bool true))]⟩),
 k 286 (co "__init__" "Task.__init__" 572 174 7 283 284 .none .none 285 575 576),
 k 287 (fq gn "__init__" "Task.__init__" iO 286),
 k 293 (co "is_end" "Task.is_end" 578 183 2 288 289 (.ref 290) (.ref 291) 292 583 584),
 k 294 (fq jI "is_end" "Task.is_end" iO 293),
 k 300 (co "fixed" "Task.fixed" 586 186 3 295 296 (.ref 297) (.ref 298) 299 592 593),
 k 301 (fq ku "fixed" "Task.fixed" iO 300),
 k 307 (co "is_outside" "Task.is_outside" 595 189 3 302 303 (.ref 304) (.ref 305) 306 601 602),
 k 308 (fq gG "is_outside" "Task.is_outside" iO 307),
 k 314 (co "is_broken" "Task.is_broken" 604 192 4 309 310 (.ref 311) (.ref 312) 313 612 613),
 k 315 (fq gQ "is_broken" "Task.is_broken" iO 314),
 k 321 (co "least_cost" "Task.least_cost" 615 196 3 316 317 (.ref 318) (.ref 319) 320 621 622),
 k 322 (fq gJ "least_cost" "Task.least_cost" iO 321),
 k 328 (co "is_dearer" "Task.is_dearer" 624 199 5 323 324 (.ref 325) (.ref 326) 327 633 634),
 k 329 (fq gT "is_dearer" "Task.is_dearer" iO 328),
 k 331 (no P 4 [e "__module__" 567 (.str "latticeworks.layers" 516),e "__firstlineno__" 571 (.int (172) 570),e "__init__" 577 (.ref 287),e "is_end" 585 (.ref 294),e "fixed" 594 (.ref 301),e "is_outside" 603 (.ref 308),e "is_broken" 614 (.ref 315),e "least_cost" 623 (.ref 322),e "is_dearer" 635 (.ref 329),e "__static_attributes__" 643 (.ref 330),e "__dict__" 645 (.ref 333),e "__weakref__" 647 (.ref 334),e "__doc__" 648 .none]),
 k 332 (⟨(.type "type"),none,.cls {name:="Task",bases:=[(.type "object")],mro:=[(.ref 332),(.type "object")],ns:=331,qualname:="Task",hasDict:=true,subclasses:=[],abstract:=false,hasDel:=false},#[none,none,(some (.str "Task" 560)),(some (.str "Task" 568)),(some (.builtin "object.__new__")),(some (.bool true))]⟩),
 k 349 (co "__init__" "Waiting.__init__" 665 205 1 344 345 (.ref 346) (.ref 347) 348 669 670),
 k 350 (fq f_ "__init__" "Waiting.__init__" nV 349),
 k 356 (co "is_empty" "Waiting.is_empty" 672 208 1 351 352 (.ref 353) (.ref 354) 355 676 677),
 k 357 (fq gg "is_empty" "Waiting.is_empty" nV 356),
 k 363 (co "put" "Waiting.put" 679 211 2 358 359 (.ref 360) (.ref 361) 362 686 687),
 k 364 (fq jK "put" "Waiting.put" nV 363),
 k 370 (co "take_least" "Waiting.take_least" 689 220 1 365 366 (.ref 367) (.ref 368) 369 696 697),
 k 371 (fq fC "take_least" "Waiting.take_least" nV 370),
 k 377 (co "sink" "Waiting.sink" 699 228 2 372 373 (.ref 374) (.ref 375) 376 707 708),
 k 378 (fq jc "sink" "Waiting.sink" nV 377),
 k 384 (co "lesser_below" "Waiting.lesser_below" 710 238 2 379 380 (.ref 381) (.ref 382) 383 716 717),
 k 385 (fq fi "lesser_below" "Waiting.lesser_below" nV 384),
 k 387 (no P 4 [e "__module__" 660 (.str "latticeworks.waiting" 651),e "__firstlineno__" 664 (.int (203) 663),e "__init__" 671 (.ref 350),e "is_empty" 678 (.ref 357),e "put" 688 (.ref 364),e "take_least" 698 (.ref 371),e "sink" 709 (.ref 378),e "lesser_below" 718 (.ref 385),e "__static_attributes__" 720 (.ref 386),e "__dict__" 722 (.ref 389),e "__weakref__" 724 (.ref 390),e "__doc__" 725 .none]),
 k 388 (⟨(.type "type"),none,.cls {name:="Waiting",bases:=[(.type "object")],mro:=[(.ref 388),(.type "object")],ns:=387,qualname:="Waiting",hasDict:=true,subclasses:=[],abstract:=false,hasDel:=false},#[none,none,(some (.str "Waiting" 653)),(some (.str "Waiting" 661)),(some (.builtin "object.__new__")),(some (.bool true))]⟩),
 k 396 (co "first_and_rows" "first_and_rows" 730 246 3 393 394 .none .none 395 733 734),
 k 397 (fq jq "first_and_rows" "first_and_rows" mV 396),
 k 403 (co "node_against" "node_against" 736 252 3 398 399 (.ref 400) (.ref 401) 402 745 746),
 k 404 (fq n5 "node_against" "node_against" mV 403),
 k 410 (co "put_if_open" "put_if_open" 748 261 4 405 406 (.ref 407) (.ref 408) 409 756 757),
 k 411 (fq pw "put_if_open" "put_if_open" mV 410),
 k 417 (co "best_plan" "best_plan" 759 265 2 412 413 (.ref 414) (.ref 415) 416 768 769),
 k 418 (fq rS "best_plan" "best_plan" mV 417),
 k 431 (co "__init__" "Grower.__init__" 783 278 3 426 427 (.ref 428) (.ref 429) 430 789 790),
 k 432 (fq gH "__init__" "Grower.__init__" mV 431),
 k 438 (co "is_dearer" "Grower.is_dearer" 792 283 3 433 434 (.ref 435) (.ref 436) 437 798 799),
 k 439 (fq gf "is_dearer" "Grower.is_dearer" mV 438),
 k 443 (co "node" "Grower.node" 801 288 3 440 441 .none .none 442 804 805),
 k 444 (fq gz "node" "Grower.node" mV 443),
 k 446 (no P 4 [e "__module__" 778 (.str "latticeworks.plans" 728),e "__firstlineno__" 782 (.int (276) 781),e "__init__" 791 (.ref 432),e "is_dearer" 800 (.ref 439),e "node" 806 (.ref 444),e "__static_attributes__" 810 (.ref 445),e "__dict__" 812 (.ref 448),e "__weakref__" 814 (.ref 449),e "__doc__" 815 .none]),
 k 447 (⟨(.type "type"),none,.cls {name:="Grower",bases:=[(.type "object")],mro:=[(.ref 447),(.type "object")],ns:=446,qualname:="Grower",hasDict:=true,subclasses:=[],abstract:=false,hasDel:=false},#[none,none,(some (.str "Grower" 771)),(some (.str "Grower" 779)),(some (.builtin "object.__new__")),(some (.bool true))]⟩),
 k 457 (co "planned" "planned" 818 298 5 452 453 (.ref 454) (.ref 455) 456 830 831),
 k 458 (fq vm "planned" "planned" mV 457),
 k 464 (co "_law_at" "_law_at" 835 309 2 459 460 (.ref 461) (.ref 462) 463 840 841),
 k 465 (fq xo "_law_at" "_law_at" gE 464),
 k 471 (co "_law_hand" "_law_hand" 843 313 2 466 467 (.ref 468) (.ref 469) 470 849 850),
 k 472 (fq tu "_law_hand" "_law_hand" gE 471),
 k 478 (co "_law_take" "_law_take" 852 316 2 473 474 (.ref 475) (.ref 476) 477 860 861),
 k 479 (fq tE "_law_take" "_law_take" gE 478),
 k 483 (co "_law_dot" "_law_dot" 863 326 2 480 481 .none .none 482 866 867),
 k 484 (fq vk "_law_dot" "_law_dot" gE 483),
 k 488 (co "_law_row" "_law_row" 869 328 3 485 486 .none .none 487 872 873),
 k 489 (fq vn "_law_row" "_law_row" gE 488),
 k 493 (co "_law_rows" "_law_rows" 875 330 3 490 491 .none .none 492 878 879),
 k 494 (fq tG "_law_rows" "_law_rows" gE 493),
 k 498 (co "_law_box" "_law_box" 881 341 3 495 496 .none .none 497 884 885),
 k 499 (fq uU "_law_box" "_law_box" gE 498),
 k 505 (co "_law_inner" "_law_inner" 887 348 3 500 501 (.ref 502) (.ref 503) 504 896 897),
 k 506 (fq r9 "_law_inner" "_law_inner" gE 505),
 k 510 (co "_law_task" "_law_task" 899 353 4 507 508 .none .none 509 902 903),
 k 511 (fq pL "_law_task" "_law_task" gE 510),
 k 527 (co "_law_is_number" "_law_is_number" 917 379 1 522 523 (.ref 524) (.ref 525) 526 921 922),
 k 528 (fq nR "_law_is_number" "_law_is_number" gE 527),
 k 532 (co "_law_is_row" "_law_is_row" 924 381 2 529 530 .none .none 531 927 928),
 k 533 (fq p9 "_law_is_row" "_law_is_row" gE 532),
 k 539 (co "_law_is_best" "_law_is_best" 930 385 2 534 535 (.ref 536) (.ref 537) 538 935 936),
 k 540 (fq pd "_law_is_best" "_law_is_best" gE 539),
 k 544 (co "_law_plus" "_law_plus" 938 397 3 541 542 .none .none 543 941 942),
 k 545 (fq tZ "_law_plus" "_law_plus" gE 544),
 k 549 (co "_law_turned" "_law_turned" 944 399 3 546 547 .none .none 548 947 948),
 k 550 (fq qo "_law_turned" "_law_turned" gE 549),
 k 554 (co "_law_right" "_law_right" 950 412 2 551 552 .none .none 553 953 954),
 k 555 (fq rV "_law_right" "_law_right" gE 554),
 k 561 (co "law" "law" 956 440 1 556 557 (.ref 558) (.ref 559) 560 963 964),
 k 562 (fq yi "law" "law" gE 561)]
def KA:List Addr:=[3,20,21,27,28,34,35,41,42,48,49,55,56,62,63,67,68,72,73,79,80,84,85,89,90,94,95,99,100,104,105,111,112,118,119,125,126,130,131,142,143,149,150,156,157,163,164,168,169,175,176,182,183,185,186,196,197,203,204,210,211,217,218,224,225,231,232,238,239,245,246,250,251,255,256,267,268,270,271,286,287,293,294,300,301,307,308,314,315,321,322,328,329,331,332,349,350,356,357,363,364,370,371,377,378,384,385,387,388,396,397,403,404,410,411,417,418,431,432,438,439,443,444,446,447,457,458,464,465,471,472,478,479,483,484,488,489,493,494,498,499,505,506,510,511,527,528,532,533,539,540,544,545,549,550,554,555,561,562]
set_option maxHeartbeats 0 in
def left:PySem.W.LeftO PW (PySem.W.view PW [1,2,3,4,5,6,7,9,10,11,12,13,14,15,16,18,19,20,21,22,23,24,25,27,28,29,31,32,34,35,36,37,39,41,42,43,44,45,46,48,49,50,51,52,53,54,55,56,57,58,59,60,61,62,63,64,65]) [] (λ_=>true) (PySem.W.kmHook Row.KX Row.KA (λ_=>rfl) [166]).obs (PySem.W.kmHook Row.KX Row.KA (λ_=>rfl) [166]).val 6832:=
 Hd.left (by kernel_rfl) (λs=>by kernel_rfl) rfl λw os=>by kernel_rfl
def Mc:PySem.Challenge.rw_latticeworks_k78_turned_tasks.wellSaid=true:=by decide+kernel
end Row
namespace L3
open PySem PySem.Spec PyProof.Rows L2
section
variable {prog:Program}{w:World}{A:Around}{R:Result->Shared->Prop}{s:Shared}
def E1{e target b:Expr}(I:Nat->Shared->Prop)
 (g:∀n s,I n s->wpAny (model prog w) A (pyNext it) (λr j=>match r with
   |none=>R (.ok .next) j
   |some v=>wpAny (model prog w) A (letOwnedTupleGo target it v) (λ_ s₀=>wpAny (model prog w) A (assign target env v) (λ_ o=>
     wpAny (model prog w) A (forIn d true λc r=>if r=true then do let ok <-isTrue c env (eval c env);pure (ForInStep.yield ok)else pure (ForInStep.yield r)) (λok i=>
      if ok=true then wpAny (model prog w) A (eval e env) (λx l=>
       wpAny (model prog w) A (call (.builtin "list.append") [f,x]) (λ_ k=>∃m,m<n/\I m k) (λ_ _=>False) l) (λ_ _=>False) i
      else∃m,m<n/\I m i) (λ_ _=>False) o) (λ_ _=>False) s₀) (λ_ _=>False) j) (λ_ _=>False) s)
 (n:Nat) (h:I n s):
 codeAny (model prog w) A (.compLoop (.ListComp e [⟨target,b,d,0⟩] scope pos) 0 it f env) R s:=by
 show codeAny_loop rfl I (λn s B=>?_) n h;change wpAny _ A ((compTurn (.ListComp e [⟨target,b,d,0⟩] scope pos) 0 it f env).onRaise (λx=>do noteFrame x env;theTreesLotGoes x)) _ _ s;show wpAny_noted ?_;rw[compTurn_list];show Xw (aaF (Xw (Y3 (g n s B) (λr j q=>?_) λ_ _ a=>a.elim)));cases r with
 |none=>show XM q
 |some v=>
  show Xw (Y3 q (λ_ s₀ z=>?_) λ_ _ a=>a.elim);show Xw (Y3 z (λ_ o y=>Xw (Y3 y (λok i p=>?_) λ_ _ a=>a.elim)) λ_ _ a=>a.elim);cases ok with
  |false=>show XM ⟨rfl,p⟩
  |true=>
   show Xw (Xw (Y3 p (λx l u=>Xw (Y3 u (λ_ k t=>XM (XM ⟨rfl,t⟩)) λ_ _ a=>a.elim)) λ_ _ a=>a.elim))
end
def eC(cells:List (Str×Addr)):List (Str×NameKind)->List (Str×Addr)->List (Str×Addr)
 | [],a=>a
 |(n,k)::r,a=>if k== .free then(match cells.lookup n with|some c=>eC cells r ((n,c)::a)|none=>eC cells r a)else eC cells r a
def dY{cells:List (Str×Addr)}:∀(names:List (Str×NameKind)) (acc:List (Str×Addr)),(∀x c,acc.lookup x=some c->cells.lookup x=some c)->
 ∀x c,(eC cells names acc).lookup x=some c->cells.lookup x=some c
 | [],acc,h,x,c,e=>h x c e
 |(n,k)::r,acc,h,x,c,e=>by
  unfold eC at e;split at e
  . split at e
    . rename_i d q;show dY r _ (λy b a=>?_) x c e;rw[Yy]at a;split at a
      . rename_i z;cases a;let f:y=n:=by simpa using z
        rw[f];show q
      show h y b a
    show dY r _ h x c e
  show dY r _ h x c e
def kF{cells:List (Str×Addr)}:∀(names:List (Str×NameKind)) (acc:List (Str×Addr)),(∃c,cells.lookup x=some c)->((x,NameKind.free)∈names\/∃c,acc.lookup x=some c)->
 ∃c,(eC cells names acc).lookup x=some c
 | [],acc,_,h=>by
   rcases h with h|h
   . simp at h
   show h
 |(n,k)::r,acc,a,h=>by
  unfold eC;split
  . rename_i hk;split
    . rename_i d q;show kF r _ a ?_;rcases h with h|⟨c,h⟩
      . rcases XU.mp h with e|e
        . cases e;show .inr ⟨d,by simp[Yy]⟩
        show .inl e
      show .inr ?_;rw[Yy];split
      . show⟨_,rfl⟩
      show⟨c,h⟩
    rename_i q;show kF r _ a ?_;rcases h with h|h
    . rcases XU.mp h with e|e
      . cases e;obtain⟨c,a⟩:=a;rw[a]at q;cases q
      show .inl e
    show .inr h
  rename_i hk;show kF r _ a ?_;rcases h with h|h
  . rcases XU.mp h with e|e
    . cases e;show absurd rfl hk
    show .inl e
  show .inr h
def pf{scope:Scope}{env:Env}(h:∀x∈scope.names,x.2= .free->∃c,env.cells.lookup x.1=some c):closureFor scope env=pure (eC env.cells scope.names []):=by
 let key:∀(names:List (Str×NameKind)) (b:List (Str×Addr)),(∀x∈names,x.2= .free->∃c,env.cells.lookup x.1=some c)->
  (forIn names b (λ(x:Str×NameKind) (j:List (Str×Addr))=>if(x.2==NameKind.free)=true then(do let a <-cellOf env x.1;pure (ForInStep.yield ((x.1,a)::j)):Sem (ForInStep (List (Str×Addr))))else pure (ForInStep.yield j)))=(pure (eC env.cells names b):Sem (List (Str×Addr))):=by
  intro names;induction names with
  |nil=>intro b _;rfl
  |cons p r f=>
   intro b i;obtain⟨n,k⟩:=p;rw[abC];let l:=f;by_cases hk:(k==NameKind.free)=true
   . obtain⟨c,e⟩:=i (n,k) XX (by simpa using hk);simp![hk,aar]
     let m:cellOf env n=pure c:=by
      unfold cellOf;rw[e]
     rw[m];simp![pure_bind];rw[f _ λx g=>i x (XN _ g)];conv=>rhs;unfold eC
     simp![hk,aar];rw[show env.cells.lookup n=some c from e]
   have d:(k==NameKind.free)=false:=by simpa using hk
   simp![d,ZS,Z9,pure_bind];rw[f _ λx g=>i x (XN _ g)];conv=>rhs;unfold eC
   simp![d,ZS,Z9]
 unfold closureFor;let:=key scope.names [] h;rw[bind_pure]
 first
  |show this
  |(simp![bind_pure]at this⊢;show this)
end L3
namespace L3
open PySem PySem.Spec L2
open PyProof.Rows hiding St
def k6(env:Env):∀(names:List (Str×NameKind)) (x:Str),
 (names.map λ(n,k)=>if(k==NameKind.free&&env.scope.kind== .function&&env.kindOf n==some .cell)then(n,NameKind.cell)else(n,k)).lookup x=
   (names.lookup x).map λk=>if(k==NameKind.free&&env.scope.kind== .function&&env.kindOf x==some .cell)then NameKind.cell else k
 | [],_=>rfl
 |(n,k)::r,x=>by
  change List.lookup x ((if(k==NameKind.free&&env.scope.kind== .function&&env.kindOf n==some .cell)=true then(n,NameKind.cell)else(n,k))::_)=_;cases b:x==n with
  |true=>
   have e:x=n:=by simpa using b
   subst e;by_cases a:(k==NameKind.free&&env.scope.kind== .function&&env.kindOf x==some .cell)=true
   . rw[XB a];simp![Yy,aaG,ZT];rw[XB a]
   rw[Xx a];simp![Yy,aaG,ZT];rw[Xx a]
  |false=>
   by_cases a:(k==NameKind.free&&env.scope.kind== .function&&env.kindOf n==some .cell)=true
   . rw[XB a];simp![Yy,b];show k6 env r x
   rw[Xx a];simp![Yy,b];show k6 env r x
def EG{scope:Scope}(h:scope.names.lookup x=some .free):(relabel scope env).names.lookup x=some .cell\/(relabel scope env).names.lookup x=some .free:=by
 let e:(relabel scope env).names.lookup x=_:=k6 env scope.names x;rw[e,h];simp![ZT];split
 . show .inl rfl
 show .inr rfl
def DJ{scope:Scope}(h:(relabel scope env).names.lookup x=some .cell\/(relabel scope env).names.lookup x=some .free):(x,NameKind.free)∈scope.names\/scope.names.lookup x=some .cell:=by
 let e:(relabel scope env).names.lookup x=_:=k6 env scope.names x;rw[e]at h;cases q:scope.names.lookup x with
 |none=>rw[q]at h;rcases h with h|h<;>cases h
 |some k=>
  rw[q]at h;simp![ZT]at h;let m:=Yr q;by_cases a:(k==NameKind.free&&env.scope.kind== .function&&env.kindOf x==some .cell)=true
  . have:k= .free:=by
     simp![Ym]at a;simpa using a.1.1
    subst this;show .inl m
  rw[Xx a]at h;rcases h with h|h
  . cases h;show .inr rfl
  cases h;show .inl m
def iy:∀(names:List (Str×NameKind)) (L:Nat) (acc:List (Str×Addr)),cellsFrom L names acc=cellsFrom L names []++acc
 | [],_,_=>rfl
 |(n,k)::r,L,acc=>by
  unfold cellsFrom;by_cases hk:(k==NameKind.cell)=true
  . rw[XB hk,XB hk,iy r (L+1) ((n,L)::acc),iy r (L+1) [(n,L)],Zh];rfl
  rw[Xx hk,Xx hk];show iy r L acc
def uE:∀ {names:List (Str×NameKind)} {L:Nat} {x:Str} {c:Addr},(x,c)∈cellsFrom L names []->(x,NameKind.cell)∈names
 | [],_,_,_,h=>by unfold cellsFrom at h;cases h
 |(n,k)::r,L,x,c,h=>by
  unfold cellsFrom at h;by_cases hk:(k==NameKind.cell)=true
  . rw[XB hk,iy]at h;let a:k= .cell:=by simpa using hk
    subst a;rcases Yn.mp h with h|h
    . show XN _ (uE h)
    have:(x,c)=(n,L):=by simpa using h
    cases this;show XX
  rw[Xx hk]at h;show XN _ (uE h)
def tQ:∀ {a b:List (Str×Addr)} {x:Str} {c:Addr},(a++b).lookup x=some c->a.lookup x=some c\/(a.lookup x=none/\b.lookup x=some c)
 | [],_,_,_,h=> .inr ⟨rfl,h⟩
 |(n,d)::a,b,x,c,h=>by
  rw[List.cons_append,Yy]at h;rw[Yy];cases e:x==n with
  |true=>rw[e]at h;show .inl h
  |false=>rw[e]at h;show tQ h
def xf:∀ {b a:List (Str×Addr)} {x:Str},b.lookup x=none->(b++a).lookup x=a.lookup x
 | [],_,_,_=>rfl
 |(n,d)::b,a,x,h=>by
  rw[Yy]at h;rw[List.cons_append,Yy];cases c:x==n with
  |true=>rw[c]at h;cases h
  |false=>rw[c]at h;show xf h
def oP(scope:Scope)(C:Addr)(cl:List (Str×Addr)):List (Str×Addr):=cellsFrom (C+1) scope.names cl
def kL{scope:Scope}{cl:List (Str×Addr)}(h:(oP scope C cl).lookup x=some c):(x,c)∈cellsFrom (C+1) scope.names []\/cl.lookup x=some c:=by
 unfold oP at h;rw[iy]at h;rcases tQ h with h|h
 . show .inl (Yr h)
 show .inr h.2
def Su(names:List (Str×NameKind))(h:Heap){C:Addr}(e:h.objs.size=C+1):CellsOk (pushCells h names) (C+1) (cellsFrom (C+1) names []):=by
 let:=cellsFrom_ok names h (C+1) [] ⟨λ_ _ a=>(nomatch a),List.Pairwise.nil⟩ (by rw[e];show Xv _);rw[e]at this;show this
def qu{names:List (Str×NameKind)}{C:Addr}{x:Str}{c:Addr}:∀ {L:Nat},C<=L->(x,c)∈cellsFrom L names []->C<=c:=by
 induction names with
 |nil=>intro L _ h;unfold cellsFrom at h;cases h
 |cons p r b=>
  obtain⟨n,k⟩:=p;intro L a h;unfold cellsFrom at h;by_cases hk:(k==NameKind.cell)=true
  . rw[XB hk,iy]at h;rcases Yn.mp h with h|h
    . show b (Xy a (Nat.le_succ L)) h
    have:(x,c)=(n,L):=by simpa using h
    cases this;show a
  rw[Xx hk]at h;show b a h
def own_apart:∀ {L:Nat},(x,c)∈cellsFrom L names []->(y,c)∈cellsFrom L names []->x=y:=by
 induction names with
 |nil=>intro L h;unfold cellsFrom at h;cases h
 |cons p r j=>
  obtain⟨n,k⟩:=p;intro L b a;unfold cellsFrom at b a;by_cases hk:(k==NameKind.cell)=true
  . rw[XB hk,iy]at b a;rcases Yn.mp b with e|e<;>rcases Yn.mp a with d|d
    . show j e d
    . have g:(y,c)=(n,L):=by simpa using d
      let f:c=L:=(abJ g).2;let:=qu (C:=L+1) (Xv _) e;rw[f]at this;show absurd this (Nat.not_succ_le_self _)
    . have i:(x,c)=(n,L):=by simpa using e
      let f:c=L:=(abJ i).2;let:=qu (C:=L+1) (Xv _) d;rw[f]at this;show absurd this (Nat.not_succ_le_self _)
    have i:(x,c)=(n,L):=by simpa using e
    let g:(y,c)=(n,L):=by simpa using d
    show(abJ i).1.trans (abJ g).1.symm
  rw[Xx hk]at b a;show j b a
def xI{s:Shared}{scope:Scope}{cl:List (Str×Addr)}
 (e:Q (newEnv scope s.heap.objs.size globals (oP scope s.heap.objs.size cl) a none .none (some env) builtinsNs) {s with heap:=pushCells (s.heap.push {cls:= .type "dict",data:= .dict #[]}) scope.names}):
 wpAny M A (newFunctionEnv scope globals cl [] a none .none (some env)) Q E s:=by
 simp![newFunctionEnv,Option.isSome_some,aar];show Xw (wpAny_alloc ?_);show Xw (wpAny_layCells _ (λd b cells=>by cases c:b==NameKind.cell<;>simp[c]) _ _ _ _ ?_);rw[show({s with heap:=s.heap.push {cls:= .type "dict",data:= .dict #[]}}:Shared).heap.objs.size=s.heap.objs.size+1 from YO ..];rw[abM];show Xw (XM (XM e))
structure dz(X:Cx)(scope:Scope)(Nc:List Str)(fr:List (Option Nat)):Prop where
 kind:scope.kind= .function
 cells:∀x∈scope.names,x.2= .cell->scope.names.lookup x.1=some .cell
 names:∀x∈scope.names,x.2= .local->scope.names.lookup x.1=some .local
 free:∀x∈scope.names,x.2= .free->X.env.kindOf x.1=some .cell\/X.env.kindOf x.1=some .free
 len:fr.length=Nc.length
 map:∀(i j:Nat) (x:Str),Nc[i]?=some x->fr[i]?=some (some j)->X.N[j]?=some x/\scope.names.lookup x=some .free/\(X.env.kindOf x=some .cell\/X.env.kindOf x=some .free)
def σC(fr:List (Option Nat))(σ:St):St:=fr.map λo=>o.bind λj=>(σ[j]?).join
def d8(X:Cx)(scope:Scope)(Nc:List Str)(C:Addr)(s:Shared)(H:Hp)(ex:List Addr):Cx:=
 {X with N:=Nc,s₀:=s,H₀:=H,env:=compEnvC scope (oP scope C (eC X.env.cells scope.names [])) C X.env,outer:=X.stack,stack:=X.stack,ex:=ex,fn:=λx=>scope.names.lookup x==some .cell,pn:=[],xe:=λ_ _=>False}
def wb(n:TI)(fr:List (Option Nat))(g:TG)(c:TT)(o:TE):TE:=λσ H Q=>n σ H λJ H1=>∀l,H1 l=none->
 ∃W:Nat->Nat->L2.St->Hp->Prop,(∃m,W 0 m (σC fr σ) (upd H1 l (.lst [])))/\∀i m σ H,W i m σ H->
  (J.stop i H/\Q (.ref l) H)\/(J.go i H/\∃N:L2.St->Hp->Prop,(∀f a,N f a->∃h,h<m/\W (i+1) h f a)/\∀x a,J.rf i H x a->
    g x σ a λd p=>c d p λb k=>if b=true then o d k λy j=>∃e,j l=some (.lst e)/\e.length<sizeLine/\N d (upd j l (.lst (e++[y])))else N d k)
def vp(X:Cx)(b:List Expr)(t:TT):Prop:=
 ∀(a:List (Addr×Obj)) (s:Shared) (σ:St) (H:Hp) (Q:Bool->Hp->Prop),Inv X a σ H s->t σ H Q->
  wpAny (model X.prog X.w) X.A (forIn b true λc r=>if r=true then do let ok <-isTrue c X.env (eval c X.env);pure (ForInStep.yield ok)else pure (ForInStep.yield r)) (TP X a σ Q) X.xe s
def Vr:TT:=λ_ H Q=>Q true H
def Pc:vp X [] Vr:=λ_ _ _ H _ I h=>wpAny_tests_nil ⟨H,I,h⟩
def OC(h:PT X c t):vp X [c] t:=λa s σ H Q I q=>wpAny_tests_one (h a s σ H Q I q)
section
variable {X:Cx}{scope:Scope}{Nc:List Str}{fr:List (Option Nat)}{pins:List (Addr×Obj)}{σ:St}{H:Hp}{s:Shared}
def SA{C:Addr}{fp:List Addr}(S:dz X scope Nc fr)(I:Inv X pins σ H s)(i:C=s.heap.objs.size)(l:∀b∈fp,oy X pins H b)(k:∀b∈fp,b<s.heap.objs.size)(n:∀b∈fp,∀x c,X.env.cells.lookup x=some c->c≠b):
 (d8 X scope Nc C s H fp).Ok where
 mod:=I.ok.mod
 kind:=S.kind
 glob:=I.ok.glob
 blt:=I.ok.blt
 above:=abn i.symm
 inj:=λx y c g f=>by
  let low:∀ {z},(eC X.env.cells scope.names []).lookup z=some c->c<s.heap.objs.size:=λ{z} p=>by
   obtain⟨v,q⟩:=I.cell z c (dY _ [] (λ_ _ e=>by cases e) z c p);show q.lt
  rcases kL g with g|g<;>rcases kL f with f|f
  . show own_apart g f
  . have a:=qu (C:=C+1) (Xv _) g;let b:c<C:=by rw[i];show low f
    show absurd a (Nat.not_le_of_gt (Yk b))
  . have a:=qu (C:=C+1) (Xv _) f;let b:c<C:=by rw[i];show low g
    show absurd a (Nat.not_le_of_gt (Yk b))
  show I.ok.inj x y c (dY _ [] (λ_ _ e=>by cases e) x c g) (dY _ [] (λ_ _ e=>by cases e) y c f)
 has:=λx r=>by
  rcases DJ r with m|m
  . obtain⟨c,e⟩:=kF scope.names [] (I.ok.has x (S.free _ m rfl)) (.inl m);show ZH.mp (Zn _ _ _ (.inr (by rw[e];rfl)))
  show ZH.mp (Zn _ _ _ (.inl m))
 CI:=λx c l h=>by
  let t:scope.names.lookup x=some .cell:=by
   let:(scope.names.lookup x==some .cell)=true:=l;simpa using this
  obtain⟨A,e⟩:=ZH.mp (Zn (x:=x) scope.names (C+1) [] (.inl t))
  let u:(cellsFrom (C+1) scope.names []++eC X.env.cells scope.names []).lookup x=some c:=by
   rw[<-iy];show h
  rcases tQ u with q|q
  . have:=qu (C:=C+1) (Xv _) (Yr q);change s.heap.objs.size<=c;rw[<-i];show abd this
  rw[q.1]at e;cases e
 hd:=I.ok.hd
 frames:=I.ok.frames
 Gw:= .inl rfl
 Jd:=λb d=>⟨by rw[show(d8 X scope Nc C s H fp).env.locals=s.heap.objs.size from i];show X_ (k b d),λx c h=>by
  rcases kL h with h|h
  . have a:=qu (C:=C+1) (Xv _) h;let w:b<C:=by rw[i];show k b d
    show ZG (XR w (abd a))
  show n b d x c (dY _ [] (λ_ _ e=>by cases e) x c h)⟩
 bs:=I.bs
 vt:=Xy I.ok.vt I.sz
 xN:=λb o e d=>by
  let j:=(l b d).2.2.2.1;rcases j with j|j
  . show I.ok.xN b o e j
  show absurd (XQ (I.ok.bs b o e).1) (Nat.not_lt.mpr j)
 xT:=λb d z=>by
  let q:=I.EE b z;rcases XU.mp q with q|q
  . show(l b d).2.1 q
  show(l b d).2.2.1 q
 nO:=I.stack
 zt:=λb d=>I.zz b d
 gt:=I.ok.gt
def Ga{i:Nat}{v:V}(h:(σC fr σ)[i]?=some (some v)):∃j,fr[i]?=some (some j)/\σ[j]?=some (some v):=by
 unfold σC at h;rw[XJ]at h;cases q:fr[i]? with
 |none=>rw[q]at h;cases h
 |some o=>
  rw[q]at h;cases o with
  |none=>simp at h
  |some j=>
   simp![ZT,Option.some.injEq,Option.bind_some]at h;show⟨j,rfl,?_⟩;cases r:σ[j]? with
   |none=>rw[r]at h;cases h
   |some u=>rw[r]at h;simp at h;rw[h]
def LX{s':Shared}{h':Heap}{C:Addr}{fp:List Addr}{t':Nat}(S:dz X scope Nc fr)(I:Inv X pins σ H s)(n:C=s.heap.objs.size)(ok:(d8 X scope Nc C s H fp).Ok)(L:∀b∈fp,H b=none)
 (k:∀b o,s.heap.get? b=some o->h'.get? b=some o) (J:h'.Ns C (λ_=>none)) (g:∀x c,(x,c)∈cellsFrom (C+1) scope.names []->h'.IsCell c none):Inv (d8 X scope Nc C s H fp) [] (σC fr σ) H {s with heap:=h',toks:=t'} where
 ok:=ok
 os:=rfl
 bare:=I.bare
 base:=Un.kept k
 loc:=⟨_,J,λi x v N M Q=>by
  obtain⟨j,B,A⟩:=Ga M;obtain⟨D,f,l⟩:=S.map i j x N B;obtain⟨m,P,K⟩:=I.loc
  let d:CY X.env.scope x:=by
   rcases l with z|z
   . show .inr (.inl z)
   show .inr (.inr z)
  obtain⟨u,r,E⟩:=K j x v D A d;show⟨u,r,?_⟩;rcases E with⟨z,_⟩|⟨z,c,e,F⟩
  . rcases l with y|y
    . rw[y]at z;cases z
    rw[y]at z;cases z
  show .inr ⟨EG f,?_⟩;obtain⟨O,w⟩:=kF scope.names [] ⟨c,e⟩ (.inl (Yr f));let t:=dY _ [] (λ_ _ e=>by cases e) x O w;rw[e]at t;cases t;show⟨c,?_,F.keeps k⟩;change(oP scope C (eC X.env.cells scope.names [])).lookup x=some c;unfold oP;rw[iy,xf ?_]
  . show w
  cases q:(cellsFrom (C+1) scope.names []).lookup x with
  |none=>rfl
  |some R=>
   have:=S.cells _ (uE (Yr q)) rfl;rw[f]at this;cases this⟩
 cell:=λx c h=>by
  rcases kL h with h|h
  . show⟨_,g x c h⟩
  obtain⟨v,q⟩:=I.cell x c (dY _ [] (λ_ _ e=>by cases e) x c h);show⟨v,q.keeps k⟩
 free:=by change H C=none;rw[n];show I.aO.fresh (Xv _)
 kj:=λx c h=>by
  rcases kL h with h|h
  . have a:=qu (C:=C+1) (Xv _) h;show I.aO.fresh (by rw[<-n];show abd a)
  show I.kj x c (dY _ [] (λ_ _ e=>by cases e) x c h)
 pin:=λp G=>by cases G
 aO:=I.aO.kept k
 len:=by unfold σC;rw[Xr];show S.len
def Inv.forget(I:Inv X pins σ H s)(f:oy X pins H C)(g:Heap.SameBut C s.heap h'):Inv X pins σ H {s with heap:=h'}:=by
 show I.Hi (s':={s with heap:=h'}) (ch:=[C]) rfl ?_ ?_ I.bare λb c=>?_
 . have h:∀b,b∉[C]->b≠C:=λb c z=>c (by simp[z]);show{keep:=λb o q _ _ d=>(g.2 b (h b d)).trans q,slot:=λb o q _ _ d=>⟨o.slots,(g.2 b (h b d)).trans q⟩,free:=λb o q n _=>n,there:=λb o q d=>⟨o,(g.2 b (h b d)).trans q⟩,rG:=λ_ _ e=>e,qM:=λ_ _ _ e=>e,p_:=λb i e=>⟨#[],by rw[e];simp⟩}
 . intro a o q;let na:∀b u,H b=some u->b≠C:=λb u q z=>by rw[z,f.1]at q;cases q
   show(I.aO a o q).rZ (λb u c e=>?_) (λ_ q=>q) λ_ _ q=>q;rw[g.2 b ?_]
   . show e
   rcases c with rfl|c
   . show na _ _ q
   show na _ _ c
 have:b=C:=by simpa using c
 subst this;show⟨f.2.2.2.1,f.2.1,f.2.2.2.2.1,f.2.2.2.2.2⟩
def yI{z tg t:Expr}{w:List Expr}{wi:TI}{g:TG}{c:TT}{te:TE}{pos:Pos}{Q:VK}{RR:Value->Addr->Result->Shared->Prop}(hx:X.xe=λ_ _=>False)(hc:X.calm=true)(S:dz X scope Nc fr)(hi:PI X tg t wi)
 (hg:∀C s H ex,PG (d8 X scope Nc C s H ex) tg g) (ht:∀C s H ex,vp (d8 X scope Nc C s H ex) w c) (he:∀C s H ex,PE (d8 X scope Nc C s H ex) z te) (I:Inv X pins σ H s) (h:wb wi fr g c te σ H Q)
 (br:∀(l C:Addr) (s6:Shared) (H5:Hp) (m:Str->Option Value),s6.heap.Ns C m->oy X pins H5 C->Inv X pins σ H5 s6->Q (.ref l) H5->RR (.ref l) C (.ok .next) s6):
 wpAny (model X.prog X.w) X.A (eval t X.env) (λx s₁=>wpAny (model X.prog X.w) X.A (pyIter x) (λit s₂=>wpAny (model X.prog X.w) X.A (newList []) (λa4 s₃=>
  wpAny (model X.prog X.w) X.A (newFunctionEnv scope X.env.globals (eC X.env.cells scope.names []) [] X.env.qual none .none (some X.env)) (λF s₄=>
   codeAny (model X.prog X.w) X.A (.compStart (.ListComp z [⟨tg,t,w,0⟩] scope pos) 0 it a4 {F with scope:=relabel scope X.env}) (RR a4 F.locals) s₄) X.xe s₃) X.xe s₂) X.xe s₁) X.xe s:=by
 show cp (hi pins s σ H _ I h) λv s1 h1=>cp h1 λbB j h2=>?_;obtain⟨it,fp,tn,J,Y,e,I2,T,az,f2,hR⟩:=h2;subst e;show wpAny_newList ?_ (Yc _);let V:=I2.Mz (t':=j.toks) (aq:=[]) (ys:=[]) .nil (Yc _);generalize e3:({j with heap:=j.heap.push {cls:= .type "list",data:= .seq ([]:List Value).toArray}}:Shared)=s3;let V:Inv X pins σ (upd Y j.heap.objs.size (.lst [])) s3:=by rw[<-e3];show V
 let ml:j.heap.objs.size<s3.heap.objs.size:=by rw[<-e3];change _<(j.heap.push _).objs.size;rw[YO];lia
 let k3:∀b o,j.heap.get? b=some o->s3.heap.get? b=some o:=λb o q=>by rw[<-e3];show XF _ q
 obtain⟨W,⟨m0,w0⟩,ab⟩:=hR j.heap.objs.size (I2.aO.fresh (Xv _));show xI ?_;let hn:(pushCells (s3.heap.push {cls:= .type "dict",data:= .dict #[]}) scope.names).Ns s3.heap.objs.size (λ_=>none):=(Heap.Ns.new s3.heap (.type "dict")).keeps (pushCells_keeps _ _);let a0:∀x c,(x,c)∈cellsFrom (s3.heap.objs.size+1) scope.names []->(pushCells (s3.heap.push {cls:= .type "dict",data:= .dict #[]}) scope.names).IsCell c none:=λx c h=>((Su scope.names _ (YO ..)).empty x c h).1;let k4:∀b o,s3.heap.get? b=some o->(pushCells (s3.heap.push {cls:= .type "dict",data:= .dict #[]}) scope.names).get? b=some o:=λb o q=>pushCells_keeps _ _ b o (XF _ q);generalize(pushCells (s3.heap.push {cls:= .type "dict",data:= .dict #[]}) scope.names)=h' at hn a0 k4⊢;let D:∀b∈fp,∃o,j.heap.get? b=some o/\∀v,o.data≠ .cell v:=T.obj _ _ az;let E:∀b∈fp,b<s3.heap.objs.size:=λb a=>let⟨o,q,_⟩:=D b a;XQ (k3 b o q)
 let bh:∀b∈fp,b≠j.heap.objs.size:=λb a=>by
  obtain⟨o,q,_⟩:=D b a;show X_ (XQ q)
 let P:∀b∈fp,oy X pins (upd Y j.heap.objs.size (.lst [])) b:=λb a=>⟨by rw[aF (bh b a)];show(f2 b a).1,(f2 b a).2⟩
 let ok:=SA (C:=s3.heap.objs.size) (fp:=fp) S V rfl P E λb a=>(f2 b a).2.2.2.2.1
 let I4:Inv (d8 X scope Nc s3.heap.objs.size s3 (upd Y j.heap.objs.size (.lst [])) fp) [] (σC fr σ) (upd Y j.heap.objs.size (.lst [])) {s3 with heap:=h',toks:=s3.toks}:=
  LX (s':=s3) S V rfl ok (λb a=>(P b a).1) k4 hn a0
 let av:tn 0 h':=T.keep _ _ _ az λb _ o q=>k4 b o (k3 b o q);generalize f:d8 X scope Nc s3.heap.objs.size s3 (upd Y j.heap.objs.size (.lst [])) fp=Xc at I4;let bl:PG Xc tg g:=by rw[<-f];show hg _ _ _ _
 let bc:vp Xc w c:=by rw[<-f];show ht _ _ _ _
 let bp:PE Xc z te:=by rw[<-f];show he _ _ _ _
 let K:Xc.prog=X.prog:=by rw[<-f];rfl
 let G:Xc.w=X.w:=by rw[<-f];rfl
 let xK:Xc.K=X.K:=by rw[<-f];rfl
 let xc:Xc.calm=true:=by rw[<-f];show hc
 let R:Xc.A=X.A:=by rw[<-f];rfl
 let xE:Xc.env=compEnvC scope (oP scope s3.heap.objs.size (eC X.env.cells scope.names [])) s3.heap.objs.size X.env:=by rw[<-f];rfl
 let xx:Xc.xe=λ_ _=>False:=by rw[<-f];rfl
 let O:∀ {k:Hp},(∀b∈fp,k b=none)->∀b∈fp,oy Xc [] k b:=λ{k} hn b a=>by
  rw[<-f];show⟨hn b a,X_ (E b a),ok.xT b a,.inl a,(ok.Jd b a).2,λp hp=>by cases hp⟩
 let B:codeAny (model X.prog X.w) X.A (.compLoop (.ListComp z [⟨tg,t,w,0⟩] scope pos) 0 (.ref it) (.ref j.heap.objs.size) (compEnvC scope (oP scope s3.heap.objs.size (eC X.env.cells scope.names [])) s3.heap.objs.size X.env))
  (RR (.ref j.heap.objs.size) s3.heap.objs.size) {s3 with heap:=h',toks:=s3.toks}:=by
  show E1 (λn s'=>∃i Z k,Inv Xc [] Z k s'/\tn i s'.heap/\(∀b∈fp,k b=none)/\W i n Z k) ?_ m0 ⟨0,_,_,I4,av,λb a=>(P b a).1,w0⟩;rintro n s5 ⟨i,σ5,H5,I5,ar,a3,w5⟩;rcases ab i n σ5 H5 w5 with⟨ah,qn⟩|⟨go,N,hN,step⟩
  . have q:=T.done Xc K G xK xc i [] s5 σ5 H5 (λ_ _=>False) I5 (O a3) ar ah;rw[R]at q;show cp q λr s6 ⟨hr,U⟩=>?_;subst hr;obtain⟨m,hm,_⟩:=U.loc;rw[xE]at hm;let M:H5 s3.heap.objs.size=none:=by let:=U.free;rw[xE]at this;show this
    let a5:Un (sy X.stack) fp (upd Y j.heap.objs.size (.lst [])) H5 s3.heap s6.heap:=by let:=U.base;rw[<-f]at this;show this
    let bb:s6.os=s3.os:=by let:=U.os;rw[<-f]at this;show this
    let aO:jJ X.prog X.w H5 s6.heap:=by let:=U.aO;rw[K,G]at this;show this
    let J:=V.Hi (s':=s6) (ch:=fp) bb a5 aO U.bare λb a=>⟨(P b a).2.2.2.1,(P b a).2.1,(P b a).2.2.2.2.1,(P b a).2.2.2.2.2⟩
    show br _ _ s6 H5 m hm (V.xD (Xv _) M) J qn
  have q:=T.item Xc K G xK xc i [] s5 σ5 H5 (λ_ _=>False) I5 (O a3) ar go;rw[R]at q;show cp q λr s6 ⟨u,hr,h6⟩=>?_;subst hr;show cp h6 λ_ s7 ⟨x,H7,I7,r7,y7,L,bq⟩=>?_;let bu:=I7.pinned (O bq) (T.obj _ _ L);let q8:=bl _ s7 σ5 H7 x u _ bu r7 (step x H7 y7);rw[K,G,R,xE,xx]at q8;show cp q8 λ_ s8 ⟨A,H8,I8,q8⟩=>?_;let q9:=bc _ s8 A H8 _ I8 q8;rw[K,G,R,xE,xx]at q9;show cp q9 λb s9 ⟨H9,I9,q9⟩=>?_
  let again:∀ {k:Hp} {s':Shared},Inv Xc ([]++vw fp s7.heap) A k s'->N A k->∃m,m<n/\∃i Z k,Inv Xc [] Z k s'/\tn i s'.heap/\(∀b∈fp,k b=none)/\W i m Z k:=λ{k s'} J nn=>by
   obtain⟨m',hm,w7⟩:=hN A k nn;show⟨m',hm,i+1,A,k,J.jz,T.keep _ _ _ L λb a o e=>(J.pin (b,o) (XY _ (XY _ (pQ a e)))).1,λb a=>?_,w7⟩;obtain⟨o,e,d⟩:=T.obj _ _ L b a;show(J.pin (b,o) (XY _ (XY _ (pQ a e)))).2.1
  cases b with
  |false=>show again I9 q9
  |true=>
   have qe:=bp _ s9 A H9 _ I9 q9;rw[K,G,R,xE,xx]at qe;show cp qe λy a6 ⟨vy,bz,bx,ry,ys,hy,bj,qN⟩=>?_;let qa:=Bb (X:=Xc) _ a6 A bz (.ref j.heap.objs.size) [vy] (.ref j.heap.objs.size) [y] (λ_ k=>N A k) bx rfl (.cons ry .nil) ⟨_,ys,vy,rfl,rfl,hy,bj,qN⟩;rw[K,G,R,xx]at qa;show cp qa λ_ bA ⟨_,bC,bw,_,a7⟩=>again bw a7
 show codeAny_compStart_list ?_ ?_
 . show B
 show T.self _ 0 _ _ _ av B
def F6{e i a:Expr}{g:TG}(j:X.xe=λ_ _=>False)(z:X.calm=true)(S:dz X scope Nc fr)(v:PI X i a o)
 (w:∀C s H ex,PG (d8 X scope Nc C s H ex) i g) (r:∀C s H ex,vp (d8 X scope Nc C s H ex) b c) (y:∀C s H ex,PE (d8 X scope Nc C s H ex) e p)
 (t:∀x,foldedSetIterable a X.env x=pure x:=by intro _;rfl):PE X (.ListComp e [⟨i,a,b,0⟩] scope pos) (wb o fr g c p):=by
 intro pins s σ H Q I h;rw[eval_ListComp];let k:closureFor scope X.env=pure (eC X.env.cells scope.names []):=pf λx j hk=>I.ok.has x.1 (S.free x j hk);show wpAny_comprehension_free rfl t k S.kind S.names ?_;show yI (RR:=λn C=>compPost (model X.prog X.w) X.A X.xe none (EP X pins σ Q) n C) j z S v w r y I h λl C D B m u f J q=>⟨m,u,λA d=>⟨.ref l,B,Inv.forget J f d,rfl,q⟩⟩
def F5{k p d:Expr}{j:List Expr}{G:TI}{g:TG}{c:TT}{K:TE}{pos b n:Pos}{i:Nat}{x:Str}(u:X.xe=λ_ _=>False)(W:X.calm=true)(S:dz X scope Nc fr)(R:PI X p d G)
 (T:∀C s H ex,PG (d8 X scope Nc C s H ex) p g) (L:∀C s H ex,vp (d8 X scope Nc C s H ex) j c) (V:∀C s H ex,PE (d8 X scope Nc C s H ex) k K) (Y:X.N.Nodup) (w:X.N[i]?=some x) (P:Loc X.env.scope x) (U:X.fn x=true\/X.env.scope.names.lookup x=some .local)
 (v:swapsWith (.ListComp k [⟨p,d,j,0⟩] scope pos) (some (.Name x b)) n.line X.env=pure true)
 (M:∀x,foldedSetIterable d X.env x=pure x:=by intro _;rfl):PS X (.Assign [.Name x b] (.ListComp k [⟨p,d,j,0⟩] scope pos) n) (qg (wb G fr g c K) (h_ i)):=by
 intro pins s σ H D I h;let y:closureFor scope X.env=pure (eC X.env.cells scope.names []):=pf λx u hk=>I.ok.has x.1 (S.free x u hk);rw[exec_Assign_Name_used _ _ _ _ v];show Xw (aaF (Xw ?_));change wpAny _ X.A (do let _ <-comprehension (.ListComp k [⟨p,d,j,0⟩] scope pos) scope X.env _ (newList []) false (eval d X.env) (some (assign (.Name x b) X.env))) _ _ s
 show Xw (Y3 (wpAny_comprehension_free (use:=some (assign (.Name x b) X.env)) (Q:=λ_ t=>SP X pins D .next t) rfl M y S.kind S.names
  (yI (RR:=λF C=>compPost (model X.prog X.w) X.A X.xe (some (assign (.Name x b) X.env)) (λ_ t=>SP X pins D .next t) F C) u W S R T L V I h λl C s6 H5 m O f J q=>?_)) (λ_ t N=>XM (XM N)) λ_ _ e=>e)
 change wpAny _ X.A (assign (.Name x b) X.env (.ref l)) _ _ _;show wpAny_assign_Name (Bi J Y w P (show RelV (.ref l) (.ref l)from rfl) (λs7 J7 A=>?_) U);obtain⟨a,o,B⟩:=A
 let E:C≠a:=by
  rcases B with rfl|B
  . show f.2.1
  show λz=>f.2.2.2.2.1 x a B z.symm
 show⟨m,O.sameBut o E,λZ r=>⟨σ.set i (some (.ref l)),H5,Inv.forget J7 f r,q⟩⟩
end
inductive D where
 |av|bl (b:Bool)|int (i:Int)|str (x:Str)|ty (n:String)|ref (n:Nat)|lst (xs:List D)|tup (xs:List D)
inductive Cell where
 |lst (xs:List D)|ins (C:Addr) (fs:List (Str×D))|dead
  |tab (P:Addr) (pos:Pos) (qual:Str) (b:Bool)
abbrev ag:=List Cell
abbrev cC:=List (Option D)
mutual
def Rep(α:List (Option Addr))(H:Hp):D->V->Prop
 | .av,v=>v= .av
 | .bl b,v=>v= .bl b
 | .int i,v=>v= .int i
 | .str x,v=>v= .str x
 | .ty n,v=>v= .ty n
 | .ref n,v=>α[n]?=some none\/∃a,α[n]?=some (some a)/\v= .ref a
 | .lst d,v=>∃a c,v= .ref a/\some a∉α/\Rd H a (.lst c)/\aM α H d c
 | .tup d,v=>∃a c,v= .ref a/\some a∉α/\H a=some (.tup c)/\aM α H d c
def aM(α:List (Option Addr))(H:Hp):List D->List V->Prop
 | [],a=>a=[]
 |d::ds,a=>∃v r,a=v::r/\Rep α H d v/\aM α H ds r
end
def bI:∀ {c:List D} {vs:List V},aM α H c vs↔Paired (Rep α H) c vs
 | [],vs=>by
   unfold aM;constructor
   . rintro rfl;show .nil
   intro h;cases h;rfl
 |d::c,vs=>by
  unfold aM;constructor
  . rintro⟨v,r,rfl,b,a⟩;show .cons b (bI.mp a)
  intro h;cases h with|cons b a=>show⟨_,_,rfl,b,bI.mpr a⟩
section
variable {α:List (Option Addr)}{H:Hp}
def aM.length{a:List D}{vs:List V}(h:aM α H a vs):a.length=vs.length:=Paired.length (bI.mp h)
def yR{A B:Type}{F:A->B->Prop}:∀ {xs:List A} {ys:List B} {i:Nat} {x:A},Paired F xs ys->xs[i]?=some x->∃y,ys[i]?=some y/\F x y
 |_,_,_,_,.nil,e=>by simp at e
 |_,_,0,_,.cons r _,e=>by simp at e;subst e;show⟨_,rfl,r⟩
 |_,_,i+1,x,.cons _ t,e=>by
  obtain⟨u,b,a⟩:=yR (i:=i) (x:=x) t (by simpa using e);show⟨u,by simpa using b,a⟩
def ik{A B:Type}{F:A->B->Prop}:∀ {xs a:List A} {ys ys':List B},Paired F xs ys->Paired F a ys'->Paired F (xs++a) (ys++ys')
 |_,_,_,_,.nil,s=>s
 |_,_,_,_,.cons r t,s=> .cons r (ik t s)
def wJ{A B:Type}{F:A->B->Prop}:∀ {xs:List A} {ys:List B} (n:Nat),Paired F xs ys->Paired F (xs.take n) (ys.take n)
 |_,_,0,_=> .nil
 |_,_,_+1,.nil=> .nil
 |_,_,n+1,.cons r t=> .cons r (wJ n t)
def wQ{A B:Type}{F:A->B->Prop}:∀ {xs:List A} {ys:List B} (n:Nat),Paired F xs ys->Paired F (xs.drop n) (ys.drop n)
 |_,_,0,r=>r
 |_,_,_+1,.nil=> .nil
 |_,_,n+1,.cons _ t=>wQ n t
def tO{A B:Type}{F:A->B->Prop}{x:A}{y:B}(r:F x y):∀ {xs:List A} {ys:List B} (i:Nat),Paired F xs ys->Paired F (xs.set i x) (ys.set i y)
 |_,_,_,.nil=> .nil
 |_,_,0,.cons _ t=> .cons r t
 |_,_,i+1,.cons q t=> .cons q (tO r i t)
def oG{A B:Type}{F:A->B->Prop}{xs:List A}{ys:List B}(h:Paired F xs ys):∀k:Nat,Paired F (List.replicate k xs).flatten (List.replicate k ys).flatten
 |0=> .nil
 |k+1=>by
  rw[Yw,Yw,YZ,YZ];show ik h (oG h k)
def aM.get{a:List D}{vs:List V}{i:Nat}{d:D}(h:aM α H a vs)(e:a[i]?=some d):∃v,vs[i]?=some v/\Rep α H d v:=yR (bI.mp h) e
end
structure Step(α:List (Option Addr))(H:Hp)(α':List (Option Addr))(H':Hp):Prop where
 ext:∀b o,some b∉α->H b=some o->H' b=some o
 pre:∀(n:Nat) (x:Option Addr),α[n]?=some x->α'[n]?=some x\/α'[n]?=some none
 new:∀b,some b∈α'->some b∉α->H b=none
def Step.refl:Step α H α H:=⟨λ_ _ _ h=>h,λ_ _ h=> .inl h,λ_ h n=>absurd h n⟩
def Step.trans{H H1 k:Hp}(a:Step α H f H1)(b:Step f H1 i k):Step α H i k where
 ext:=λc o d e=>b.ext c o (λz=>by rw[a.new c z d]at e;cases e) (a.ext c o d e)
 pre:=λn x e=>by
  rcases a.pre n x e with h|h
  . show b.pre n x h
  rcases b.pre n none h with g|g
  . show .inr g
  show .inr g
 new:=λc d n=>by
  by_cases j:some c∈f
  . show a.new c j n
  have:=b.new c d j;cases q:H c with
  |none=>rfl
  |some o=>rw[a.ext c o n q]at this;cases this
def Step.laid(h:H p=none):Step α H α (upd H p o):=
 ⟨λb u _ e=>by rw[aF (eJ e h)];show e,λ_ _ h=> .inl h,λ_ h n=>absurd h n⟩
def Step.cell(h:H p=none):Step α H (α++[some p]) (upd H p o):=
 ⟨λb u _ e=>by rw[aF (eJ e h)];show e,λn x e=> .inl (by rw[XA (Xs.mp e).1];show e),λb a n=>by
  rcases Yn.mp a with z|z
  . show absurd z n
  have:b=p:=by simpa using z
  subst this;show h⟩
def Step.write(h:some p∈α):Step α H α (upd H p o):=
 ⟨λb u n e=>by rw[aF (λz=>by subst z;show n h)];show e,λ_ _ h=> .inl h,λ_ h n=>absurd h n⟩
mutual
def Rep.step(s:Step α H c f):∀ {d:D} {v:V},Rep α H d v->Rep c f d v
 | .av,_,h=>by unfold Rep at h⊢;show h
 | .bl _,_,h=>by unfold Rep at h⊢;show h
 | .int _,_,h=>by unfold Rep at h⊢;show h
 | .str _,_,h=>by unfold Rep at h⊢;show h
 | .ty _,_,h=>by unfold Rep at h⊢;show h
 | .ref n,_,h=>by
   unfold Rep at h⊢;rcases h with h|⟨a,e,r⟩
   . rcases s.pre _ _ h with z|z<;>show .inl z
   rcases s.pre _ _ e with z|z
   . show .inr ⟨a,z,r⟩
   show .inl z
 | .lst g,_,h=>by
   unfold Rep at h⊢;obtain⟨a,b,e,n,r,q⟩:=h;show⟨a,b,e,λz=>?_,?_,aM.step s q⟩
   . have:=s.new a z n;rcases r with r|⟨o,r⟩<;>(rw[this]at r;cases r)
   rcases r with r|⟨o,r⟩
   . show .inl (s.ext _ _ n r)
   show .inr ⟨o,s.ext _ _ n r⟩
 | .tup g,_,h=>by
   unfold Rep at h⊢;obtain⟨a,b,e,n,r,q⟩:=h;show⟨a,b,e,(λz=>by rw[s.new a z n]at r;show nomatch r),s.ext _ _ n r,aM.step s q⟩
def aM.step(s:Step α H b c):∀ {a:List D} {vs:List V},aM α H a vs->aM b c a vs
 | [],_,h=>by unfold aM at h⊢;show h
 |d::a,_,h=>by
  unfold aM at h⊢;obtain⟨v,r,e,g,f⟩:=h;show⟨v,r,e,Rep.step s g,aM.step s f⟩
end
structure cU(G F H:Hp):Prop where
 eq:∀b,H b=(G b).or (F b)
 Dt:∀b o,G b=some o->F b=none
section
variable {G F H:Hp}
def cU.get(P:cU G F H)(h:G b=some o):H b=some o:=by rw[P.eq b,h];rfl
def cU.same(P:cU G F H):MP G H:=λ_ _ h=>P.get h
def cU.none(P:cU G F H)(h:H b=none):G b=none/\F b=none:=by
 let e:=P.eq b;rw[h]at e;cases q:G b with
 |none=>rw[q]at e;show⟨rfl,e.symm⟩
 |some o=>rw[q]at e;cases e
def cU.frame(P:cU G F H)(h:F b=some o):H b=some o/\G b=Option.none:=by
 let a:G b=Option.none:=by
  cases q:G b with
  |none=>rfl
  |some u=>rw[P.Dt b u q]at h;cases h
 show⟨by rw[P.eq b,a,h];rfl,a⟩
def cU.laid(P:cU G F H)(h:H p=Option.none):cU (upd G p o) F (upd H p o):=by
 obtain⟨d,c⟩:=P.none h;show⟨λb=>?_,λb u e=>?_⟩
 . by_cases a:b=p
   . subst a;rw[bf,bf];rfl
   rw[aF a,aF a];show P.eq b
 by_cases a:b=p
 . subst a;show c
 rw[aF a]at e;show P.Dt b u e
def cU.write(P:cU G F H)(h:G p=some o):cU (upd G p o') F (upd H p o'):=by
 show⟨λb=>?_,λb u e=>?_⟩
 . by_cases a:b=p
   . subst a;rw[bf,bf];rfl
   rw[aF a,aF a];show P.eq b
 by_cases a:b=p
 . subst a;show P.Dt b o h
 rw[aF a]at e;show P.Dt b u e
def cU.hide(P:cU G F H)(h:H p=Option.none):cU G (upd F p o) (upd H p o):=by
 obtain⟨c,d⟩:=P.none h;show⟨λb=>?_,λb u e=>?_⟩
 . by_cases a:b=p
   . subst a;rw[bf,bf,c];rfl
   rw[aF a,aF a];show P.eq b
 by_cases a:b=p
 . subst a;rw[c]at e;cases e
 rw[aF a];show P.Dt b u e
def cU.W7(P:cU G F H)(h:F p=some o):cU G (upd F p o') (upd H p o'):=by
 let c:=(P.frame h).2;show⟨λb=>?_,λb u e=>?_⟩
 . by_cases a:b=p
   . subst a;rw[bf,bf,c];rfl
   rw[aF a,aF a];show P.eq b
 by_cases a:b=p
 . subst a;rw[c]at e;cases e
 rw[aF a];show P.Dt b u e
def cU.show(P:cU G (upd F p o) H)(h:F p=Option.none):cU (upd G p o) F H:=by
 let c:=(P.frame (b:=p) bf)
 show⟨λb=>?_,λb u e=>?_⟩
 . by_cases a:b=p
   . subst a;rw[bf,c.1];rfl
   rw[aF a,P.eq b,aF a]
 by_cases a:b=p
 . subst a;show h
 rw[aF a]at e;let:=P.Dt b u e;rw[aF a]at this;show this
end
mutual
def Rep.mono(s:MP G H):∀ {d:D} {v:V},Rep α G d v->Rep α H d v
 | .av,_,h=>by unfold Rep at h⊢;show h
 | .bl _,_,h=>by unfold Rep at h⊢;show h
 | .int _,_,h=>by unfold Rep at h⊢;show h
 | .str _,_,h=>by unfold Rep at h⊢;show h
 | .ty _,_,h=>by unfold Rep at h⊢;show h
 | .ref n,_,h=>by unfold Rep at h⊢;show h
 | .lst c,_,h=>by
   unfold Rep at h⊢;obtain⟨a,b,e,n,r,q⟩:=h;show⟨a,b,e,n,?_,aM.mono s q⟩;rcases r with r|⟨o,r⟩
   . show .inl (s _ _ r)
   show .inr ⟨o,s _ _ r⟩
 | .tup c,_,h=>by
   unfold Rep at h⊢;obtain⟨a,b,e,n,r,q⟩:=h;show⟨a,b,e,n,s _ _ r,aM.mono s q⟩
def aM.mono(s:MP G H):∀ {a:List D} {vs:List V},aM α G a vs->aM α H a vs
 | [],_,h=>by unfold aM at h⊢;show h
 |d::a,_,h=>by
  unfold aM at h⊢;obtain⟨v,r,e,c,b⟩:=h;show⟨v,r,e,Rep.mono s c,aM.mono s b⟩
end
def mF(α:List (Option Addr))(H:Hp):List (Str×D)->List (Str×V)->Prop:=Paired λp q=>p.1=q.1/\Rep α H p.2 q.2
def m_(α:List (Option Addr))(H:Hp)(a:Addr):Cell->Prop
 | .lst xs=>∃d,H a=some (.lst d)/\aM α H xs d
 | .ins C fs=>∃g d,H a=some (.ins C g d)/\mF α H fs d
 | .dead=>False
 | .tab P pos e b=>a=P/\∃f:Array Value,H a=some (.mZ f)/\TriplesOk f.toList/\
    ((b=false/\codeAmong pos f.toList=none)\/(b=true/\∃c o d t,codeAmong pos f.toList=some (.ref c)/\some c∉α/\H c=some (.iP o (.own c))/\o.data= .fields d/\d[1]?=some (.str e t)))
structure a8(α:List (Option Addr))(st:ag)(H:Hp):Prop where
 len:α.length=st.length
 nd:∀(i j:Nat) (a:Addr),α[i]?=some (some a)->α[j]?=some (some a)->i=j
 at':∀(n:Nat) (c:Cell),st[n]?=some c->(c= .dead/\α[n]?=some none)\/∃a,α[n]?=some (some a)/\m_ α H a c
def mF.step(s:Step α H a c)(h:mF α H b vs):mF a c b vs:=Paired.L_ h λ_ _ z=>⟨z.1,z.2.step s⟩
def m_.same{H k:Hp}(s:Step α H l k)(e:k a=H a)(h:m_ α H a c):m_ l k a c:=by
 cases c with
 |lst w=>obtain⟨d,g,f⟩:=h;show⟨d,e.trans g,f.step s⟩
 |ins C fs=>obtain⟨v,d,g,f⟩:=h;show⟨v,d,e.trans g,f.step s⟩
 |dead=>show h.elim
 |tab P pos m b=>
  obtain⟨z,r,g,f,j⟩:=h;show⟨z,r,e.trans g,f,?_⟩;rcases j with j|⟨u,c,o,d,t,q,n,i,p⟩
  . show .inl j
  show .inr ⟨u,c,o,d,t,q,(λy=>by rw[s.new c y n]at i;cases i),s.ext c _ n i,p⟩
def m_.some(h:m_ α H a c):∃o,H a=some o:=by
 cases c with
 |lst i=>obtain⟨f,d,g⟩:=h;show⟨_,d⟩
 |ins C fs=>obtain⟨k,f,d,g⟩:=h;show⟨_,d⟩
 |dead=>show h.elim
 |tab P pos e b=>obtain⟨_,j,d,_⟩:=h;show⟨_,d⟩
def ee(e:α[n]?=Option.some (Option.some a))(r:Rep α H (.ref n) v):v= .ref a:=by
 unfold Rep at r;rcases r with r|⟨b,c,rfl⟩
 . rw[e]at r;cases r
 rw[e]at c;cases c;rfl
section
variable {α:List (Option Addr)}{st:ag}{H:Hp}
def a8.ia(S:a8 α st H){n:Nat}{xs:List D}(e:st[n]?=Option.some (.lst xs)):∃a,α[n]?=Option.some (Option.some a)/\∃vs,H a=Option.some (.lst vs)/\aM α H xs vs:=by
 rcases S.at' n _ e with⟨z,_⟩|z
 . cases z
 show z
def a8.ze(S:a8 α st H){n:Nat}{C:Addr}{fs:List (Str×D)}(e:st[n]?=Option.some (.ins C fs)):∃a,α[n]?=Option.some (Option.some a)/\∃b vs,H a=Option.some (.ins C b vs)/\mF α H fs vs:=by
 rcases S.at' n _ e with⟨z,_⟩|z
 . cases z
 show z
def a8.mem(S:a8 α st H)(h:Option.some a∈α):∃(n:Nat) (c:Cell),α[n]?=Option.some (Option.some a)/\st[n]?=Option.some c/\m_ α H a c:=by
 obtain⟨n,d,e⟩:=Yh.mp h;let f:n<st.length:=by rw[<-S.len];show d
 let b:α[n]?=Option.some (Option.some a):=by rw[XC d,e]
 rcases S.at' n st[n] (by simp[f])with⟨_,q⟩|⟨a',q,ca⟩
 . rw[b]at q;cases q
 rw[b]at q;cases q;show⟨n,_,b,by simp[f],ca⟩
def a8.nJ(S:a8 α st H)(h:H p=none):Option.some p∉α:=λz=>by
 obtain⟨n,c,_,_,a⟩:=S.mem z;obtain⟨o,e⟩:=a.some;rw[h]at e;cases e
def a8.laid(S:a8 α st H)(h:H p=none):a8 α st (upd H p o):=
 ⟨S.len,S.nd,λn c e=>by
  rcases S.at' n c e with z|⟨a,q,b⟩
  . show .inl z
  show .inr ⟨a,q,b.same (Step.laid h) (aF (by obtain⟨u,z⟩:=b.some;show eJ z h))⟩⟩
def a8.cell(S:a8 α st H)(h:H p=none)(v:m_ (α++[Option.some p]) (upd H p o) p c):a8 (α++[Option.some p]) (st++[c]) (upd H p o) where
 len:=by rw[YC,YC,S.len];rfl
 nd:=λi j a A y=>by
  let key:∀(i:Nat) (a:Addr),(α++[Option.some p])[i]?=Option.some (Option.some a)->(i<α.length/\α[i]?=Option.some (Option.some a))\/(i=α.length/\a=p):=by
   intro i a e;by_cases m:i<α.length
   . rw[XA m]at e;show .inl ⟨m,e⟩
   rw[Yi (ZI m)]at e
   let f:i-α.length=0:=by
    cases q:i-α.length with
    |zero=>rfl
    |succ k=>rw[q]at e;simp at e
   rw[f]at e;let:p=a:=by simpa using e
   show .inr ⟨by lia,this.symm⟩
  rcases key i a A with⟨x,l⟩|⟨x,l⟩<;>rcases key j a y with⟨w,g⟩|⟨w,g⟩
  . show S.nd i j a l g
  . subst g;show absurd (XS l) (S.nJ h)
  . subst l;show absurd (XS g) (S.nJ h)
  lia
 at':=λn d e=>by
  by_cases b:n<st.length
  . rw[XA b]at e;let r:n<α.length:=by rw[S.len];show b
    rcases S.at' n d e with⟨z,q⟩|⟨a,q,s⟩
    . show .inl ⟨z,by rw[XA r];show q⟩
    show .inr ⟨a,by rw[XA r];show q,s.same (Step.cell h) (aF (by obtain⟨u,z⟩:=s.some;show eJ z h))⟩
  rw[Yi (ZI b)]at e
  let f:n-st.length=0:=by
   cases q:n-st.length with
   |zero=>rfl
   |succ k=>rw[q]at e;simp at e
  rw[f]at e;let t:c=d:=by simpa using e
  subst t;show .inr ⟨p,?_,v⟩;rw[Yi (by rw[S.len];show ZI b),S.len,f];rfl
def a8.write(S:a8 α st H)(e:α[n]?=Option.some (Option.some p))(h:m_ α (upd H p o) p c):a8 α (st.set n c) (upd H p o) where
 len:=by rw[XH];show S.len
 nd:=S.nd
 at':=λm d q=>by
  let f:Option.some p∈α:=XS e;by_cases b:m=n
  . subst b
    let g:m<st.length:=by
     let:=(Xs.mp q).1;rw[XH]at this;show this
    rw[XE g]at q;cases q;show .inr ⟨p,e,h⟩
  rw[Xu (XI b)]at q;rcases S.at' m d q with z|⟨a,r,i⟩
  . show .inl z
  show .inr ⟨a,r,i.same (Step.write f) (aF λz=>?_)⟩;subst z;show b (S.nd m n _ r e)
end
abbrev DK:=D->ag->Prop
abbrev DE:=cC->ag->DK->Prop
abbrev DT:=cC->ag->(Bool->ag->Prop)->Prop
abbrev DA:=cC->ag->(List D->ag->Prop)->Prop
structure nr where
 nx:cC->ag->Prop
 rt:DK
 bk:cC->ag->Prop:=λ_ _=>False
 ct:cC->ag->Prop:=λ_ _=>False
abbrev DS:=nr->cC->ag->Prop
structure fA(α:List (Option Addr))(H:Hp)(σd:cC)(σ:L2.St):Prop where
 len:σd.length=σ.length
 at':∀(i:Nat) (d:D),σd[i]?=some (some d)->∃v,σ[i]?=some (some v)/\Rep α H d v
def fA.step(s:Step α H b c)(h:fA α H a σ):fA b c a σ:=
 ⟨h.len,λi d e=>let⟨v,q,r⟩:=h.at' i d e;⟨v,q,r.step s⟩⟩
def fA.set{a:cC}{σ:L2.St}(h:fA α H a σ)(i:Nat)(r:Rep α H d v):fA α H (a.set i (some d)) (σ.set i (some v)):=by
 show⟨by rw[XH,XH,h.len],λj e q=>?_⟩;let f:=h.len;by_cases c:j=i
 . subst c
   let b:j<a.length:=by
    let:=(Xs.mp q).1;rw[XH]at this;show this
   rw[XE b]at q;cases q;show⟨v,XE (),r⟩
 rw[Xu (XI c)]at q;rw[Xu (XI c)];show h.at' j e q
def LK(α:List (Option Addr))(G F:Hp)(K:DK)(Q:VK):Prop:=∀d a,K d a->∀c b e v,Step α G c b->cU b F e->a8 c a b->Rep c b d v->Q v e
def Nw(α:List (Option Addr))(G F:Hp)(K:Bool->ag->Prop)(Q:Bool->Hp->Prop):Prop:=∀b a,K b a->∀d c e,Step α G d c->cU c F e->a8 d a c->Q b e
def WX(α:List (Option Addr))(G F:Hp)(K:List D->ag->Prop)(Q:List V->Hp->Prop):Prop:=∀e a,K e a->∀c b f d,Step α G c b->cU b F f->a8 c a b->aM c b e d->Q d f
inductive VP(t:DE)(σ:L2.St)(H:Hp)(Q:VK):Prop
 |mk (α:List (Option Addr)) (σd:cC) (st:ag) (K:DK) (G F:Hp) (P:cU G F H) (R:fA α G σd σ) (S:a8 α st G) (h:t σd st K) (k:LK α G F K Q):VP t σ H Q
def LE(t:DE):TE:=VP t
inductive VD(t:DT)(σ:L2.St)(H:Hp)(Q:Bool->Hp->Prop):Prop
 |mk (α:List (Option Addr)) (σd:cC) (st:ag) (K:Bool->ag->Prop) (G F:Hp) (P:cU G F H) (R:fA α G σd σ) (S:a8 α st G) (h:t σd st K) (k:Nw α G F K Q):VD t σ H Q
def LT(t:DT):TT:=VD t
inductive VW(t:DA)(σ:L2.St)(H:Hp)(Q:List V->Hp->Prop):Prop
 |mk (α:List (Option Addr)) (σd:cC) (st:ag) (K:List D->ag->Prop) (G F:Hp) (P:cU G F H) (R:fA α G σd σ) (S:a8 α st G) (h:t σd st K) (k:WX α G F K Q):VW t σ H Q
def LA(t:DA):TA:=VW t
def LK.here{α:List (Option Addr)}{G F H:Hp}{K:DK}{Q:VK}(h:LK α G F K Q)(P:cU G F H){d:D}{st:ag}{v:V}(k:K d st)(S:a8 α st G)(r:Rep α G d v):Q v H:=h d st k α G H v Step.refl P S r
def LK.at{α b:List (Option Addr)}{G F c:Hp}{K:DK}{Q:VK}(h:LK α G F K Q)(s:Step α G b c):LK b c F K Q:=λd a k e i g v f P S r=>h d a k e i g v (s.trans f) P S r
def Nw.at{α b:List (Option Addr)}{G F c:Hp}{K:Bool->ag->Prop}{Q:Bool->Hp->Prop}(h:Nw α G F K Q)(s:Step α G b c):Nw b c F K Q:=λd a k e i g f P S=>h d a k e i g (s.trans f) P S
section
variable {X:Cx}{a b c e:Expr}{es:List Expr}{ta tb tc te:DE}{pos:Pos}
def PE.imp(h:PE X e t)(f:∀σ H Q,t' σ H Q->t σ H Q):PE X e t':=λd s σ H Q I q=>h d s σ H Q I (f σ H Q q)
def PT.imp(h:PT X e t)(f:∀σ H Q,t' σ H Q->t σ H Q):PT X e t':=λd s σ H Q I q=>h d s σ H Q I (f σ H Q q)
def PW.imp(h:PW X e t)(f:∀σ H Q,t' σ H Q->t σ H Q):PW X e t':=λw d s σ H Q I q=>h w d s σ H Q I (f σ H Q q)
def PA.imp(h:PA X es t)(f:∀σ H Q,t' σ H Q->t σ H Q):PA X es t':=λp d s σ H Q I q=>h p d s σ H Q I (f σ H Q q)
def aa(i:Nat):DE:=λσ f K=>match σ[i]? with|some (some d)=>K d f|_=>False
def dC(d:D):DE:=λ_ f K=>K d f
def TR(h:PE X (.Name x pos) (Ta i)):PE X (.Name x pos) (LE (aa i)):=PE.imp h λσ H Q ⟨α,f,g,K,G,F,P,R,S,t,k⟩=>by
 unfold aa at t;split at t
 . rename_i d q;obtain⟨v,e,r⟩:=R.at' i d q;show⟨v,e,k.here P t S r⟩
 show t.elim
def sJ(h:PE X e (tC v))(r:∀α H,Rep α H d v):PE X e (LE (dC d)):=PE.imp h λσ H Q ⟨α,f,g,K,G,F,P,R,S,t,k⟩=>k.here P t S (r α G)
def UZ:PE X (.Constant (.int i) j pos) (LE (dC (.int i))):=sJ To λ_ _=>by unfold Rep;rfl
def Ww:PE X (.Constant (.bool i) j pos) (LE (dC (.bl i))):=sJ UN λ_ _=>by unfold Rep;rfl
def T7:PE X (.Constant (.str i) j pos) (LE (dC (.str i))):=sJ RK λ_ _=>by unfold Rep;rfl
def Ux:PE X (.Constant .none j pos) (LE (dC .av)):=sJ Sb λ_ _=>by unfold Rep;rfl
abbrev dG:=D->D->ag->DK->Prop
abbrev Dy:=D->ag->DK->Prop
abbrev gu:=List D->ag->DK->Prop
inductive VL(r:dG)(x y:V)(H:Hp)(Q:VK):Prop
 |mk (α:List (Option Addr)) (d e:D) (st:ag) (K:DK) (G F:Hp) (P:cU G F H) (rx:Rep α G d x) (ry:Rep α G e y) (S:a8 α st G) (h:r d e st K) (k:LK α G F K Q):VL r x y H Q
def LR(r:dG):R2:=VL r
inductive QC(r:Dy)(x:V)(H:Hp)(Q:VK):Prop
 |mk (α:List (Option Addr)) (d:D) (st:ag) (K:DK) (G F:Hp) (P:cU G F H) (rx:Rep α G d x) (S:a8 α st G) (h:r d st K) (k:LK α G F K Q):QC r x H Q
def Oj(r:Dy):V->Hp->VK->Prop:=QC r
inductive SV(r:gu)(xs:List V)(H:Hp)(Q:VK):Prop
 |mk (α:List (Option Addr)) (ds:List D) (st:ag) (K:DK) (G F:Hp) (P:cU G F H) (rx:aM α G ds xs) (S:a8 α st G) (h:r ds st K) (k:LK α G F K Q):SV r xs H Q
def iE(r:gu):List V->Hp->VK->Prop:=SV r
def ak(r:dG)(ta tb:DE):DE:=λσ g K=>ta σ g λx f=>tb σ f λy d=>r x y d K
def nU(r:Dy)(ta:DE):DE:=λσ f K=>ta σ f λx d=>r x d K
def LE.op(h:LE (ak r ta tb) σ H Q):Jq (LR r) (LE ta) (LE tb) σ H Q:=by
 obtain⟨α,i,o,K,G,F,P,R,S,t,k⟩:=h;show⟨α,i,o,_,G,F,P,R,S,t,λd g q n C H1 v l A y s=>?_⟩;show⟨n,i,g,_,C,F,A,R.step l,y,q,λw f u m B E D j z x p=>?_⟩;show⟨m,d,w,f,K,B,F,z,s.step j,p,x,u,(k.at l).at j⟩
def LE.un(h:LE (nU r ta) σ H Q):VU (Oj r) (LE ta) σ H Q:=by
 obtain⟨α,g,j,K,G,F,P,R,S,t,k⟩:=h;show⟨α,g,j,_,G,F,P,R,S,t,λd f q i p H1 v l o n m=>?_⟩;show⟨i,d,f,K,p,F,o,m,n,q,k.at l⟩
def Wr(d:cu X (binaryOp op) (LR r))(g:PE X a (LE ta))(f:PE X b (LE tb)):PE X (.BinOp a op b pos) (LE (ak r ta tb)):=PE.imp (TJ d g f) λ_ _ _ h=>LE.op h
def WI(d:GC X (unaryOp op) (Oj r))(f:PE X a (LE ta)):PE X (.UnaryOp op a pos) (LE (nU r ta)):=PE.imp (U9 d f) λ_ _ _ h=>LE.un h
def Ua(d:cu X (compareOp op) (LR r))(i:PE X a (LE ta))(g:PE X b (LE tb))(f:behindInMarks op b=false:=by first|show di _|rfl):PE X (.Compare a [op] [b] pos) (LE (ak r ta tb)):=PE.imp (Qa d i g f) λ_ _ _ h=>LE.op h
def aQ(t:DE):DT:=λσ g K=>t σ g λd f=>match d with| .bl b=>K b f|_=>False
def LT.test(h:LT (aQ te) σ H Q):LE te σ H λx p=>∃k,x= .bl k/\Q k p:=by
 obtain⟨α,i,l,K,G,F,P,R,S,t,k⟩:=h;show⟨α,i,l,_,G,F,P,R,S,t,λd f q j r H1 v m o n g=>?_⟩;cases d with
 |bl b=>
  unfold Rep at g;show⟨b,g,k b f q j r H1 m o n⟩
 |_=>show q.elim
def SH(d:cu X (compareOp op) (LR r))(i:PE X a (LE ta))(g:PE X b (LE tb))(f:behindInMarks op b=false:=by first|show di _|rfl):PT X (.Compare a [op] [b] pos) (LT (aQ (ak r ta tb))):=PT.imp (O9 d i g f) λσ H Q h=>by
 let q:=LT.test h;show LE.op (Q:=λx j=>∃k,x= .bl k/\Q k j) q
def R6(f:PE X e (LE te))(d:∀whole,isTrue e X.env whole=(do let v <-whole;standAt e.pos;holding [v] (truthy v)):=by intro _;rfl):PT X e (LT (aQ te)):=PT.imp (SE f d) λσ H Q h=>LT.test h
def i3(t:DT):DT:=λσ f K=>t σ f λb d=>K (!b) d
def rm(t u:DT):DT:=λσ f K=>t σ f λb d=>if b=true then u σ d K else K false d
def va(t u:DT):DT:=λσ f K=>t σ f λb d=>if b=true then K true d else u σ d K
def QY(j:PT X a (LT t)):PT X (.UnaryOp .Not a pos) (LT (i3 t)):=PT.imp (Q5 j) λσ H Q ⟨α,f,h,K,G,F,P,R,S,t,k⟩=>
 ⟨α,f,h,_,G,F,P,R,S,t,λb d q g n H1 i m l=>k _ d q g n H1 i m l⟩
def LT.and(h:LT (rm t u) σ H Q):QD (LT t) (LT u) σ H Q:=by
 obtain⟨α,g,n,K,G,F,P,R,S,t,k⟩:=h;show⟨α,g,n,_,G,F,P,R,S,t,λb d q i m H1 f l j=>?_⟩;cases b with
 |true=>show⟨i,g,d,K,m,F,l,R.step f,j,q,k.at f⟩
 |false=>show k _ d q i m H1 f l j
def LT.or(h:LT (va t u) σ H Q):VA (LT t) (LT u) σ H Q:=by
 obtain⟨α,g,n,K,G,F,P,R,S,t,k⟩:=h;show⟨α,g,n,_,G,F,P,R,S,t,λb d q i m H1 f l j=>?_⟩;cases b with
 |false=>show⟨i,g,d,K,m,F,l,R.step f,j,q,k.at f⟩
 |true=>show k _ d q i m H1 f l j
def PC(d:PT X a (LT t)):PW X (.BoolOp .And [a] pos) (LT t):=pw_and1 d
def Sq(d:PT X a (LT t)):PW X (.BoolOp .Or [a] pos) (LT t):=pw_or1 d
def Tx(f:PT X a (LT t))(d:PW X (.BoolOp .And (b::es) pos) (LT u)):PW X (.BoolOp .And (a::b::es) pos) (LT (rm t u)):=PW.imp (pw_and f d) λ_ _ _ h=>LT.and h
def Vc(f:PT X a (LT t))(d:PW X (.BoolOp .Or (b::es) pos) (LT u)):PW X (.BoolOp .Or (a::b::es) pos) (LT (va t u)):=PW.imp (pw_or f d) λ_ _ _ h=>LT.or h
def qS(ta tb:DE):DE:=λσ g K=>ta σ g λd f=>match d with| .bl b=>if b=true then tb σ f K else K (.bl false) f|_=>False
def MN(ta tb:DE):DE:=λσ g K=>ta σ g λd f=>match d with| .bl b=>if b=true then K (.bl true) f else tb σ f K|_=>False
def zc(t:DT):DE:=λσ f K=>t σ f λb d=>K (.bl (!b)) d
def Uk(d:PE X a (LE ta)):PE X (.BoolOp op [a] pos) (LE ta):=Rn d
def TX(r:PE X a (LE ta))(p:PE X (.BoolOp .And (b::es) pos) (LE tb)):PE X (.BoolOp .And (a::b::es) pos) (LE (qS ta tb)):=PE.imp (QF r p) λσ H Q ⟨α,h,o,K,G,F,P,R,S,t,k⟩=>by
 show⟨α,h,o,_,G,F,P,R,S,t,λd f q i n H1 v g m l j=>?_⟩;cases d with
 |bl b=>
  unfold Rep at j;show⟨b,j,?_⟩;cases b with
  |true=>show⟨i,h,f,K,n,F,m,R.step g,l,q,k.at g⟩
  |false=>show k _ f q i n H1 _ g m l (by unfold Rep;rfl)
 |_=>show q.elim
def Wj(r:PE X a (LE ta))(p:PE X (.BoolOp .Or (b::es) pos) (LE tb)):PE X (.BoolOp .Or (a::b::es) pos) (LE (MN ta tb)):=PE.imp (UP r p) λσ H Q ⟨α,h,o,K,G,F,P,R,S,t,k⟩=>by
 show⟨α,h,o,_,G,F,P,R,S,t,λd f q i n H1 v g m l j=>?_⟩;cases d with
 |bl b=>
  unfold Rep at j;show⟨b,j,?_⟩;cases b with
  |false=>show⟨i,h,f,K,n,F,m,R.step g,l,q,k.at g⟩
  |true=>show k _ f q i n H1 _ g m l (by unfold Rep;rfl)
 |_=>show q.elim
def Vj(m:PE X a (LE ta)):PE X (.UnaryOp .Not a pos) (LE (zc (aQ ta))):=PE.imp (S0 m) λσ H Q ⟨α,h,j,K,G,F,P,R,S,t,k⟩=>by
 show⟨α,h,j,_,G,F,P,R,S,t,λd f q i p H1 v l o n g=>?_⟩;cases d with
 |bl b=>
  unfold Rep at g;show⟨b,g,k _ f q i p H1 _ l o n (by unfold Rep;rfl)⟩
 |_=>show q.elim
def JZ(t:DT)(ta tb:DE):DE:=λσ f K=>t σ f λb d=>if b=true then ta σ d K else tb σ d K
def U_(n:PT X c (LT t))(p:PE X a (LE ta))(o:PE X b (LE tb)):PE X (.IfExp c a b pos) (LE (JZ t ta tb)):=PE.imp (Mr n p o) λσ H Q ⟨α,g,m,K,G,F,P,R,S,t,k⟩=>by
 show⟨α,g,m,_,G,F,P,R,S,t,λb d q h l H1 f j i=>?_⟩;cases b with
 |true=>show⟨h,g,d,K,l,F,j,R.step f,i,q,k.at f⟩
 |false=>show⟨h,g,d,K,l,F,j,R.step f,i,q,k.at f⟩
def ai:DA:=λ_ d K=>K [] d
def ae(ta:DE)(tr:DA):DA:=λσ h K=>ta σ h λx f=>tr σ f λg d=>K (x::g) d
def DW:PA X [] (LA ai):=PA.imp RN λσ H Q ⟨α,f,d,K,G,F,P,R,S,t,k⟩=>k [] d t α G H [] Step.refl P S (by unfold aM;rfl)
def zX{tr:DA}(x:PE X e (LE te))(w:PA X es (LA tr))(u:starEach (e::es) X.env=(false,eval e X.env)::starEach es X.env:=by rfl):PA X (e::es) (LA (ae te tr)):=PA.imp (PB x w u) λσ H Q ⟨α,h,o,K,G,F,P,R,S,t,k⟩=>by
 show⟨α,h,o,_,G,F,P,R,S,t,λd g q n E H1 v l B z r=>?_⟩;show⟨n,h,g,_,E,F,B,R.step l,z,q,λI f s m D C i j A y p=>?_⟩;show k _ f s m D C (v::i) (l.trans j) A y (by unfold aM;show⟨v,i,rfl,r.step j,p⟩)
def df(t:DA):DE:=λσ g K=>t σ g λf d=>f.length<=sizeLine/\K (.tup f) d
def Av(t:DA):DE:=λσ g K=>t σ g λf d=>f.length<=sizeLine/\K (.lst f) d
def Af(t:DA):DE:=λσ g K=>t σ g λf d=>f.length<=sizeLine/\K (.ref d.length) (d++[.lst f])
def LK.tup{α:List (Option Addr)}{G F H:Hp}{K:DK}{Q:VK}{g:List D}{vs:List V}{st:ag}{p:Addr}(k:LK α G F K Q)(P:cU G F H)(q:K (.tup g) st)(S:a8 α st G)(r:aM α G g vs)(f:H p=none):Q (.ref p) (upd H p (.tup vs)):=
 have d:=(P.none f).1
 k _ st q α _ _ _ (Step.laid d) (P.laid f) (S.laid d) (by unfold Rep;show⟨p,vs,rfl,S.nJ d,bf,r.step (Step.laid d)⟩)
def LK.lst{α:List (Option Addr)}{G F H:Hp}{K:DK}{Q:VK}{g:List D}{vs:List V}{st:ag}{p:Addr}(k:LK α G F K Q)(P:cU G F H)(q:K (.lst g) st)(S:a8 α st G)(r:aM α G g vs)(f:H p=none):Q (.ref p) (upd H p (.lst vs)):=
 have d:=(P.none f).1
 k _ st q α _ _ _ (Step.laid d) (P.laid f) (S.laid d) (by unfold Rep;show⟨p,vs,rfl,S.nJ d,.of bf,r.step (Step.laid d)⟩)
def LK.new{α:List (Option Addr)}{G F H:Hp}{K:DK}{Q:VK}{g:List D}{vs:List V}{st:ag}{p:Addr}(k:LK α G F K Q)(P:cU G F H)(q:K (.ref st.length) (st++[.lst g]))(S:a8 α st G)(r:aM α G g vs)(f:H p=none):Q (.ref p) (upd H p (.lst vs)):=
 have d:=(P.none f).1
 k _ _ q (α++[some p]) _ _ _ (Step.cell d) (P.laid f) (S.cell d ⟨vs,bf,r.step (Step.cell d)⟩) (by
  unfold Rep;show .inr ⟨p,?_,rfl⟩;rw[Yi (by rw[S.len];show Xv _),S.len,Zs];rfl)
def TK(h:PA X es (LA t)):PE X (.Tuple es n pos) (LE (df t)):=PE.imp (Q3 h) λσ H Q ⟨α,f,i,K,G,F,P,R,S,t,k⟩=>
 ⟨α,f,i,_,G,F,P,R,S,t,λu g q r v H1 s j o m d=>⟨by rw[<-d.length];show q.1,λp l=>(k.at j).tup o q.2 m d l⟩⟩
def UQ(h:PA X es (LA t)):PE X (.List es pos) (LE (Av t)):=PE.imp (Ls h) λσ H Q ⟨α,f,i,K,G,F,P,R,S,t,k⟩=>
 ⟨α,f,i,_,G,F,P,R,S,t,λs g q o u H1 r j n m d=>⟨by rw[<-d.length];show q.1,λp l=>(k.at j).lst n q.2 m d l⟩⟩
def Vh(h:PA X es (LA t)):PE X (.List es pos) (LE (Af t)):=PE.imp (Ls h) λσ H Q ⟨α,f,i,K,G,F,P,R,S,t,k⟩=>
 ⟨α,f,i,_,G,F,P,R,S,t,λs g q o u H1 r j n m d=>⟨by rw[<-d.length];show q.1,λp l=>(k.at j).new n q.2 m d l⟩⟩
abbrev cf:=List D->ag->DK->Prop
inductive Rk(T:cf)(vs:List V)(H:Hp)(Q:VK):Prop
 |mk (α:List (Option Addr)) (ds:List D) (st:ag) (K:DK) (G F:Hp) (P:cU G F H) (rx:aM α G ds vs) (S:a8 α st G) (h:T ds st K) (k:LK α G F K Q):Rk T vs H Q
def fm(S:cf):Sp:=λd H Q _=>Rk S d H Q
def aA(S:cf)(t:DA):DE:=λσ f K=>t σ f λg d=>S g d K
def LE.call{S:cf}(h:LE (aA S t) σ H Q):NO (fm S) [] E0 (LA t) σ H Q:=by
 obtain⟨α,f,i,K,G,F,P,R,S,t,k⟩:=h;show⟨α,f,i,_,G,F,P,R,S,t,λm d q g p H1 r j o n l=>?_⟩;try dsimp only
 rw[Zb];show⟨g,m,d,K,p,F,o,l,n,q,k.at j⟩
def RQ{S:cf}{k:Nat}{f:Addr}{fd:FuncData}{i:List Str}{x:Str}{p:Pos}{t:DA}(F:cV X.prog X.w X.K X.mg X.base eN k f fd i (fm S))(j:dv k X.A)(m:Gl X x)(l:X.mg x=some (.ref f))(hk:PySem.W.keepIn X.K (.ref f)=true)(o:Binds X.K fd i [])
 (q:PA X (e::es) (LA t)) (g:(x==("__debug__":Str))=false:=by decide) (n:starEach (e::es) X.env=(false,eval e X.env)::starEach es X.env:=by rfl) (d:(backTo pos (starEach es X.env)).any (·.1)=false:=by rfl):
 PE X (.Call (.Name x p) (e::es) [] pos) (LE (aA S t)):=PE.imp (OZ F j m l hk o .nil yP q g n d) λ_ _ _ h=>LE.call h
def bS(r:gu)(t:DA):DE:=λσ f K=>t σ f λg d=>r g d K
def LE.cb(h:LE (bS r t) σ H Q):SF (iE r) (LA t) σ H Q:=by
 obtain⟨α,f,i,K,G,F,P,R,S,t,k⟩:=h;show⟨α,f,i,_,G,F,P,R,S,t,λm d q g p H1 s j o n l=>?_⟩;show⟨g,m,d,K,p,F,o,l,n,q,k.at j⟩
end
section
variable {X:Cx}
def cu.imp{f:Value->Value->Sem Value}(h:cu X f r)(k:∀x y H Q,b x y H Q->r x y H Q):cu X f b:=λa s σ H x y v u Q I d c q=>h a s σ H x y v u Q I d c (k x y H Q q)
def cA.imp(h:cA X f r)(k:∀xs H Q,b xs H Q->r xs H Q):cA X f b:=λa s σ H xs c Q I d q=>h a s σ H xs c Q I d (k xs H Q q)
def wY(C:Int->Int->Prop)(g:Int->Int->D):dG:=λx y a K=>match x,y with| .int i,.int j=>C i j/\K (g i j) a|_,_=>False
def nF{f:Value->Value->Sem Value}{g:Int->Int->D}{g':Int->Int->V}(c:∀i j α H,Rep α H (g i j) (g' i j))(h:cu X f (rI C g')):cu X f (LR (wY C g)):=cu.imp h λx y H Q ⟨α,d,e,l,K,G,m,P,b,a,S,q,k⟩=>by
 cases d<;>cases e<;>first
  |show q.elim
  |(unfold Rep at b a;show⟨_,_,b,a,q.1,k.here P q.2 S (c _ _ _ _)⟩)
abbrev T2:Int->Int->Prop:=λ_ _=>True
def y2{g:Int->Int->V}{f:Value->Value->Sem Value}(h:cu X f (yr g)):cu X f (rI T2 g):=cu.imp h λx y H Q ⟨i,j,b,a,_,q⟩=>⟨i,j,b,a,q⟩
abbrev NQ:dG:=wY T2 λi j=> .int (i-j)
abbrev IM:dG:=wY (λ_ j=>j≠0/\j.natAbs.log2<9000) λi j=> .int (i.fdiv j)
abbrev N8:dG:=wY (λ_ j=>j≠0) λi j=> .int (i.fmod j)
abbrev NI:dG:=wY Ml λi j=> .int (i^j.toNat)
abbrev QG:dG:=wY T2 λi j=> .bl (decide (i<j))
abbrev QE:dG:=wY T2 λi j=> .bl (decide (i<=j))
abbrev Q_:dG:=wY T2 λi j=> .bl (decide (j<i))
abbrev Sf:dG:=wY T2 λi j=> .bl (decide (j<=i))
def UK:cu X (binaryOp .Sub) (LR NQ):=nF (λ_ _ _ _=>by unfold Rep;rfl) (y2 QK)
def Si:cu X (binaryOp .FloorDiv) (LR IM):=nF (λ_ _ _ _=>by unfold Rep;rfl) (N9 λi j _ _ _ _ _ a q=>floordiv_int a.1 q (.inl (abr a.2)))
def Uv:cu X (binaryOp .Mod) (LR N8):=nF (λ_ _ _ _=>by unfold Rep;rfl) ON
def UJ:cu X (binaryOp .Pow) (LR NI):=nF (λ_ _ _ _=>by unfold Rep;rfl) SN
def WJ:cu X (compareOp .Lt) (LR QG):=nF (λ_ _ _ _=>by unfold Rep;rfl) (y2 Vb)
def V2:cu X (compareOp .LtE) (LR QE):=nF (λ_ _ _ _=>by unfold Rep;rfl) (y2 TL)
def WO:cu X (compareOp .Gt) (LR Q_):=nF (λ_ _ _ _=>by unfold Rep;rfl) (y2 Ur)
def WG:cu X (compareOp .GtE) (LR Sf):=nF (λ_ _ _ _=>by unfold Rep;rfl) (y2 UD)
def NU:Dy:=λx a K=>match x with| .int i=>K (.int (-i)) a|_=>False
def Vi:GC X (unaryOp .USub) (Oj NU):=λa s σ H x v Q I b ⟨α,d,c,K,G,e,P,r,S,q,k⟩=>by
 cases d<;>first
  |show q.elim
  |(unfold Rep at r;show Ro a s σ H x v Q I b ⟨_,r,k.here P q S (by unfold Rep;rfl)⟩)
def Inv.zQ{pins:List (Addr×Obj)}{σ:L2.St}{H:Hp}{s:Shared}{l:Addr}{xs:List V}(I:Inv X pins σ H s)(h:Rd H l (.lst xs)):
 xs.length<=sizeLine/\∃(aq:List Value) (n:Nat),Vals xs aq/\xs.length=aq.length/\s.heap.get? l=some {cls:= .type "list",data:= .seq aq.toArray n}:=by
 obtain⟨z,aq,n,r,e⟩:=h.ok I.aO;show⟨z,aq,n,r,r.length,e⟩
def iV(P:cU G F H)(h:Rd G a u):Rd H a u:=by
 rcases h with h|⟨o,h⟩
 . show .inl (P.get h)
 show .inr ⟨o,P.get h⟩
def O0:cu X (binaryOp .Add) (λx y H Q=>∃l b xs c,x= .ref l/\y= .ref b/\Rd H l (.lst xs)/\Rd H b (.lst c)/\xs.length+c.length<=sizeLine/\∀p,H p=none->Q (.ref p) (upd H p (.lst (xs++c)))):=by
 intro d s σ H x y v u Q I i g h;obtain⟨l,b,xs,c,rfl,rfl,m,o,C,q⟩:=h;cases i;cases g;obtain⟨z,f,n,r,D,e⟩:=Inv.zQ I m;obtain⟨A,a,B,j,k,w⟩:=Inv.zQ I o;show PySem.P.add_list e w ?_ (by rw[XG,XG];lia);let t:f.toArray++a.toArray=(f++a).toArray:=by simp
 rw[t];show⟨.ref _,_,I.Mz (t':=s.toks) (r.append j) (by rw[YC];lia),rfl,q _ I.fresh⟩
def F4:cu X (binaryOp .Mult) (λx y H Q=>∃l k xs,x= .ref l/\y= .int k/\Rd H l (.lst xs)/\ -(2^63)<=k/\k<2^63/\xs.length*k.toNat<=sizeLine/\
 ∀p,H p=none->Q (.ref p) (upd H p (.lst (List.replicate k.toNat xs).flatten))):=by
 intro w s σ H x y v u Q I D C h;obtain⟨l,k,xs,rfl,rfl,G,K,J,A,q⟩:=h;cases D;obtain⟨t,rfl⟩:=C;obtain⟨z,b,n,r,E,e⟩:=Inv.zQ I G;let f:b.toArray.size*k.toNat<=sizeLine:=by rw[XG,<-E];show A
 let i:¬b.toArray.size*k.toNat>(2^63-1)/8:=by
  let:(sizeLine:Nat)<=(2^63-1)/8:=by decide
  lia
 let g:¬(!Builtin.List.listFitsIndex k)=true:=by
  rw[fitsIndex_both K J];show YB
 let c:¬Builtin.List.listTooLong (b.toArray.size*k.toNat)=true:=by
  rw[M4 f];show YB
 let d:List.foldl (λo j=>o++j) #[] (List.replicate (if b.toArray.isEmpty=true then 0 else k.toNat) b.toArray)=(List.replicate k.toNat b).flatten.toArray:=by
  let L:∀m:Nat,List.foldl (λo j=>o++j) #[] (List.replicate m b.toArray)=(List.replicate m b).flatten.toArray:=λm=>by
   let:=foldl_rep b m [];rw[List.nil_append]at this;show this
  rw[L];cases b with
  |nil=>simp
  |cons a M=>rw[Xx (by simp)]
 show abk (T:="list") (U:="int") ⋯ ⟨_,e,rfl⟩ (λB=>abj B k t) noFill_list_mul F.fills_int_mul aaN repeat_list F.slot_int_index.lookup
  (ZR aaN (abj s k t) F.entry_int_rmul (F.args_int_rmul_2 _ _) (int___rmul___int_list k t l b.toArray n)
    ⟨e,rfl,⟨_,e,rfl⟩,ZR F.slot_list_mul ⟨_,e,rfl⟩ F.entry_list_mul (F.args_list_mul_2 _ _) (AutoListH.list___mul___list_int_3 l b.toArray n k t g i c) ⟨e,?_⟩⟩)
 rw[d];show⟨.ref _,_,I.Mz (t':=s.toks) (r.rep k.toNat) (by rw[len_rep,Y1];show A),rfl,q _ I.fresh⟩
def MY:cu X (binaryOp .Add) (λx y H Q=>∃a b xs ys,x= .ref a/\y= .ref b/\H a=some (.tup xs)/\H b=some (.tup ys)/\xs.length+ys.length<=sizeLine/\
 (xs=[]->Q (.ref b) H)/\(xs≠ []->ys=[]->Q (.ref a) H)/\(xs≠ []->ys≠ []->∀p,H p=none->Q (.ref p) (upd H p (.tup (xs++ys))))):=by
 intro c s σ H x y v u Q I m l h;obtain⟨a,b,xs,ys,rfl,rfl,w,t,M,G,F,E⟩:=h;by_cases e:xs=[]
 . cases m;cases l;obtain⟨B,D,K,_⟩:=I.tuple (.of w);obtain⟨d,R,J,_⟩:=I.tuple (.of t);obtain⟨⟨P,O,z,C⟩,o,r,n,q⟩:=id K;obtain⟨⟨A,k,data2,j⟩,f,i,L,g⟩:=id J;simp only at r q i g;subst r q i g;let N:B=[]:=(L2.Vals.v_ D).mpr e
   show concat_meets ⟨_,o,rfl⟩ ⟨_,f,rfl⟩ abp seq_tuple_add aaD aau (aal _ _)
    (tuple_addW0 a b B.toArray d.toArray n L O k C j (by simp[N])) ⟨o,f,⟨.ref b,H,I,rfl,G e⟩⟩
 show O7 c s σ H _ _ v u Q I m l ⟨a,b,xs,ys,rfl,rfl,.of w,.of t,e,M,F e,E e⟩
def z_:fillsNumberSlot (.type "tuple") "mul"=pure false:=
 PySem.fillsNumberSlot_seq (id:="tuple.__mul__") (r:=some (.builtin "tuple.__rmul__")) aaa.lookup ∅ F.slot_tuple_rmul.lookup ∅
def HC:seqRepeat? (.type "tuple")=pure (some (.builtin "tuple.__mul__")):=by
 unfold seqRepeat?;rw[PySem.seqSlot_of (T:="tuple") (name:="__mul__") (id:="tuple.__mul__") aaa.lookup ∅,PySem.seqSlot_of (T:="tuple") (name:="__rmul__") (id:="tuple.__rmul__") F.slot_tuple_rmul.lookup ∅];rfl
def DL(a:Int)(t:Tok)(l:Addr)(aq:Array Value)(n:Nat)(c:Option Addr)(b:Array (Option Value)):Meets (Builtin.«int.__rmul__» ⟨[.int a t,.ref l],[]⟩) (λ_ R s=>s.heap.get? l=some {cls:= .type "tuple",dict:=c,data:= .seq aq n,slots:=b}/\R (.ok (.ret Value.notImplemented)) s):=
 .of_wp λP w A R s h=>by
  obtain⟨f,g,d,tk,e⟩:=s;obtain⟨i,h⟩:=h
  wp_walk
  show⟨_,rfl,h⟩
def C6(l:Addr)(aq:Array Value)(n:Nat)(c:Option Addr)(a:Array (Option Value))(x:Int)(u:Tok)(b:(decide (x< -(2^63))||decide (x>=2^63))=false)(j:(aq.isEmpty||x==1)=true):
 Meets (Builtin.«tuple.__mul__» ⟨[.ref l,.int x u],[]⟩) (λ_ R s=>s.heap.get? l=some {cls:= .type "tuple",dict:=c,data:= .seq aq n,slots:=a}/\R (.ok (.ret (.ref l))) s):=
 .of_wp λP w A R s h=>by
  obtain⟨f,g,d,tk,e⟩:=s;obtain⟨i,h⟩:=h
  wp_walk
  show aaO (by rw[b];rfl) ?_
  wp_walk
  show⟨_,rfl,h⟩
def CL(l:Addr)(aq:Array Value)(n:Nat)(c:Option Addr)(a:Array (Option Value))(x:Int)(u:Tok)(b:(decide (x< -(2^63))||decide (x>=2^63))=false)(k:(aq.isEmpty||x==1)=false)(j:(decide (x<=0)||aq.isEmpty)=true):
 Meets (Builtin.«tuple.__mul__» ⟨[.ref l,.int x u],[]⟩) (λ_ R s=>s.heap.get? l=some {cls:= .type "tuple",dict:=c,data:= .seq aq n,slots:=a}/\R (.ok (.ret (.ref s.heap.objs.size))) {s with heap:=s.heap.push {cls:= .type "tuple",data:= .seq #[]}}):=
 .of_wp λP w A R s h=>by
  obtain⟨f,g,d,tk,e⟩:=s;obtain⟨i,h⟩:=h
  wp_walk
  show aaO (by rw[b];rfl) ?_
  wp_walk
  show⟨_,rfl,h⟩
def DR(l:Addr)(aq:Array Value)(n:Nat)(i:Option Addr)(c:Array (Option Value))(x:Int)(u:Tok)(f:(decide (x< -(2^63))||decide (x>=2^63))=false)(r:(aq.isEmpty||x==1)=false)(q:(decide (x<=0)||aq.isEmpty)=false)(e:¬((aq.size:Int)*x>(2^63-1)/8))(p:Builtin.Tuple.tupleTooMany (aq.size*x)=false)
 (k:(List.foldl (λb a=>b++a) #[] (List.replicate x.toNat aq)).size<=sizeLine):
 Meets (Builtin.«tuple.__mul__» ⟨[.ref l,.int x u],[]⟩) (λ_ R s=>s.heap.get? l=some {cls:= .type "tuple",dict:=i,data:= .seq aq n,slots:=c}/\R (.ok (.ret (.ref s.heap.objs.size))) {s with heap:=s.heap.push {cls:= .type "tuple",data:= .seq (List.foldl (λb a=>b++a) #[] (List.replicate x.toNat aq))}}):=
 .of_wp λP w A R s h=>by
  obtain⟨m,g,d,tk,j⟩:=s;obtain⟨o,h⟩:=h
  wp_walk
  show aaO (by rw[f];rfl) ?_
  wp_walk
  show aaO (XW e) ?_
  wp_walk
  show⟨_,rfl,h⟩
def Qu:cu X (binaryOp .Mult) (λx y H Q=>∃l k xs,x= .ref l/\y= .int k/\H l=some (.tup xs)/\ -(2^63)<=k/\k<2^63/\xs.length*k.toNat<=sizeLine/\
 ((xs=[]\/k=1)->Q (.ref l) H)/\(¬(xs=[]\/k=1)->∀p,H p=none->Q (.ref p) (upd H p (.tup (List.replicate k.toNat xs).flatten)))):=by
 intro f s σ H x y v u Q I W S h;obtain⟨l,k,xs,rfl,rfl,hH,h1,h2,J,Y,w⟩:=h;cases W;obtain⟨t,rfl⟩:=S;obtain⟨a,r,Z,_⟩:=I.tuple (.of hH);obtain⟨⟨cls,o,data,j⟩,b,L,n,K⟩:=id Z;simp only at L K;subst L K;let B:xs.length=a.length:=r.length
 let G:(decide (k< -(2^63))||decide (k>=2^63))=false:=by
  rw[XW (),XW ()];rfl
 show abk (T:="tuple") (U:="int") ⋯ ⟨_,b,rfl⟩ (λR=>abj R k t) z_ F.fills_int_mul aaN HC F.slot_int_index.lookup
  (ZR aaN (abj s k t) F.entry_int_rmul (F.args_int_rmul_2 _ _) (DL k t l a.toArray n o j) ⟨b,rfl,⟨_,b,rfl⟩,?_⟩)
 by_cases e:xs=[]\/k=1
 . have m:(a.toArray.isEmpty||k==1)=true:=by
    rcases e with z|z
    . have:a=[]:=Y5.mp (by rw[<-B,z];rfl);rw[this];rfl
    rw[z];simp
   show ZR aaa ⟨_,b,rfl⟩ abe (aa3 _ _) (C6 l a.toArray n o j k t G m) ⟨b,⟨.ref l,H,I,rfl,Y e⟩⟩
 have A:a≠ []:=λz=>e (.inl (Y5.mp (by rw[B,z];rfl)));let C:k≠1:=λz=>e (.inr z);let N:a.toArray.isEmpty=false:=by simpa using A
 let m:(a.toArray.isEmpty||k==1)=false:=by rw[N];simpa using C
 let new:∀(i:List Value) (g:List V),Vals g i->g.length<=sizeLine->Inv X f σ (upd H s.heap.objs.size (.tup g)) {s with heap:=s.heap.push {cls:= .type "tuple",data:= .seq i.toArray}}:=λi g hv hy=>
  I.laid (t':=s.toks) (λ_ _ q=>XF _ q) (Xv _) ⟨hy,i,hv,⟨_,X5 _ rfl,rfl,_,rfl⟩⟩
 by_cases M:k<=0
 . have E:(decide (k<=0)||a.toArray.isEmpty)=true:=by rw[X7 M];rfl
   show ZR aaa ⟨_,b,rfl⟩ abe (aa3 _ _) (CL l a.toArray n o j k t G m E) ⟨b,?_⟩;let ez:k.toNat=0:=()
   rw[ez]at w;show⟨.ref _,_,new [] [] .nil (Yc _),rfl,w e _ I.fresh⟩
 have E:(decide (k<=0)||a.toArray.isEmpty)=false:=by rw[XW M,N];rfl
 let hk:(k.toNat:Int)=k:=()
 let d:a.toArray.size*k.toNat<=sizeLine:=by rw[XG,<-B];show J
 let ab:((a.toArray.size:Nat):Int)*k<=(sizeLine:Int):=by
  rw[<-hk]
  exact_mod_cast d
 let f3:¬(((a.toArray.size:Nat):Int)*k>(2^63-1)/8):=by
  let:((sizeLine:Nat):Int)<=(2^63-1)/8:=by decide
  lia
 let f4:Builtin.Tuple.tupleTooMany (((a.toArray.size:Nat):Int)*k)=false:=by
  unfold Builtin.Tuple.tupleTooMany;show XW ()
 let c:List.foldl (λP O=>P++O) #[] (List.replicate k.toNat a.toArray)=(List.replicate k.toNat a).flatten.toArray:=by
  let:=foldl_rep a k.toNat [];rw[List.nil_append]at this;show this
 let D:(List.replicate k.toNat a).flatten.length=a.length*k.toNat:=by rw[len_rep,Y1]
 show ZR aaa ⟨_,b,rfl⟩ abe (aa3 _ _) (DR l a.toArray n o j k t G m E f3 f4 (by rw[c,XG,D];show d)) ⟨b,?_⟩;rw[c];show⟨.ref _,_,new _ _ (r.rep k.toNat) (by rw[len_rep,Y1];show J),rfl,w e _ I.fresh⟩
def NH:dG:=λx y c K=>match x,y with
 | .int i,.int j=>K (.int (i+j)) c
 | .tup b,.tup a=>b.length+a.length<=sizeLine/\K (.tup (b++a)) c
 | .lst b,.lst a=>b.length+a.length<=sizeLine/\K (.lst (b++a)) c
 | .str x,.str y=>x.length+y.length<=sizeLine/\K (.str (x++y)) c
 |_,_=>False
def UW:cu X (binaryOp .Add) (LR NH):=λc s σ H x y v u Q I r o ⟨α,d,e,E,K,G,F,P,g,f,S,q,k⟩=>by
 cases d<;>cases e<;>try show q.elim
 . unfold Rep at g f;show RL c s σ H x y v u Q I r o ⟨_,_,g,f,k.here P q S (by unfold Rep;rfl)⟩
 . unfold Rep at g f;show Hb c s σ H x y v u Q I r o ⟨_,_,g,f,q.1,k.here P q.2 S (by unfold Rep;rfl)⟩
 . unfold Rep at g f;obtain⟨a,n,rfl,na,w,l⟩:=g;obtain⟨b,m,rfl,B,t,j⟩:=f;show O0 c s σ H _ _ v u Q I r o ⟨a,b,n,m,rfl,rfl,iV P w,iV P t,by rw[<-l.length,<-j.length];show q.1,λp A=>?_⟩;show k.lst P q.2 S (bI.mpr (ik (bI.mp l) (bI.mp j))) A
 rename_i D C;unfold Rep at g f;obtain⟨a,n,rfl,na,w,l⟩:=g;obtain⟨b,m,rfl,B,t,j⟩:=f;let i:=l.length;let h:=j.length;show MY c s σ H _ _ v u Q I r o ⟨a,b,n,m,rfl,rfl,P.get w,P.get t,by rw[<-i,<-h];show q.1,λz=>?_,λ_ z=>?_,λ_ _ p A=>?_⟩
 . show k.here P q.2 S ?_;unfold Rep;let:D=[]:=by rw[z]at i;show Y5.mp i
   subst this;show⟨b,m,rfl,B,t,j⟩
 . show k.here P q.2 S ?_;unfold Rep;let:C=[]:=by rw[z]at h;show Y5.mp h
   subst this;rw[Zb];show⟨a,n,rfl,na,w,l⟩
 show k.tup P q.2 S (bI.mpr (ik (bI.mp l) (bI.mp j))) A
def N5:dG:=λx y b K=>match x,y with
 | .int i,.int j=>IntMulOk i j/\K (.int (i*j)) b
 | .lst a,.int k=>(-(2^63)<=k/\k<2^63/\a.length*k.toNat<=sizeLine)/\K (.lst (List.replicate k.toNat a).flatten) b
 | .tup a,.int k=>(-(2^63)<=k/\k<2^63/\a.length*k.toNat<=sizeLine)/\K (.tup (List.replicate k.toNat a).flatten) b
 |_,_=>False
def Us:cu X (binaryOp .Mult) (LR N5):=λb s σ H x y v u Q I r o ⟨α,d,e,E,K,G,F,P,c,g,S,q,k⟩=>by
 cases d<;>cases e<;>try show q.elim
 . unfold Rep at c g;let h:cu X (binaryOp .Mult) (rI IntMulOk λi j=> .int (i*j)):=N9 λ_ _ _ _ _ _ _ D q=>mul_int q D;show h b s σ H x y v u Q I r o ⟨_,_,c,g,q.1,k.here P q.2 S (by unfold Rep;rfl)⟩
 . unfold Rep at c g;obtain⟨a,n,rfl,na,A,f⟩:=c;show F4 b s σ H _ _ v u Q I r o ⟨a,_,n,rfl,g,iV P A,q.1.1,q.1.2.1,by rw[<-f.length];show q.1.2.2,λp w=>?_⟩;show k.lst P q.2 S (bI.mpr (oG (bI.mp f) _)) w
 rename_i l m;let t:=c;unfold Rep at c g;obtain⟨a,n,rfl,na,A,f⟩:=c;show Qu b s σ H _ _ v u Q I r o ⟨a,_,n,rfl,g,P.get A,q.1.1,q.1.2.1,by rw[<-f.length];show q.1.2.2,λC=>?_,λ_ p w=>k.tup P q.2 S (bI.mpr (oG (bI.mp f) _)) w⟩
 let e:(List.replicate m.toNat l).flatten=l:=by
  rcases C with z|z
  . have:l=[]:=Y5.mp (by rw[f.length,z];rfl);rw[this];simp
  rw[z];simp
 let B:=q.2;rw[e]at B;show k.here P B S t
def live(st:ag):D->Bool
 | .ref n=>(match st[n]? with|some (.lst _)=>true|some (.ins _ _)=>true|_=>false)
 |_=>true
def yf{α:List (Option Addr)}{H:Hp}{st:ag}{n:Nat}{v:V}(S:a8 α st H)(h:live st (.ref n)=true)(r:Rep α H (.ref n) v):∃a,v= .ref a:=by
 unfold live at h;simp only at h;split at h
 . rename_i e;obtain⟨a,b,_⟩:=S.ia e;show⟨a,ee b r⟩
 . rename_i e;obtain⟨a,b,_⟩:=S.ze e;show⟨a,ee b r⟩
 cases h
def O4:dG:=λx y a K=>match y with| .av=>live a x=true/\K (.bl (match x with| .av=>false|_=>true)) a|_=>False
def Ql:cu X (compareOp .IsNot) (LR O4):=cu.imp O_ λx y H Q ⟨α,d,e,g,K,G,h,P,b,c,S,q,k⟩=>by
 cases e<;>try show q.elim
 unfold Rep at c;show⟨c,k.here P q.2 S ?_⟩;unfold Rep;cases d
 case ref n=>
  obtain⟨a,rfl⟩:=yf S q.1 b;rfl
 all_goals(unfold Rep at b;first|(rw[b];rfl)|(obtain⟨a,f,rfl,_⟩:=b;rfl))
def sP:dG:=λx y b K=>match y with
 | .int i=>(match x with
   | .lst a=>(match eF a i with|some d=>K d b|none=>False)
   | .tup a=>(match eF a i with|some d=>K d b|none=>False)
   | .ref n=>(match b[n]? with|some (.lst a)=>(match eF a i with|some d=>K d b|none=>False)|_=>False)
   |_=>False)
 |_=>False
def aM.eF(h:aM α H a vs)(e:L2.eF a i=some d):∃v,L2.eF vs i=some v/\Rep α H d v:=by
 unfold L2.eF at e⊢;rw[<-h.length];cases q:kE a.length i with
 |none=>rw[q]at e;cases e
 |some j=>rw[q]at e;show h.get e
def Wa:Nv X (LR sP):=λvalue slice b s σ H x y v u Q I o m ⟨α,d,e,J,K,G,L,P,g,l,S,q,k⟩ t=>by
 cases e<;>try show q.elim
 unfold Rep at l;cases d<;>try show q.elim
 . rename_i i n;unfold sP at q;simp only at q;split at q
   . split at q
     . rename_i A F _ B j;obtain⟨a,E,c,D,C⟩:=S.ia F;let r:=ee E g;subst r;obtain⟨z,h,f⟩:=C.eF j;show F0 value slice b s σ H _ _ v u Q I o m ⟨a,c,_,z,rfl,l,.of (P.get D),h,k.here P q S f⟩ t
     show q.elim
   show q.elim
 . unfold sP at q;simp only at q;split at q
   . rename_i A B j;unfold Rep at g;obtain⟨a,c,rfl,na,w,p⟩:=g;obtain⟨z,h,f⟩:=p.eF j;show F0 value slice b s σ H _ _ v u Q I o m ⟨a,c,_,z,rfl,l,.inl (iV P w),h,k.here P q S f⟩ t
   show q.elim
 unfold sP at q;simp only at q;split at q
 . rename_i A B j;unfold Rep at g;obtain⟨a,c,rfl,na,w,p⟩:=g;obtain⟨z,h,f⟩:=p.eF j;show RZ value slice b s σ H _ _ v u Q I o m ⟨a,c,_,z,rfl,l,.of (P.get w),h,k.here P q S f⟩ t
 show q.elim
def Wm(g:PE X a (LE d))(f:PE X b (LE c))(e:vZ b:=by intro _ _;rfl):PE X (.Subscript a b pos) (LE (ak sP d c)):=PE.imp (Ut Wa g f e) λ_ _ _ h=>LE.op h
def items?(st:ag):D->Option (List D)
 | .lst a=>some a
 | .tup a=>some a
 | .ref n=>(match st[n]? with|some (.lst a)=>some a|_=>none)
 |_=>none
@[simp] theorem Vu(st:ag)(xs:List D):items? st (.lst xs)=some xs:=rfl
@[simp] theorem Vt(st:ag)(xs:List D):items? st (.tup xs)=some xs:=rfl
@[simp] theorem items_int(st:ag)(i:Int):items? st (.int i)=none:=rfl
@[simp] theorem Wd(st:ag)(i:Bool):items? st (.bl i)=none:=rfl
@[simp] theorem items_str(st:ag)(i:Str):items? st (.str i)=none:=rfl
@[simp] theorem VQ(st:ag):items? st .av=none:=rfl
def aE{st:ag}{n:Nat}{xs:List D}(h:st[n]?=some (.lst xs)):items? st (.ref n)=some xs:=by unfold items?;simp![h]
def rp{α:List (Option Addr)}{H:Hp}{st:ag}{d:D}{v:V}{xs:List D}(S:a8 α st H)(r:Rep α H d v)(e:items? st d=some xs):
 ∃p vs,v= .ref p/\aM α H xs vs/\(Rd H p (.lst vs)\/H p=some (.tup vs)):=by
 cases d<;>try(cases e;done)
 . unfold items? at e;simp only at e;split at e
   . rename_i h q;cases e;obtain⟨a,g,vs,c,b⟩:=S.ia q;let f:=ee g r;subst f;show⟨a,vs,rfl,b,.inl (.of c)⟩
   cases e
 . cases e;unfold Rep at r;obtain⟨a,vs,rfl,_,c,b⟩:=r;show⟨a,vs,rfl,b,.inl c⟩
 cases e;unfold Rep at r;obtain⟨a,vs,rfl,_,c,b⟩:=r;show⟨a,vs,rfl,b,.inr c⟩
def HV{K:PySem.W.Frag}{G F H:Hp}(P:cU G F H){p:Addr}{vs:List V}(h:Rd G p (.lst vs)\/G p=some (.tup vs)):oQ K H p vs\/kY K H p vs:=h.elim (λz=> .inl (.inl (iV P z))) λz=> .inr (.of (P.get z))
def ke(r:aM α H b xs)(e:b=[d]):∃v,xs=[v]/\Rep α H d v:=by
 subst e;unfold aM at r;obtain⟨v,q,rfl,c,a⟩:=r;unfold aM at a;subst a;show⟨v,rfl,c⟩
def qQ{d e:D}(r:aM α H a xs)(q:a=[d,e]):∃v u,xs=[v,u]/\Rep α H d v/\Rep α H e u:=by
 subst q;unfold aM at r;obtain⟨v,q,rfl,f,c⟩:=r;obtain⟨u,rfl,b⟩:=ke c rfl;show⟨v,u,rfl,f,b⟩
def Cc:gu:=λc a K=>match c with
 | [.str x]=>x.length<=sizeLine/\K (.int x.length) a
 | [d]=>(match items? a d with|some b=>K (.int b.length) a|none=>False)
 |_=>False
def T4:cA X (.builtin "len") (iE Cc):=λa s σ H l c Q I f ⟨α,n,m,K,G,o,P,r,S,q,k⟩=>by
 unfold Cc at q;split at q
 . rename_i x;obtain⟨v,rfl,b⟩:=ke r rfl;unfold Rep at b;subst b;show DC a s σ H _ c Q I f ⟨x,rfl,q.1,k.here P q.2 S (by unfold Rep;rfl)⟩
 . rename_i d _;split at q
   . rename_i j e;obtain⟨v,rfl,b⟩:=ke r rfl;obtain⟨p,g,rfl,i,h⟩:=rp S b e;show Dx a s σ H _ c Q I f ⟨p,g,rfl,HV P h,k.here P q S (by unfold Rep;rw[i.length])⟩
   show q.elim
 show q.elim
def Vy(g:Int->Int):gu:=λb a K=>match b with| [.int i]=>K (.int (g i)) a|_=>False
abbrev GK:gu:=Vy λi=>if i<0 then-i else i
def Vs:cA X (.builtin "abs") (iE GK):=cA.imp Mh λb H Q ⟨α,d,c,K,G,e,P,r,S,q,k⟩=>by
 unfold GK Vy at q;split at q
 . obtain⟨v,rfl,a⟩:=ke r rfl;unfold Rep at a;subst a;show⟨_,rfl,k.here P q S (by unfold Rep;rfl)⟩
 show q.elim
def HL(g:Int->Int->Int):gu:=λb a K=>match b with| [.int i,.int j]=>K (.int (g i j)) a|_=>False
abbrev IL:gu:=HL λi j=>if j>i then j else i
abbrev Ig:gu:=HL λi j=>if j<i then j else i
def US(c:X.calm=true):cA X (.builtin "max") (iE IL):=cA.imp (Ks c) λd H Q ⟨α,f,e,K,G,g,P,r,S,q,k⟩=>by
 unfold IL HL at q;split at q
 . obtain⟨v,u,rfl,b,a⟩:=qQ r rfl;unfold Rep at b a;subst b a;show⟨_,_,rfl,k.here P q S (by unfold Rep;rfl)⟩
 show q.elim
def UL(c:X.calm=true):cA X (.builtin "min") (iE Ig):=cA.imp (Jb c) λd H Q ⟨α,f,e,K,G,g,P,r,S,q,k⟩=>by
 unfold Ig HL at q;split at q
 . obtain⟨v,u,rfl,b,a⟩:=qQ r rfl;unfold Rep at b a;subst b a;show⟨_,_,rfl,k.here P q S (by unfold Rep;rfl)⟩
 show q.elim
def HZ:gu:=λc a K=>match c with| [.int i]=>K (.int i) a| [.bl b]=>K (.int (if b then 1 else 0)) a|_=>False
def Uu:cA X (.type "int") (iE HZ):=cA.imp Kz λb H Q ⟨α,d,c,K,G,e,P,r,S,q,k⟩=>by
 unfold HZ at q;split at q
 . obtain⟨v,rfl,a⟩:=ke r rfl;unfold Rep at a;subst a;show .inl ⟨_,rfl,k.here P q S (by unfold Rep;rfl)⟩
 . obtain⟨v,rfl,a⟩:=ke r rfl;unfold Rep at a;subst a;show .inr ⟨_,rfl,k.here P q S (by unfold Rep;rfl)⟩
 show q.elim
def vV:gu:=λc a K=>match c with| [d]=>(match items? a d with|some b=>K (.tup b) a|none=>False)|_=>False
def Qr:cA X (.type "tuple") (iE vV):=cA.imp BV λx H Q ⟨α,A,y,K,G,B,P,r,S,q,k⟩=>by
 unfold vV at q;split at q
 . rename_i d;split at q
   . rename_i w e;obtain⟨v,rfl,c⟩:=ke r rfl;cases d with
     |tup u=>
      cases e;let m:=c;unfold Rep at c;obtain⟨a,g,rfl,na,b,s⟩:=c;show⟨a,g,rfl,.inr ⟨.of (P.get b),k.here P q S m⟩⟩
     |_=>
      obtain⟨p,g,rfl,j,h⟩:=rp S c e;show⟨p,g,rfl,?_⟩;rcases h with h|h
      . show .inl ⟨.inl (iV P h),λl n=>k.tup P q S j n⟩
      first
       |(cases e;done)
       |(exfalso
         unfold items? at e;simp only at e
         first
          |(split at e
            . rename_i z;obtain⟨a,t,f,b,s⟩:=S.ia z;let i:=ee t c;cases i;rw[h]at b;cases b
            cases e)
          |(unfold Rep at c
            obtain⟨a,f,i,_,b,_⟩:=c;cases i;rcases b with b|⟨o,b⟩<;>(rw[h]at b;cases b)))
   show q.elim
 show q.elim
def yy:gu:=λc a K=>match c with| [d]=>(match items? a d with|some b=>K (.lst b) a|none=>False)|_=>False
def Q7:cA X (.type "list") (iE yy):=cA.imp vB λg H Q ⟨α,j,i,K,G,m,P,r,S,q,k⟩=>by
 unfold yy at q;split at q
 . split at q
   . rename_i f e;obtain⟨v,rfl,c⟩:=ke r rfl;obtain⟨p,a,rfl,b,h⟩:=rp S c e;show⟨p,a,rfl,HV P h,λl d=>k.lst P q S b d⟩
   show q.elim
 show q.elim
def v9:gu:=λc a K=>match c with| [d]=>(match items? a d with|some b=>K (.ref a.length) (a++[.lst b])|none=>False)|_=>False
def Qj:cA X (.type "list") (iE v9):=cA.imp vB λg H Q ⟨α,j,i,K,G,m,P,r,S,q,k⟩=>by
 unfold v9 at q;split at q
 . split at q
   . rename_i f e;obtain⟨v,rfl,c⟩:=ke r rfl;obtain⟨p,a,rfl,b,h⟩:=rp S c e;show⟨p,a,rfl,HV P h,λl d=>k.new P q S b d⟩
   show q.elim
 show q.elim
def oR:List D->Option (List Bool)
 | []=>some []
 | .bl b::r=>(oR r).map (b:: ·)
 |_::_=>none
def rl:List D->Option (List Int)
 | []=>some []
 | .int b::r=>(rl r).map (b:: ·)
 |_::_=>none
def yM:∀ {a:List D} {vs:List V} {bs:List Bool},aM α H a vs->oR a=some bs->vs=bs.map V.bl
 | [],vs,bs,r,e=>by
   unfold aM at r;cases e;show r
 |d::a,vs,bs,r,e=>by
  unfold aM at r;obtain⟨v,q,rfl,b,c⟩:=r;cases d<;>try(cases e;done)
  unfold oR at e;cases z:oR a with
  |none=>rw[z]at e;cases e
  |some f=>
   rw[z]at e;cases e;unfold Rep at b;rw[b,yM c z];rfl
def AJ:∀ {a:List D} {vs:List V} {bs:List Int},aM α H a vs->rl a=some bs->vs=bs.map V.int
 | [],vs,bs,r,e=>by
   unfold aM at r;cases e;show r
 |d::a,vs,bs,r,e=>by
  unfold aM at r;obtain⟨v,q,rfl,b,c⟩:=r;cases d<;>try(cases e;done)
  unfold rl at e;cases z:rl a with
  |none=>rw[z]at e;cases e
  |some f=>
   rw[z]at e;cases e;unfold Rep at b;rw[b,AJ c z];rfl
def yl:∀ {bs:List Bool} {us:List Value},Vals (bs.map V.bl) us->us=bs.map Value.bool
 | [],_,.nil=>rfl
 |b::bs,_,.cons h t=>by
  let h:_=Value.bool b:=h;rw[h,yl t];rfl
def Cr:gu:=λc b K=>match c with| [.lst a]=>(match oR a with|some bs=>K (.bl (bs.all id)) b|none=>False)|_=>False
def range_all{α:Type}(l:List α)(f:α->Bool)(tr:Nat->Bool)(h:∀i x,l[i]?=some x->tr i=f x):(List.range l.length).all tr=l.all f:=by
 induction l generalizing tr with
 |nil=>rfl
 |cons a l b=>
  rw[XT,YX,aad,aad,List.all_map,h 0 a rfl];congr 1;show b (tr∘Nat.succ) λi x e=>h (i+1) x (by simpa using e)
def UB(E:X.calm=true):cA X (.builtin "all") (iE Cr):=λm s σ H R U Q I B ⟨α,Z,V,K,G,F',P,r,S,q,k⟩=>by
 unfold Cr at q;split at q
 . rename_i O;split at q
   . rename_i bs e;obtain⟨v,rfl,l⟩:=ke r rfl;unfold Rep at l;obtain⟨a,T,rfl,na,L,J⟩:=l;obtain⟨u,rfl,y⟩:=vals1 B;cases y;let D:=yM J e;subst D;obtain⟨z,aq,n,t,Y,j⟩:=Inv.zQ I (iV P L);let c:=yl t;subst c;let g:s.heap.IsList a (bs.map Value.bool).toArray:=⟨_,j,rfl,n,rfl⟩
     show call_all_walk (aaz g ?_);let h:a≠s.heap.objs.size:=X_ (XQ j);show⟨s.heap.objs.size,_,_,_,_,_,λi=>(bs[i]?).getD true,rfl,Walks.list (A:=X.A.in1) (I.ok.hd E) _ a h (bs.map Value.bool).toArray,⟨⟨_,X5 _ rfl,rfl,rfl⟩,⟨_,XF _ j,rfl,n,rfl⟩⟩,?_,?_⟩
     . intro i w W Q' E' d p;rw[List.getElem?_toArray,XJ]at d;cases f:bs[i]? with
       |none=>rw[f]at d;cases d
       |some b=>
        rw[f]at d;cases d;simp![f]at p;show YY p
     intro M tk hk
     let C:∀b o,s.heap.get? b=some o->M.get? b=some o:=λb o q=>hk b o (by
      intro F;let:b=s.heap.objs.size:=by simpa using F
      show absurd (XQ q) (by rw[this];show YM _)) (XF _ q)
     let N:(List.range (bs.map Value.bool).toArray.size).all (λi=>(bs[i]?).getD true)=bs.all id:=by
      rw[XG,Xr];show range_all bs id _ λi x e=>by rw[e];rfl
     rw[N];show⟨.bl (bs.all id),H,I.kept (t':=tk) C,rfl,k.here P q S (by unfold Rep;rfl)⟩
   show q.elim
 show q.elim
def k7(st:ag):D->Option String
 | .av=>some "NoneType"
 | .bl _=>some "bool"
 | .int _=>some "int"
 | .str _=>some "str"
 | .lst _=>some "list"
 | .tup _=>some "tuple"
 | .ref n=>(match st[n]? with|some (.lst _)=>some "list"|_=>none)
 | .ty _=>none
@[simp] theorem W8(st:ag)(xs:List D):k7 st (.lst xs)=some "list":=rfl
@[simp] theorem Xo(st:ag)(xs:List D):k7 st (.tup xs)=some "tuple":=rfl
@[simp] theorem ty_int(st:ag)(i:Int):k7 st (.int i)=some "int":=rfl
@[simp] theorem Xp(st:ag)(i:Bool):k7 st (.bl i)=some "bool":=rfl
@[simp] theorem ty_str(st:ag)(i:Str):k7 st (.str i)=some "str":=rfl
@[simp] theorem Xe(st:ag):k7 st .av=some "NoneType":=rfl
def xF(t c:String):Bool:=t==c||(t=="bool"&&c=="int")
def CJ{α:List (Option Addr)}{H:Hp}{st:ag}{K:PySem.W.Frag}{d:D}{v:V}{t:String}(S:a8 α st H)(r:Rep α H d v)(e:k7 st d=some t):lK K H v (.type t):=by
 cases d<;>unfold k7 at e<;>try(cases e;done)
 . unfold Rep at r;cases e;subst r;show .av
 . unfold Rep at r;cases e;subst r;show .bl _
 . unfold Rep at r;cases e;subst r;show .int _
 . unfold Rep at r;cases e;subst r;show .str _
 . simp only at e;split at e
   . rename_i z;cases e;obtain⟨a,i,f,b,c⟩:=S.ia z;let h:=ee i r;subst h;show .lst b
   cases e
 . cases e;unfold Rep at r;obtain⟨a,g,rfl,na,b,c⟩:=r;rcases b with b|⟨o,b⟩
   . show .lst b
   show .iP b
 cases e;unfold Rep at r;obtain⟨a,g,rfl,na,b,c⟩:=r;show .tup b
def Gd{G F H:Hp}{K:PySem.W.Frag}(P:cU G F H){x:V}{t:Value}(h:lK K G x t):lK K H x t:=by
 cases h with
 |av=>show .av
 |bl x=>show .bl x
 |int x=>show .int x
 |str x=>show .str x
 |wX x=>show .wX x
 |lst e=>show .lst (P.get e)
 |iP e=>show .iP (P.get e)
 |tup e=>show .tup (P.get e)
 |dK e=>show .dK (P.get e)
 |dT e=>show .dT (P.get e)
 |ins e a b c d f=>show .ins (P.get e) a b c d f
def vK:List String:=["NoneType","bool","int","str","list","tuple"]
def pV:List String:=["bool","int","str","list","tuple"]
def FR(K:PySem.W.Frag)(a:t∈vK)(b:c∈pV):PySem.W.kitOne K (.type t) (.type c)=some (xF t c):=by
 simp![vK,pV,XU,Y9,abt]at a b;rcases a with rfl|rfl|rfl|rfl|rfl|rfl<;>rcases b with rfl|rfl|rfl|rfl|rfl<;>with_unfolding_all rfl
def DV{st:ag}{d:D}{t:String}(e:k7 st d=some t):t∈vK:=by
 cases d<;>unfold k7 at e<;>first
  |(cases e;done)
  |(cases e;decide)
  |(simp only at e;split at e<;>cases e;decide)
def kitx_of{pins:List (Addr×Obj)}{σ:L2.St}{H:Hp}{s:Shared}{x:V}{u:Value}{t:String}(I:Inv X pins σ H s)(b:RelV x u)(j:lK X.K H x (.type t)):
 ∃h:Heap->Prop,PySem.W.KitX X.K u (.type t) h/\h s.heap/\u≠ .builtin "__main__.__loader__#opaque":=by
 cases j with
 |av=>cases (show u=Value.none from b);show⟨_,PySem.W.kitx_none,True.intro,λz=>nomatch z⟩
 |bl y=>cases (show u=Value.bool y from b);show⟨_,PySem.W.kitx_bool,True.intro,λz=>nomatch z⟩
 |int i=>obtain⟨t,q⟩:=(show∃t,u=Value.int i t from b);cases q;show⟨_,PySem.W.kitx_int,True.intro,λz=>nomatch z⟩
 |str y=>obtain⟨t,q⟩:=(show∃t,u=Value.str y t from b);cases q;show⟨_,PySem.W.kitx_str,True.intro,λz=>nomatch z⟩
 |wX y=>obtain⟨t,q⟩:=(show∃t,u=Value.float y t from b);cases q;show⟨_,PySem.W.kitx_float,True.intro,λz=>nomatch z⟩
 | @lst a f d=>
   cases (show u=Value.ref a from b);obtain⟨_,_,n,_,c⟩:=(show eH X.prog X.w H s.heap a (.lst f)from I.aO a _ d)
   show⟨_,aax,⟨_,c,rfl⟩,λz=>nomatch z⟩
 | @iP a k f d=>
   cases (show u=Value.ref a from b);obtain⟨_,_,_,n,_,c⟩:=(show eH X.prog X.w H s.heap a (.iP k (.lst f))from I.aO a _ d)
   show⟨_,aax,⟨_,c,rfl⟩,λz=>nomatch z⟩
 | @tup a f d=>
   cases (show u=Value.ref a from b);obtain⟨_,_,_,p⟩:=(show eH X.prog X.w H s.heap a (.tup f)from I.aO a _ d)
   obtain⟨o,c,g,_⟩:=p;show⟨_,PySem.W.kitx_tuple,⟨o,c,g⟩,λz=>nomatch z⟩
 | @dK a e d=>
   cases (show u=Value.ref a from b);obtain⟨_,_,r,_,p⟩:=(show eH X.prog X.w H s.heap a (.dK e)from I.aO a _ d)
   obtain⟨o,l,m,c,g,_⟩:=p;show⟨_,aay,⟨o,c,g.1⟩,λz=>nomatch z⟩
 | @dT a e d=>
   cases (show u=Value.ref a from b);obtain⟨_,_,f,_,o,l,m,c,g,_⟩:=(show eH X.prog X.w H s.heap a (.dT e)from I.aO a _ d)
   show⟨_,aay,⟨o,c,g.1⟩,λz=>nomatch z⟩
def sF:List D->Option (List String)
 | []=>some []
 | .ty b::r=>(sF r).map (b:: ·)
 |_::_=>none
def EK:∀ {a:List D} {vs:List V} {bs:List String},aM α H a vs->sF a=some bs->vs=bs.map V.ty
 | [],vs,bs,r,e=>by
   unfold aM at r;cases e;show r
 |d::a,vs,bs,r,e=>by
  unfold aM at r;obtain⟨v,q,rfl,b,c⟩:=r;cases d<;>try(cases e;done)
  unfold sF at e;cases z:sF a with
  |none=>rw[z]at e;cases e
  |some f=>
   rw[z]at e;cases e;unfold Rep at b;rw[b,EK c z];rfl
def Ei:∀ {bs:List String} {us:List Value},Vals (bs.map V.ty) us->us=bs.map Value.type
 | [],_,.nil=>rfl
 |b::bs,_,.cons h t=>by
  let h:_=Value.type b:=h;rw[h,Ei t];rfl
def F2(K:PySem.W.Frag)(b:t∈vK):∀a:List String,(∀c∈a,c∈pV)->PySem.W.kitAny K (.type t) (a.map Value.type)=some (a.any (xF t))
 | [],_=>rfl
 |c::a,h=>by
  change(match PySem.W.kitOne K (.type t) (.type c)with|some true=>some true|some false=>PySem.W.kitAny K (.type t) (a.map Value.type)|none=>none)=_;rw[FR K b (h c XX),List.any_cons];cases xF t c with
  |true=>rfl
  |false=>show F2 K b a λc d=>h c (XN _ d)
def Cy:gu:=λb a K=>match b with
 | [d,.ty c]=>(match k7 a d with|some t=>c∈pV/\K (.bl (xF t c)) a|none=>False)
 | [d,.tup e]=>(match k7 a d,sF e with|some t,some cl=>(∀c∈cl,c∈pV)/\K (.bl (cl.any (xF t))) a|_,_=>False)
 |_=>False
def Ui:cA X (.builtin "isinstance") (iE Cy):=λm s σ H L N Q I l ⟨α,U,O,K,G,F',P,r,S,q,k⟩=>by
 unfold Cy at q;split at q
 . rename_i d c;split at q
   . rename_i t e;obtain⟨v,x,rfl,i,f⟩:=qQ r rfl;obtain⟨u,g,rfl,h,b⟩:=vals2 l;unfold Rep at f;subst f;cases (show g=Value.type c from b);show J3 I h (Gd P (CJ S i e)) (FR _ (DV e) q.1) λtk=>⟨.bl (xF t c),H,I.tok tk,rfl,k.here P q.2 S (by unfold Rep;rfl)⟩
   show q.elim
 . rename_i d W;split at q
   . rename_i t cl e F;obtain⟨v,x,rfl,i,f⟩:=qQ r rfl;obtain⟨u,g,rfl,h,b⟩:=vals2 l;unfold Rep at f;obtain⟨a,M,rfl,na,E,D⟩:=f;cases (show g=Value.ref a from b);let z:=EK D F;subst z;obtain⟨Hh,Z,C,j⟩:=kitx_of I h (Gd P (CJ S i e));obtain⟨Y,y,pl,T⟩:=I.tuple (kY.of (P.get E));let B:=Ei y;subst B;obtain⟨⟨J,V,w,R⟩,A,p,n,o⟩:=pl;simp only at p o;subst p o;show PySem.W.kia_tup Z I.iQ C A (F2 _ (DV e) cl q.1) j λtk=>⟨.bl _,H,I.tok tk,rfl,k.here P q.2 S (by unfold Rep;rfl)⟩
   show q.elim
 show q.elim
end
end L3
namespace L3
open PySem PySem.Spec L2 PySem.SeqAt
open PyProof.Rows hiding St
mutual
def cO:D->D->Bool
 | .av,.av=>true
 | .bl a,.bl b=>a==b
 | .bl a,.int b=>(if a then 1 else 0)==b
 | .int a,.bl b=>a==(if b then 1 else 0)
 | .int a,.int b=>a==b
 | .str a,.str b=>a==b
 | .lst d,.lst c=>jZ d c
 | .tup d,.tup c=>jZ d c
 |_,_=>false
def jZ:List D->List D->Bool
 | [],[]=>true
 |x::xs,y::ys=>cO x y&&jZ xs ys
 |_,_=>false
end
def pl:Nat->D->Bool
 |_,.av=>true
 |_,.bl _=>true
 |_,.int _=>true
 |_,.str _=>true
 |n+1,.lst a=>a.all (pl n)
 |n+1,.tup a=>a.all (pl n)
 |_,_=>false
mutual
def Ea:∀(n:Nat) (d:D),pl n d=true->cO d d=true
 |_,.av,_=>rfl
 |_,.bl _,_=>by simp[cO]
 |_,.int _,_=>by simp[cO]
 |_,.str _,_=>by simp[cO]
 |n+1,.lst a,h=>by unfold cO;show vg n a (by unfold pl at h;show h)
 |n+1,.tup a,h=>by unfold cO;show vg n a (by unfold pl at h;show h)
 |0,.lst a,h=>by cases h
 |0,.tup a,h=>by cases h
 |_,.ref _,h=>by unfold pl at h;cases h
 |_,.ty _,h=>by unfold pl at h;cases h
def vg:∀(n:Nat) (xs:List D),xs.all (pl n)=true->jZ xs xs=true
 |_,[],_=>by unfold jZ;rfl
 |n,x::xs,h=>by
  rw[aad,Ym]at h;unfold jZ;rw[Ea n x h.1,vg n xs h.2];rfl
end
mutual
def Rep.inj:∀ {d e:D} {v:V} (n:Nat),pl n d=true->pl n e=true->Rep α H d v->Rep α H e v->d=e
 | .av,e,v,n,_,g,h,c=>by
   unfold Rep at h;subst h;cases e<;>first|(unfold pl at g;cases g;done)|(unfold Rep at c;cases c;rfl)|(unfold Rep at c;cases c;done)|(unfold Rep at c;obtain⟨_,_,c,_⟩:=c;cases c)|rfl|(cases c;done)|(obtain⟨_,_,c,_⟩:=c;cases c)|(obtain⟨_,_,c⟩:=c;cases c)
 | .bl b,e,v,n,_,g,h,c=>by
   unfold Rep at h;subst h;cases e<;>first|(unfold pl at g;cases g;done)|(unfold Rep at c;cases c;rfl)|(unfold Rep at c;cases c;done)|(unfold Rep at c;obtain⟨_,_,c,_⟩:=c;cases c)|(cases c;rfl)|(cases c;done)|(obtain⟨_,_,c,_⟩:=c;cases c)|(obtain⟨_,_,c⟩:=c;cases c)
 | .int b,e,v,n,_,g,h,c=>by
   unfold Rep at h;subst h;cases e<;>first|(unfold pl at g;cases g;done)|(unfold Rep at c;cases c;rfl)|(unfold Rep at c;cases c;done)|(unfold Rep at c;obtain⟨_,_,c,_⟩:=c;cases c)|(cases c;rfl)|(cases c;done)|(obtain⟨_,_,c,_⟩:=c;cases c)|(obtain⟨_,_,c⟩:=c;cases c)
 | .str b,e,v,n,_,g,h,c=>by
   unfold Rep at h;subst h;cases e<;>first|(unfold pl at g;cases g;done)|(unfold Rep at c;cases c;rfl)|(unfold Rep at c;cases c;done)|(unfold Rep at c;obtain⟨_,_,c,_⟩:=c;cases c)|(cases c;rfl)|(cases c;done)|(obtain⟨_,_,c,_⟩:=c;cases c)|(obtain⟨_,_,c⟩:=c;cases c)
 | .ty b,e,v,n,i,g,h,c=>by unfold pl at i;cases i
 | .ref b,e,v,n,i,g,h,c=>by unfold pl at i;cases i
 | .lst q,e,v,0,i,g,h,c=>by cases i
 | .tup q,e,v,0,i,g,h,c=>by cases i
 | .lst q,e,v,n+1,i,g,h,c=>by
   unfold Rep at h;obtain⟨a,t,rfl,na,k,r⟩:=h;cases e<;>unfold Rep at c<;>try(cases c;done)
   . unfold pl at g;cases g
   . obtain⟨s,l,p,m,f,j⟩:=c;cases p
     let:t=l:=by
      rcases k with k|⟨o,k⟩<;>rcases f with f|⟨u,f⟩<;>(rw[k]at f;first|(cases f;rfl)|(cases f;done))
     subst this;rw[aM.inj n (by unfold pl at i;show i) (by unfold pl at g;show g) r j]
   obtain⟨s,l,p,m,f,j⟩:=c;cases p;rcases k with k|⟨o,k⟩<;>(rw[k]at f;cases f)
 | .tup q,e,v,n+1,i,g,h,c=>by
   unfold Rep at h;obtain⟨a,t,rfl,na,k,r⟩:=h;cases e<;>unfold Rep at c<;>try(cases c;done)
   . unfold pl at g;cases g
   . obtain⟨s,l,p,m,f,j⟩:=c;cases p;rcases f with f|⟨o,f⟩<;>(rw[k]at f;cases f)
   obtain⟨s,l,p,m,f,j⟩:=c;cases p;rw[k]at f;cases f;rw[aM.inj n (by unfold pl at i;show i) (by unfold pl at g;show g) r j]
def aM.inj:∀ {f a:List D} {vs:List V} (n:Nat),f.all (pl n)=true->a.all (pl n)=true->aM α H f vs->aM α H a vs->f=a
 | [],a,vs,n,_,_,c,b=>by
   unfold aM at c;subst c;cases a with
   |nil=>rfl
   |cons e a=>unfold aM at b;obtain⟨_,_,h,_⟩:=b;cases h
 |d::f,a,vs,n,i,g,c,b=>by
  unfold aM at c;obtain⟨v,r,rfl,k,j⟩:=c;cases a with
  |nil=>unfold aM at b;cases b
  |cons e a=>
   unfold aM at b;obtain⟨o,p,h,m,l⟩:=b;cases h;rw[aad,Ym]at i g;rw[Rep.inj n i.1 g.1 k m,aM.inj n i.2 g.2 j l]
end
def pZ:∀ {xs ys:List D},xs.length≠ys.length->jZ xs ys=false
 | [],[],h=>absurd rfl h
 | [],_::_,_=>by unfold jZ;rfl
 |_::_,[],_=>by unfold jZ;rfl
 |x::xs,y::ys,h=>by
  unfold jZ;rw[pZ (by simpa using h),abN]
def pY:∀ {xs ys:List D},xs.length=ys.length->jZ xs ys=(List.range xs.length).all λj=>cO (xs.getD j .av) (ys.getD j .av)
 | [],[],_=>by unfold jZ;rfl
 | [],_::_,h=>by cases h
 |_::_,[],h=>by cases h
 |x::xs,y::ys,h=>by
  unfold jZ;rw[XT,YX,aad,List.all_map,pY (by simpa using h)];rfl
section
variable {X:Cx}{pins:List (Addr×Obj)}{σ:L2.St}{H:Hp}{s:Shared}{α:List (Option Addr)}
def jY{xs:List D}{aq:List Value}(r:aM α H xs vs)(v:Vals vs aq)(j:Nat)(f:j<aq.length):∃x,xs[j]?=some (xs.getD j .av)/\Rep α H (xs.getD j .av) x/\RelV x aq[j]:=by
 let h:=r.length;let g:=v.length;let b:j<xs.length:=()
 let e:xs[j]?=some (xs.getD j .av):=by rw[XC b,XD,XC b];rfl
 obtain⟨x,q,d⟩:=r.get e;obtain⟨u,a,c⟩:=v.get q;rw[XC f]at a;cases a;show⟨x,e,d,c⟩
def kM{xs:List D}(h:xs.all (pl n)=true)(j:Nat):pl n (xs.getD j .av)=true:=by
 rw[XD];cases e:xs[j]? with
 |none=>cases n<;>rfl
 |some d=>show Yu.mp h d (XS e)
def Br:D->Bool
 | .av=>true
 | .bl _=>true
 | .int _=>true
 | .str _=>true
 |_=>false
def FA{d e:D}(h:Br d=true)(g:Br e=true)(f:Rep α H d x)(c:Rep α H e y)(b:RelV x u)(a:RelV y v):RcAt A s u v (cO d e)/\EqAt A s u v (cO d e):=by
 cases d<;>cases e<;>try(first|(cases h;done)|(cases g;done))
 all_goals(unfold Rep at f c;subst f c)
 all_goals(first|(obtain⟨t,rfl⟩:=b;obtain⟨i,rfl⟩:=a)|(obtain⟨t,rfl⟩:=b;cases a)|(cases b;obtain⟨t,rfl⟩:=a)|(cases b;cases a))
 all_goals unfold cO
 . show⟨RcAt.none_none,EqAt.same _⟩
 . show⟨RcAt.none_bool _,EqAt.none_bool _⟩
 . show⟨RcAt.none_int _ _,EqAt.none_int _ _⟩
 . show⟨RcAt.none_str _ _,EqAt.none_str _ _⟩
 . show⟨RcAt.bool_none _,EqAt.bool_none _⟩
 . show⟨RcAt.bool_bool _ _,EqAt.bool_bool _ _⟩
 . show⟨RcAt.bool_int _ _ _,EqAt.bool_int _ _ _⟩
 . show⟨RcAt.bool_str _ _ _,EqAt.bool_str _ _ _⟩
 . show⟨RcAt.int_none _ _,EqAt.int_none _ _⟩
 . show⟨RcAt.int_bool _ _ _,EqAt.int_bool _ _ _⟩
 . show⟨RcAt.int_int _ _ _ _,EqAt.int_int _ _ _ _⟩
 . show⟨RcAt.int_str _ _ _ _,EqAt.int_str _ _ _ _⟩
 . show⟨RcAt.str_none _ _,EqAt.str_none _ _⟩
 . show⟨RcAt.str_bool _ _ _,EqAt.str_bool _ _ _⟩
 . show⟨RcAt.str_int _ _ _ _,EqAt.str_int _ _ _ _⟩
 show⟨RcAt.str_str _ _ _ _,EqAt.str_str _ _ _ _⟩
def lst_is(I:Inv X pins σ H s)(r:Rep α H (.lst xs) x)(b:RelV x u):∃a vs aq,u= .ref a/\aM α H xs vs/\Vals vs aq/\s.heap.IsList a aq.toArray:=by
 unfold Rep at r;obtain⟨a,vs,rfl,na,e,d⟩:=r;cases b;obtain⟨z,aq,n,c,g,f⟩:=Inv.zQ I e;show⟨a,vs,aq,rfl,d,c,⟨_,f,rfl,n,rfl⟩⟩
def tup_is(I:Inv X pins σ H s)(r:Rep α H (.tup xs) x)(b:RelV x u):∃a vs aq,u= .ref a/\aM α H xs vs/\Vals vs aq/\s.heap.IsTuple a aq.toArray:=by
 unfold Rep at r;obtain⟨a,vs,rfl,na,e,c⟩:=r;cases b;obtain⟨aq,d,p,f⟩:=I.tuple (kY.of e);show⟨a,vs,aq,rfl,c,d,p⟩
def BB(I:Inv X pins σ H s){A:Around}{e:D}(i:Br e=true)(h:Rep α H (.lst xs) x)(f:Rep α H e y)(g:RelV x u)(d:RelV y v)(b:A.units<cLine):
 (RcAt A s u v (cO (.lst xs) e)/\EqAt A s u v (cO (.lst xs) e))/\RcAt A s v u (cO e (.lst xs))/\EqAt A s v u (cO e (.lst xs)):=by
 obtain⟨a,j,k,rfl,_,_,c⟩:=lst_is I h g;cases e<;>try(cases i;done)
 all_goals(unfold Rep at f;subst f)
 all_goals(first|(obtain⟨t,rfl⟩:=d)|(cases d))
 all_goals unfold cO
 . show⟨⟨RcAt.list_none c b,EqAt.list_none c b⟩,RcAt.none_list c b,EqAt.none_list c b⟩
 . show⟨⟨RcAt.list_bool _ c b,EqAt.list_bool _ c b⟩,RcAt.bool_list _ c b,EqAt.bool_list _ c b⟩
 . show⟨⟨RcAt.list_int _ _ c b,EqAt.list_int _ _ c b⟩,RcAt.int_list _ _ c b,EqAt.int_list _ _ c b⟩
 show⟨⟨RcAt.list_str _ _ c b,EqAt.list_str _ _ c b⟩,RcAt.str_list _ _ c b,EqAt.str_list _ _ c b⟩
def AQ(I:Inv X pins σ H s){A:Around}{e:D}(i:Br e=true)(h:Rep α H (.tup xs) x)(f:Rep α H e y)(g:RelV x u)(d:RelV y v)(b:A.units<cLine):
 (RcAt A s u v (cO (.tup xs) e)/\EqAt A s u v (cO (.tup xs) e))/\RcAt A s v u (cO e (.tup xs))/\EqAt A s v u (cO e (.tup xs)):=by
 obtain⟨a,j,k,rfl,_,_,c⟩:=tup_is I h g;cases e<;>try(cases i;done)
 all_goals(unfold Rep at f;subst f)
 all_goals(first|(obtain⟨t,rfl⟩:=d)|(cases d))
 all_goals unfold cO
 . show⟨⟨RcAt.tuple_none c b,EqAt.tuple_none c b⟩,RcAt.none_tuple c b,EqAt.none_tuple c b⟩
 . show⟨⟨RcAt.tuple_bool _ c b,EqAt.tuple_bool _ c b⟩,RcAt.bool_tuple _ c b,EqAt.bool_tuple _ c b⟩
 . show⟨⟨RcAt.tuple_int _ _ c b,EqAt.tuple_int _ _ c b⟩,RcAt.int_tuple _ _ c b,EqAt.int_tuple _ _ c b⟩
 show⟨⟨RcAt.tuple_str _ _ c b,EqAt.tuple_str _ _ c b⟩,RcAt.str_tuple _ _ c b,EqAt.str_tuple _ _ c b⟩
def Gg{d e:D}(f:pl n d=true)(m:pl n e=true)(k:Rep α H d x)(j:Rep α H e y)(i:RelV x (.ref a))(g:RelV y (.ref b))(h:RcAt A s (.ref a) (.ref b) (cO d e)):
 RcAt A s (.ref a) (.ref b) (cO d e)/\EqAt A s (.ref a) (.ref b) (cO d e):=by
 show⟨h,?_⟩;by_cases c:a=b
 . subst c;let l:x=y:=RelV.inj i g;subst l;let:=Rep.inj n f m k j;subst this;rw[Ea n d f];show EqAt.same _
 show EqAt.of_refs c h
def CB(I:Inv X pins σ H s):∀(n:Nat) (A:Around) (d e:D) (x y:V) (u v:Value),pl n d=true->pl n e=true->Rep α H d x->Rep α H e y->RelV x u->RelV y v->A.units+n<cLine->
 RcAt A s u v (cO d e)/\EqAt A s u v (cO d e):=by
 intro n;induction n with
 |zero=>
  intro A d e x y u v w m l k i h hu;show FA ?_ ?_ l k i h
  . cases d<;>first|rfl|(cases w)
  cases e<;>first|rfl|(cases m)
 |succ n ih=>
  intro A d e x y u v w m l k i h hu;let c:A.units<cLine:=()
  let P:A.in1.units+n<cLine:=by rw[abu];lia
  cases d<;>try(cases w;done)
  case lst xs=>
   cases e<;>try(cases m;done)
   case lst ys=>
    have G:=l;let F:=k;let E:=i;let C:=h;obtain⟨a,R,r,rfl,K,B,q⟩:=lst_is I l i;obtain⟨b,Q,f,rfl,J,z,o⟩:=lst_is I k h;let e1:=K.length;let e2:=B.length;let e3:=J.length;let e4:=z.length;show Gg w m G F E C ?_;unfold cO;by_cases g:xs.length=ys.length
    . rw[pY g];let t:r.toArray.size=f.toArray.size:=by simp![XG];lia
      let W:xs.length=r.toArray.size:=by simp![XG];lia
      rw[W];show RcAt.lists q o t c λj h1 Z=>?_;let O:j<r.length:=by simpa using h1
      let N:j<f.length:=by simpa using Z
      obtain⟨p,_,T,S⟩:=jY K B j O;obtain⟨U,_,M,L⟩:=jY J z j N;show(ih A.in1 _ _ p U _ _ (kM (by unfold pl at w;show w) j) (kM (by unfold pl at m;show m) j) T M (by simpa using S) (by simpa using L) P).2
    rw[pZ g];show RcAt.lists_lengths q o (by simp![XG,aaP,ne_eq];lia) c
   case tup ys=>
    obtain⟨a,R,r,rfl,K,B,q⟩:=lst_is I l i;obtain⟨b,Q,f,rfl,J,z,o⟩:=tup_is I k h;unfold cO;show⟨RcAt.list_tuple q o c,EqAt.list_tuple q o c⟩
   all_goals show(BB I rfl l k i h c).1
  case tup xs=>
   cases e<;>try(cases m;done)
   case tup ys=>
    have G:=l;let F:=k;let E:=i;let C:=h;obtain⟨a,R,r,rfl,K,B,q⟩:=tup_is I l i;obtain⟨b,Q,f,rfl,J,z,o⟩:=tup_is I k h;let e1:=K.length;let e2:=B.length;let e3:=J.length;let e4:=z.length;show Gg w m G F E C ?_;unfold cO
    let key:=RcAt.tuples (e:=λj=>cO (xs.getD j .av) (ys.getD j .av)) q o c λj h1 Z=>by
     let O:j<r.length:=by simpa using h1
     let N:j<f.length:=by simpa using Z
     obtain⟨p,_,T,S⟩:=jY K B j O;obtain⟨U,_,M,L⟩:=jY J z j N;show(ih A.in1 _ _ p U _ _ (kM (by unfold pl at w;show w) j) (kM (by unfold pl at m;show m) j) T M (by simpa using S) (by simpa using L) P).2
    by_cases g:xs.length=ys.length
    . rw[pY g];let t:r.toArray.size=f.toArray.size:=by simp![XG];lia
      let W:xs.length=r.toArray.size:=by simp![XG];lia
      rw[t,abZ,aaG,Bool.and_true,<-t,<-W]at key;show key
    rw[pZ g];let Y:(r.toArray.size==f.toArray.size)=false:=by simp![XG,Zj,ne_eq];lia
    rw[Y,abN]at key;show key
   case lst ys=>
    obtain⟨a,R,r,rfl,K,B,q⟩:=tup_is I l i;obtain⟨b,Q,f,rfl,J,z,o⟩:=lst_is I k h;unfold cO;show⟨RcAt.tuple_list q o c,EqAt.tuple_list q o c⟩
   all_goals show(AQ I rfl l k i h c).1
  all_goals
   cases e<;>try(cases m;done)
   case lst ys=>show(BB I rfl k l h i c).2
   case tup ys=>show(AQ I rfl k l h i c).2
   all_goals show FA rfl rfl l k i h
def Rt:dG:=λx y a K=>pl 40 x=true/\pl 40 y=true/\K (.bl (cO x y)) a
def We{k:Nat}(g:dv k X.A):cu X (compareOp .Eq) (LR Rt):=λpins s σ H x y v u Q I b a ⟨α,d,e,h,K,G,j,P,f,c,S,q,k⟩=>by
 let i:=g.units;show(CB I 40 X.A d e x y v u q.1 q.2.1 (f.mono P.same) (c.mono P.same) b a ()).1 _ _ _ _ ⟨.bl (cO d e),H,I,rfl,k.here P q.2.2 S (by unfold Rep;rfl)⟩
def QP:dG:=λx y a K=>match x,y with
 | .int i,.int j=>K (.bl (!decide (i=j))) a
 | .bl i,.bl j=>K (.bl (!decide (i=j))) a
 | .str i,.str j=>K (.bl (!decide (i=j))) a
 |_,_=>False
def V7:cu X (compareOp .NotEq) (LR QP):=cu.imp Vp λx y H Q ⟨α,d,e,c,K,G,f,P,b,a,S,q,k⟩=>by
 cases d<;>cases e<;>try show q.elim
 all_goals(unfold Rep at b a;subst b a)
 . show⟨rfl,k.here P q S (by unfold Rep;congr 2;show ZJ.mpr ⟨λh=>by cases h;rfl,λh=>by rw[h]⟩)⟩
 . show⟨rfl,k.here P q S (by unfold Rep;congr 2;show ZJ.mpr ⟨λh=>by cases h;rfl,λh=>by rw[h]⟩)⟩
 show⟨rfl,k.here P q S (by unfold Rep;congr 2;show ZJ.mpr ⟨λh=>by cases h;rfl,λh=>by rw[h]⟩)⟩
end
end L3
namespace L3
open PySem PySem.Spec L2
open PyProof.Rows hiding St
def LC(α:List (Option Addr))(G F:Hp)(K:cC->ag->Prop)(Q:L2.St->Hp->Prop):Prop:=∀a b,K a b->∀d c f e,Step α G d c->cU c F f->fA d c a e->a8 d b c->Q e f
structure Co(α:List (Option Addr))(G F:Hp)(DD:nr)(D:Ends):Prop where
 nx:LC α G F DD.nx D.nx
 rt:LK α G F DD.rt D.rt
 bk:LC α G F DD.bk D.bk
 ct:LC α G F DD.ct D.ct
inductive VI(t:DS)(D:Ends)(σ:L2.St)(H:Hp):Prop
 |mk (α:List (Option Addr)) (σd:cC) (st:ag) (DD:nr) (G F:Hp) (P:cU G F H) (R:fA α G σd σ) (S:a8 α st G) (h:t DD σd st) (k:Co α G F DD D):VI t D σ H
def LS(t:DS):TS:=VI t
def LC.at{α b:List (Option Addr)}{G F c:Hp}{K:cC->ag->Prop}{Q:L2.St->Hp->Prop}(h:LC α G F K Q)(s:Step α G b c):LC b c F K Q:=λd a k e i g v f P R S=>h d a k e i g v (s.trans f) P R S
def LC.here{α:List (Option Addr)}{G F H:Hp}{K:cC->ag->Prop}{Q:L2.St->Hp->Prop}(h:LC α G F K Q)(P:cU G F H){a:cC}{st:ag}{σ:L2.St}(k:K a st)(R:fA α G a σ)(S:a8 α st G):Q σ H:=h a st k α G H σ Step.refl P R S
def Co.at{D:Ends}(h:Co α G F c D)(s:Step α G a b):Co a b F c D:=⟨h.nx.at s,h.rt.at s,h.bk.at s,h.ct.at s⟩
section
variable {X:Cx}{a b c e o i:Expr}{es:List Expr}{ta tb tc te:DE}{pos:Pos}{st:Stmt}{sts:List Stmt}{t u:DS}
def PS.imp{t t':TS}(h:PS X st t)(f:∀D σ H,t' D σ H->t D σ H):PS X st t':=λd s σ H D I q=>h d s σ H D I (f D σ H q)
def jo.imp{t t':TS}(h:jo X sts t)(f:∀D σ H,t' D σ H->t D σ H):jo X sts t':=λd s σ H D I q=>h d s σ H D I (f D σ H q)
def cF:DS:=λD σ st=>D.nx σ st
def aw(t u:DS):DS:=λD σ st=>t {D with nx:=u D} σ st
def OV:jo X [] (LS cF):=jo.imp OP λD σ H ⟨α,d,st,f,G,F,P,R,S,t,k⟩=>k.nx.here P t R S
def Pe(h:PS X st (LS t)):jo X [st] (LS t):=OO h
def M7(h:PS X st (LS t))(m:jo X sts (LS u)):jo X (st::sts) (LS (aw t u)):=jo.imp (LU h m) λD σ H ⟨α,g,st,v,G,F,P,R,S,t,k⟩=>
 ⟨α,g,st,_,G,F,P,R,S,t,λd f q j s x w l r p n=>⟨j,d,f,v,s,F,r,p,n,q,k.at l⟩,k.rt,k.bk,k.ct⟩
def aX(te:DE):DS:=λD σ st=>te σ st D.rt
def SG(h:PE X e (LE te)):PS X (.Return (some e) pos) (LS (aX te)):=PS.imp (Q8 h) λD σ H ⟨α,d,st,f,G,F,P,R,S,t,k⟩=>⟨α,d,st,_,G,F,P,R,S,t,k.rt⟩
def fz(te:DE):DS:=λD σ st=>te σ st λ_ d=>D.nx σ d
def OI(h:PE X e (LE te))(l:swapsWith e none pos.line X.env=pure false:=by rfl):PS X (.Expr e pos) (LS (fz te)):=PS.imp (PH h l) λD σ H ⟨α,g,st,w,G,F,P,R,S,t,k⟩=>
 ⟨α,g,st,_,G,F,P,R,S,t,λd j q p s H1 v f n m r=>(k.nx.at f).here n q (R.step f) m⟩
def cK(c:DT)(t u:DS):DS:=λD σ st=>c σ st λb d=>if b=true then t D σ d else u D σ d
def UM{tc:DT}(p:PT X c (LT tc))(s:jo X x (LS t))(r:jo X y (LS u)):PS X (.If c x y pos) (LS (cK tc t u)):=PS.imp (Vo p s r) λD σ H ⟨α,g,st,n,G,F,P,R,S,t,k⟩=>by
 show⟨α,g,st,_,G,F,P,R,S,t,λb d q h m H1 f l j=>?_⟩;cases b with
 |true=>show⟨h,g,d,n,m,F,l,R.step f,j,q,k.at f⟩
 |false=>show⟨h,g,d,n,m,F,l,R.step f,j,q,k.at f⟩
abbrev fM:=D->cC->Option cC
def cM(i:Nat):fM:=λd σ=>some (σ.set i (some d))
def gN(i j:Nat):fM:=λd σ=>match d with| .tup [x,y]=>some ((σ.set i (some x)).set j (some y))|_=>none
inductive VX(t:fM)(v:V)(σ:L2.St)(H:Hp)(Q:L2.St->Hp->Prop):Prop
 |mk (α:List (Option Addr)) (σd:cC) (st:ag) (d:D) (K:cC->ag->Prop) (G F:Hp) (P:cU G F H) (R:fA α G σd σ) (S:a8 α st G) (r:Rep α G d v) (h:∃σ',t d σd=some σ'/\K σ' st) (k:LC α G F K Q):VX t v σ H Q
def LG(t:fM):TG:=VX t
def PG.imp{g:Expr}{t t':TG}(h:PG X g t)(f:∀v σ H Q,t' v σ H Q->t v σ H Q):PG X g t':=λd s σ H v u Q I r q=>h d s σ H v u Q I r (f v σ H Q q)
def PN{i:Nat}(h:PG X f (h_ i)):PG X f (LG (cM i)):=PG.imp h λv σ H Q ⟨α,g,st,d,K,G,F,P,R,S,r,⟨j,e,q⟩,k⟩=>by
 cases e;show k.here P q (R.set i r) S
def SS{i j:Nat}(h:PG X f (Ib X.K 2 (nC (h_ i) (nC (h_ j) Hm)))):PG X f (LG (gN i j)):=PG.imp h λv σ H Q ⟨α,w,st,d,K,G,F,P,R,S,r,⟨z,e,q⟩,k⟩=>by
 unfold gN at e;split at e
 . rename_i x y;cases e;unfold Rep at r;obtain⟨a,A,rfl,na,s,p⟩:=r;obtain⟨l,g,rfl,n,m⟩:=qQ p rfl;show⟨a,_,rfl,.of (P.get s),rfl,l,_,rfl,g,_,rfl,rfl,k.here P q ((R.set i n).set j m) S⟩
 cases e
def aK(i:Nat)(te:DE):DS:=λD σ st=>te σ st λd f=>D.nx (σ.set i (some d)) f
def Q2{i:Nat}(h:PS X st (qg (LE te) (h_ i))):PS X st (LS (aK i te)):=PS.imp h λD σ H ⟨α,g,st,s,G,F,P,R,S,t,k⟩=>
 ⟨α,g,st,_,G,F,P,R,S,t,λd j q p r H1 v f n m l=>(k.nx.at f).here n q ((R.step f).set i l) m⟩
def GU(h:fM)(te:DE):DS:=λD σ st=>te σ st λd f=>∃g,h d σ=some g/\D.nx g f
def Rj(h:PS X st (qg (LE te) (LG j))):PS X st (LS (GU j te)):=PS.imp h λD σ H ⟨α,g,st,w,G,F,P,R,S,t,k⟩=>
 ⟨α,g,st,_,G,F,P,R,S,t,λd f q m s H1 v l r p n=>⟨m,g,f,d,w.nx,s,F,r,R.step l,p,n,q,k.nx.at l⟩⟩
def Ia(i j:Nat)(ta:DA):DS:=λD σ st=>ta σ st λf d=>match f with| [x,y]=>D.nx ((σ.set i (some x)).set j (some y)) d|_=>False
def QL{i j:Nat}{ta:DA}(h:PS X st (Q4 i j (LA ta))):PS X st (LS (Ia i j ta)):=PS.imp h λD σ H ⟨α,g,st,C,G,F,P,R,S,t,k⟩=>by
 show⟨α,g,st,_,G,F,P,R,S,t,λs n q z B H1 A f w v d=>?_⟩;match s,q,d with
 | [x,y],q,d=>
   obtain⟨m,l,rfl,r,p⟩:=qQ d rfl;show⟨m,l,rfl,(k.nx.at f).here w q (((R.step f).set i r).set j p) v⟩
def GY(i:Nat)(r:dG)(te:DE):DS:=λD σ st=>match σ[i]? with|some (some x)=>te σ st λy f=>r x y f λz d=>D.nx (σ.set i (some z)) d|_=>False
def DQ(f:Int->Int->Int):dG:=λx y st K=>match x,y with| .int i,.int j=>K (.int (f i j)) st|_,_=>False
def SD{i:Nat}{f:Int->Int->Int}(h:PS X st (TF i (LE te) (I_ f))):PS X st (LS (GY i (DQ f) te)):=PS.imp h λD σ H ⟨α,l,st,A,G,F,P,R,S,t,k⟩=>by
 unfold GY at t;split at t
 . rename_i x e;obtain⟨v,ev,d⟩:=R.at' i x e;show⟨v,ev,α,l,st,_,G,F,P,R,S,t,λy m q s z H1 w g r p j=>?_⟩;cases x<;>cases y<;>try show q.elim
   let n:=d;unfold Rep at d j;show⟨_,_,d,j,(k.nx.at g).here r q ((R.step g).set i (by unfold Rep;rfl)) p⟩
 show t.elim
def xX(x y d:D)(st:ag)(K:ag->Prop):Prop:=match x,y with
 | .ref n,.int k=>(match st[n]? with
   |some (.lst f)=>(match kE f.length k with|some j=>K (st.set n (.lst (f.set j d)))|none=>False)
   |_=>False)
 |_,_=>False
def Tr(to k te:DE):DS:=λD σ st=>te σ st λd j=>to σ j λx h=>k σ h λy g=>xX x y d g λf=>D.nx σ f
def M3(h:PS X st (qg (LE te) (Iu (LE to) (LE I) Cb))):PS X st (LS (Tr to I te)):=PS.imp h λD σ H ⟨α,g,st,DD,G,F,P,R,S,t,k⟩=>by
 show⟨α,g,st,_,G,F,P,R,S,t,λd z q O G1 H1 v r P1 S1 V=>?_⟩;show⟨O,g,z,_,G1,F,P1,R.step r,S1,q,λx w W N G2 H2 v2 m P2 S2 U=>?_⟩;show⟨N,g,w,_,G2,F,P2,(R.step r).step m,S2,W,λy Q f E G3 H3 v3 l P3 M K=>?_⟩;cases x<;>cases y<;>try show f.elim
 rename_i n Y;unfold xX at f;simp only at f;split at f
 . rename_i xs e;split at f
   . rename_i j Z;obtain⟨p,C,s,L,J⟩:=M.ia e;let A:=ee C (U.step l);subst A;unfold Rep at K;let B:some p∈E:=XS C;let T:=(V.step m).step l;show⟨p,s,Y,j,rfl,K,P3.get L,by rw[<-J.length];show Z,?_⟩;show(((k.nx.at r).at m).at l) g _ f E (upd G3 p (.lst (s.set j v))) _ σ (Step.write B) (P3.write L) ((((R.step r).step m).step l).step (Step.write B)) ?_;show M.write C ⟨s.set j v,bf,(bI.mpr (tO T j (bI.mp J))).step (Step.write B)⟩
   show f.elim
 show f.elim
def nq(c:DT)(tb:DS):DS:=λD σ st=>∃W:Nat->cC->ag->Prop,(∃m,W m σ st)/\∀m σ st,W m σ st->
 c σ st λb f=>if b=true then tb {D with nx:=λh d=>∃g,g<m/\W g h d,ct:=λh d=>∃g,g<m/\W g h d,bk:=D.nx} σ f else D.nx σ f
def Mw{tc:DT}(h:PS X st (JD (LT tc) (LS t))):PS X st (LS (nq tc t)):=PS.imp h λD σ H ⟨α,T,st,DD,G,F,P,R,S,⟨W,⟨m0,w0⟩,v⟩,k⟩=>by
 show⟨λm y A=>∃n d f g,Step α G n g/\cU g F A/\fA n g d y/\a8 n f g/\W m d f,⟨m0,α,T,st,G,Step.refl,P,R,S,w0⟩,?_⟩;rintro m σ1 H1 ⟨Y,l,w,G1,x,P1,M,S1,Z⟩;show⟨Y,l,w,_,G1,F,P1,M,S1,v m l w Z,λb E q V G2 H2 r Q O=>?_⟩;cases b with
 |false=>show((k.nx.at x).at r).here Q q (M.step r) O
 |true=>
  show⟨λy A=>∃s,s<m/\∃n d f g,Step α G n g/\cU g F A/\fA n g d y/\a8 n f g/\W s d f,λy A z=>z,?_⟩;show⟨V,l,E,_,G2,F,Q,M.step r,O,q,?_⟩;show⟨?_,(k.rt.at x).at r,(k.nx.at x).at r,?_⟩
  . rintro j p ⟨s,J,C⟩ B N H3 U I P3 L K;show⟨s,J,B,j,p,N,(x.trans r).trans I,P3,L,K,C⟩
  rintro j p ⟨s,J,C⟩ B N H3 U I P3 L K;show⟨s,J,B,j,p,N,(x.trans r).trans I,P3,L,K,C⟩
abbrev DI:=cC->ag->(List D->(ag->Prop)->ag->Prop)->Prop
structure xY(J:It)(α:List (Option Addr))(G:Hp)(ok:ag->Prop)(xs:List D):Prop where
 stop:∀(n:Nat) α' G' F' H' st',Step α G α' G'->cU G' F' H'->a8 α' st' G'->ok st'->xs.length<=n->J.stop n H'
 go:∀(n:Nat) d α' G' F' H' st',Step α G α' G'->cU G' F' H'->a8 α' st' G'->ok st'->xs[n]?=some d->J.go n H'
 rf:∀(n:Nat) d α' G' F' H' st' x H'',Step α G α' G'->cU G' F' H'->a8 α' st' G'->ok st'->xs[n]?=some d->J.rf n H' x H''->∃G'',Step α' G' α' G''/\cU G'' F' H''/\a8 α' st' G''/\Rep α' G'' d x
def LI(t:DI):TI:=λσ H R=>∃α h st K G F,cU G F H/\fA α G h σ/\a8 α st G/\t h st K/\∀j ok d,K j ok d->∀J g f H1,Step α G g f->cU f F H1->a8 g d f->xY J g f ok j->R J H1
def D6(d:D)(f:ag)(K:List D->(ag->Prop)->ag->Prop):Prop:=match d with
 | .lst g=>K g (λ_=>True) f
 | .tup g=>K g (λ_=>True) f
 | .ref n=>(match f[n]? with|some (.lst g)=>K g (λh=>h[n]?=some (.lst g)) f|_=>False)
 |_=>False
def UC(t:DE):DI:=λσ st K=>t σ st λd f=>D6 d f K
def F3{K:PySem.W.Frag}{a:Addr}{α:List (Option Addr)}{G:Hp}{ok:ag->Prop}{xs:List D}
 (h:∀j g f,Step α G j g->a8 j f g->ok f->∃vs,Rd g a (.lst vs)/\aM j g xs vs):xY (QZ K a) α G ok xs where
 stop:=λn j g q p f s P S o k=>by
  obtain⟨vs,m,l⟩:=h j g f s S o;show⟨vs,.inl (iV P m),by rw[<-l.length];show k⟩
 go:=λn d j g q p f s P S o k=>by
  obtain⟨vs,m,l⟩:=h j g f s S o;obtain⟨v,e,_⟩:=l.get k;show⟨vs,v,.inl (iV P m),e⟩
 rf:=λn d j g q p f x w s P S o k y=>by
  obtain⟨vs,m,l⟩:=h j g f s S o;obtain⟨v,e,r⟩:=l.get k;obtain⟨rfl,y⟩:=y;let:=y vs (.inl (iV P m));rw[e]at this;cases this;show⟨g,Step.refl,P,S,r⟩
def Te{K:PySem.W.Frag}{a:Addr}{α:List (Option Addr)}{G:Hp}{ok:ag->Prop}{xs:List D}
 (h:∀j g f,Step α G j g->a8 j f g->ok f->∃vs,g a=some (.tup vs)/\aM j g xs vs):xY (Sj K a) α G ok xs where
 stop:=λn j g q p f s P S o k=>by
  obtain⟨vs,m,l⟩:=h j g f s S o;show⟨vs,.of (P.get m),by rw[<-l.length];show k⟩
 go:=λn d j g q p f s P S o k=>by
  obtain⟨vs,m,l⟩:=h j g f s S o;obtain⟨v,e,_⟩:=l.get k;show⟨vs,v,.of (P.get m),e⟩
 rf:=λn d j g q p f x w s P S o k y=>by
  obtain⟨vs,m,l⟩:=h j g f s S o;obtain⟨v,e,r⟩:=l.get k;obtain⟨rfl,y⟩:=y;let:=y vs (.of (P.get m));rw[e]at this;cases this;show⟨g,Step.refl,P,S,r⟩
def Nm{a:Addr}(s:Step α G f d)(na:some a∉α)(j:Rd G a (.lst vs))(g:aM α G xs vs):Rd d a (.lst vs)/\aM f d xs vs:=by
 show⟨?_,g.step s⟩;rcases j with h|⟨o,h⟩
 . show .inl (s.ext _ _ na h)
 show .inr ⟨o,s.ext _ _ na h⟩
def Tt(hl:PE X l (LE tl)):PI X O l (LI (UC tl)):=by
 intro j s σ H R I h;obtain⟨α,σd,st,K,G,F,P,RS,S,t,k⟩:=h;show cp (hl j s σ H (λx H1=>∃d w r f,Step α G w r/\cU r F H1/\a8 w f r/\Rep w r d x/\D6 d f K) I ⟨α,σd,st,_,G,F,P,RS,S,t,λd f q w r H1 v g A E D=>⟨d,w,r,f,g,A,E,D,q⟩⟩) λv g ⟨x,H1,B,Z,d,w,r,f,C,A,E,D,q⟩=>?_;unfold D6 at q
 let y:∀ {a:Addr} {m:List V},x= .ref a->Rd H1 a (.lst m)->R (QZ X.K a) H1->wpAny (model X.prog X.w) X.A (pyIter v) (ND X j σ O R) X.xe g:=by
  intro a m ex U W;subst ex;cases Z;obtain⟨aq,rv,p,hz⟩:=B.list (.inl U);show aaz p.isList ?_;show⟨g.heap.objs.size,[g.heap.objs.size],_,_,H1,rfl,B.kept (t':=g.toks) λb o e=>XF _ e,Kr a _,⟨_,X5 _ rfl,rfl,rfl⟩,λb M=>?_,W⟩;let e:b=g.heap.objs.size:=by simpa using M
  subst e;show B.xD (Xv _) (B.aO.fresh (Xv _))
 let J:∀ {a:Addr} {m:List V},x= .ref a->H1 a=some (.tup m)->R (Sj X.K a) H1->wpAny (model X.prog X.w) X.A (pyIter v) (ND X j σ O R) X.xe g:=by
  intro a m ex U W;subst ex;cases Z;obtain⟨aq,rv,p,hz⟩:=B.tuple (kY.of U);show ZU (show g.heap.IsTuple a aq.toArray from p) ?_;show⟨g.heap.objs.size,[g.heap.objs.size],_,_,H1,rfl,B.kept (t':=g.toks) λb o e=>XF _ e,Ip a _,⟨_,X5 _ rfl,rfl,rfl⟩,λb M=>?_,W⟩;let e:b=g.heap.objs.size:=by simpa using M
  subst e;show B.xD (Xv _) (B.aO.fresh (Xv _))
 cases d<;>try show q.elim
 . rename_i n;simp only at q;split at q
   . rename_i xs e;obtain⟨a,ea,m,h1,h2⟩:=E.ia e;let T:=ee ea D;subst T;show y rfl (iV A (.of h1)) (k _ _ f q _ w r H1 C A E (F3 λY G' L s S o=>?_));obtain⟨b,eb,ws,g1,g2⟩:=S.ia o
     let M:b=a:=by
      rcases s.pre _ _ ea with z|z<;>(rw[z]at eb;cases eb)
      rfl
     subst M;show⟨ws,.of g1,g2⟩
   show q.elim
 . unfold Rep at D;obtain⟨a,m,rfl,na,N,Q⟩:=D;show y rfl (iV A N) (k _ _ f q _ w r H1 C A E (F3 λY G' L s S o=>⟨m,Nm s na N Q⟩))
 unfold Rep at D;obtain⟨a,m,rfl,na,N,Q⟩:=D;show J rfl (A.get N) (k _ _ f q _ w r H1 C A E (Te λY G' L s S o=>⟨m,s.ext _ _ na N,Q.step s⟩))
def fg(d:Int)(n:Nat):List D:=(List.range n).map λ(k:Nat)=>D.int (d+(k:Int))
def yp{n k:Nat}:(fg d n)[k]?=if k<n then some (.int (d+(k:Int)))else none:=by
 unfold fg;rw[XJ];by_cases h:k<n
 . rw[ZO h,XB h];rfl
 rw[Zw (by simpa using h),Xx h];rfl
def jG:(fg d n).length=n:=by unfold fg;simp
def Du{k:Int}:xY (A_ k n) α G (λ_=>True) (fg k n) where
 stop:=λm j h p l g s P S o f=>by rw[jG]at f;show f
 go:=λm d j h p l g s P S o f=>by
  rw[yp]at f;split at f
  . assumption
  cases f
 rf:=λm d j h p l g x q s P S o f y=>by
  obtain⟨rfl,rfl⟩:=y;rw[yp]at f;split at f
  . cases f;show⟨h,Step.refl,P,S,by unfold Rep;rfl⟩
  cases f
def PI.imp{t t':TI}(h:PI X j d t)(f:∀σ H R,t' σ H R->t σ H R):PI X j d t':=λg s σ H R I q=>h g s σ H R I (f σ H R q)
def NP(f:List D)(d:ag)(K:List D->(ag->Prop)->ag->Prop):Prop:=match f with
 | [.int j]=>(-(2^62)<=j/\j<2^62)/\K (fg 0 j.toNat) (λ_=>True) d
 |_=>False
def Ny(f:List D)(d:ag)(K:List D->(ag->Prop)->ag->Prop):Prop:=match f with
 | [.int i,.int j]=>(-(2^62)<=i/\i<2^62/\ -(2^62)<=j/\j<2^62)/\K (fg i (j-i).toNat) (λ_=>True) d
 |_=>False
def Qh(t:DA):DI:=λσ st K=>t σ st λf d=>NP f d K
def Qy(t:DA):DI:=λσ st K=>t σ st λf d=>Ny f d K
def Jn{t:DA}(h:PI X l d (GL (LA t))):PI X l d (LI (Qh t)):=PI.imp h λσ H R ⟨α,n,st,K,G,F,P,x,S,t,k⟩=>by
 show⟨α,n,st,_,G,F,P,x,S,t,λs f q p z H1 A r y w g=>?_⟩;match s,q,g with
 | [.int j],q,g=>
   obtain⟨v,rfl,m⟩:=ke g rfl;unfold Rep at m;subst m;show⟨j,rfl,q.1.1,q.1.2,k _ _ f q.2 _ p z H1 r y w Du⟩
def Ki{t:DA}(h:PI X l d (Hz (LA t))):PI X l d (LI (Qy t)):=PI.imp h λσ H R ⟨α,p,st,K,G,F,P,y,S,t,k⟩=>by
 show⟨α,p,st,_,G,F,P,y,S,t,λw f q r A H1 B s z x g=>?_⟩;match w,q,g with
 | [.int i,.int j],q,g=>
   obtain⟨v,u,rfl,n,m⟩:=qQ g rfl;unfold Rep at n m;subst n m;show⟨i,j,rfl,q.1,k _ _ f q.2 _ r A H1 s z x Du⟩
def j7(f:fM)(d:DS)(ok:ag->Prop)(E:nr):List D->cC->ag->Prop
 | [],σ,st=>ok st/\E.nx σ st
 |x::xs,σ,st=>ok st/\∃g,f x σ=some g/\d {E with nx:=j7 f d ok E xs,ct:=j7 f d ok E xs,bk:=E.nx} g st
def j5(g:DI)(j:fM)(d:DS):DS:=λD σ st=>g σ st λh ok f=>j7 j d ok D h σ f
def Rv{B:DI}{K:fM}(h:PS X st (SJ (LI B) (LG K) (LS t))):PS X st (LS (j5 B K t)):=PS.imp h λD σ H ⟨α,σd,st,DD,G,F,P,R,S,tt,k⟩=>by
 show⟨α,σd,st,_,G,F,P,R,S,tt,λn ok U q J T G1 H1 L P1 S1 it=>?_⟩;show⟨λi m s A=>∃p g f l,Step T G1 p l/\cU l F A/\fA p l g s/\a8 p f l/\j7 K t ok DD (n.drop i) g f/\m=n.length-i,⟨n.length,T,σd,U,G1,Step.refl,P1,R.step L,S1,q,rfl⟩,?_⟩;rintro i m σ2 H2 ⟨I,O,j,G2,C,N,R2,M,z,rfl⟩;cases e:n[i]? with
 |none=>
  have E:n.length<=i:=abl.mp e;rw[Zo E]at z;unfold j7 at z;show .inl ⟨it.stop i I G2 F H2 j C N M z.1 E,((k.nx.at L).at C).here N z.2 R2 M⟩
 |some d=>
  have E:i<n.length:=(Xs.mp e).1
  let ed:n.drop i=d::n.drop (i+1):=by
   rw[X9 E];congr 1;rw[XC E]at e;show Yx e
  rw[ed]at z;unfold j7 at z;obtain⟨aO,σ3,e3,q3⟩:=z;show .inr ⟨it.go i d I G2 F H2 j C N M aO e,λs A=>∃p g f l,Step T G1 p l/\cU l F A/\fA p l g s/\a8 p f l/\j7 K t ok DD (n.drop (i+1)) g f,?_,?_⟩
  . rintro s A ⟨p,g,f,l,z1,z2,z3,z4,z5⟩;show⟨n.length-(i+1),by lia,p,g,f,l,z1,z2,z3,z4,z5,rfl⟩
  intro x A y;obtain⟨G3,s3,P3,S3,r3⟩:=it.rf i d I G2 F H2 j x A C N M aO e y;show⟨I,O,j,d,λs f=>s=σ3/\f=j,G3,F,P3,R2.step s3,S3,r3,⟨σ3,e3,rfl,rfl⟩,?_⟩;rintro s f ⟨rfl,rfl⟩ α4 G4 H4 σ4 s4 P4 R4 S4;let r:=(C.trans s3).trans s4;show⟨α4,s,f,_,G4,F,P4,R4,S4,q3,?_,((k.rt.at L).at r),(k.nx.at L).at r,?_⟩
  . intro v w W Q G5 H5 σ5 V P5 Z Y;show⟨Q,v,w,G5,r.trans V,P5,Z,Y,W⟩
  intro v w W Q G5 H5 σ5 V P5 Z Y;show⟨Q,v,w,G5,r.trans V,P5,Z,Y,W⟩
end
def i7(fr:List (Option Nat))(σ:cC):cC:=fr.map λo=>o.bind λj=>(σ[j]?).join
def fA.comp(h:fA α G a σ):fA α G (i7 fr a) (σC fr σ):=by
 show⟨by unfold i7 σC;simp,λi d e=>?_⟩;unfold i7 at e;rw[XJ]at e;cases q:fr[i]? with
 |none=>rw[q]at e;cases e
 |some o=>
  rw[q]at e;cases o with
  |none=>simp at e
  |some j=>
   simp![ZT,Option.some.injEq,Option.bind_some]at e
   let c:a[j]?=some (some d):=by
    cases r:a[j]? with
    |none=>rw[r]at e;cases e
    |some u=>rw[r]at e;simp at e;rw[e]
   obtain⟨v,ev,b⟩:=h.at' j d c;show⟨v,?_,b⟩;unfold σC;rw[XJ,q];simp[ev]
def eB(h:fM)(c:DT)(i:DE)(ok:ag->Prop)(f:cC):List D->List D->ag->(List D->ag->Prop)->Prop
 | [],a,e,K=>ok e/\K a e
 |x::xs,a,e,K=>ok e/\∃g,h x f=some g/\c g e λb d=>if b=true then i g d λy j=>eB h c i ok f xs (a++[y]) j K else eB h c i ok f xs a d K
def dW(d:DI)(fr:List (Option Nat))(g:fM)(c:DT)(h:DE):DE:=λσ i K=>d σ i λe ok b=>e.length<=sizeLine/\eB g c h ok (i7 fr σ) e [] b λf a=>K (.lst f) a
def oX(d:DI)(fr:List (Option Nat))(g:fM)(c:DT)(h:DE):DE:=λσ i K=>d σ i λe ok b=>e.length<=sizeLine/\eB g c h ok (i7 fr σ) e [] b λf a=>K (.ref a.length) (a++[.lst f])
def cT:DT:=λ_ a K=>K true a
def qZ(fr:List (Option Nat))(a:fM):Prop:=∀(σ:cC) (d:D) (σ2:cC),a d (i7 fr σ)=some σ2->σ2.length=(i7 fr σ).length/\∀(i:Nat) (e:D),(i7 fr σ)[i]?=some (some e)->σ2[i]?=some (some e)
def m5{k:Nat}(h:fr[k]?=some none){e:D}(q:(i7 fr σ)[k]?=some (some e)):False:=by
 unfold i7 at q;rw[XJ,h]at q;simp at q
def jx{k:Nat}(h:fr[k]?=some none:=by rfl):qZ fr (cM k):=λσ d b e=>by
 cases e;show⟨XH,λi x q=>?_⟩;by_cases a:i=k
 . subst a;show(m5 h q).elim
 rw[Xu (XI a)];show q
def Au{k j:Nat}(h:fr[k]?=some none:=by rfl)(h':fr[j]?=some none:=by rfl):qZ fr (gN k j):=λσ d c e=>by
 unfold gN at e;split at e
 . cases e;show⟨by rw[XH,XH],λi x q=>?_⟩;by_cases b:i=k
   . subst b;show(m5 h q).elim
   by_cases a:i=j
   . subst a;show(m5 h' q).elim
   rw[Xu (XI a),Xu (XI b)];show q
 cases e
section
variable {X:Cx}
def R_(h:PT X c (LT t)):vp X [c] (LT t):=OC h
def Mu:vp X [] (LT cT):=λa s σ H Q I ⟨α,c,b,K,G,F,P,R,S,t,k⟩=>Pc a s σ H Q I (k true b t α G H Step.refl P S)
def LE.comp{K:DI}{fr:List (Option Nat)}{E:fM}{c:DT}{T:DE}(N:qZ fr E){σ:L2.St}{H:Hp}{Q:VK}{α:List (Option Addr)}{n:cC}{st:ag}{KE:List D->ag->Prop}{G F:Hp}(P:cU G F H)(R:fA α G n σ)(S:a8 α st G)
 (t:K n st λxs ok v=>xs.length<=sizeLine/\eB E c T ok (i7 fr n) xs [] v KE)
 (aq:∀ys g s u B l vs,KE ys g->Step α G s u->cU u (upd F l (.lst vs)) B->F l=none->a8 s g u->aM s u ys vs->Q (.ref l) B):
 wb (LI K) fr (LG E) (LT c) (LE T) σ H Q:=by
 show⟨α,n,st,_,G,F,P,R,S,t,λxs ok v q J Z G1 H1 s1 P1 S1 it l hl=>?_⟩;obtain⟨av,q⟩:=q;obtain⟨hG,hF⟩:=P1.none hl
 show⟨λi m o C=>∃r a k f vs,Step Z G1 r k/\cU k (upd F l (.lst vs)) C/\fA r k (i7 fr n) o/\a8 r a k/\aM r k f vs/\f.length<=i/\i<=xs.length/\eB E c T ok (i7 fr n) (xs.drop i) f a KE/\m=xs.length-i,
  ⟨xs.length,Z,v,G1,[],[],Step.refl,P1.hide hl,(R.step s1).comp,S1,by unfold aM;rfl,Xv _,Yc _,q,rfl⟩,?_⟩
 rintro i m σ2 B ⟨s,g,u,f,vs,M,Y,R2,V,ra,ar,hi,A,rfl⟩;cases e:xs[i]? with
 |none=>
  have h:xs.length<=i:=abl.mp e;rw[Zo h]at A;unfold eB at A;show .inl ⟨it.stop i s u _ B g M Y V A.1 h,aq f g s u B l vs A.2 (s1.trans M) Y hF V ra⟩
 |some d=>
  have h:i<xs.length:=(Xs.mp e).1
  let ed:xs.drop i=d::xs.drop (i+1):=by
   rw[X9 h];congr 1;rw[XC h]at e;show Yx e
  rw[ed]at A;unfold eB at A;obtain⟨aO,σ3,e3,q3⟩:=A;show .inr ⟨it.go i d s u _ B g M Y V aO e,λo C=>∃r a k f vs,Step Z G1 r k/\cU k (upd F l (.lst vs)) C/\fA r k (i7 fr n) o/\a8 r a k/\aM r k f vs/\f.length<=i+1/\eB E c T ok (i7 fr n) (xs.drop (i+1)) f a KE,?_,?_⟩
  . rintro o C ⟨r,a,k,O,ab,z1,z2,z3,z4,z5,z6,z7⟩;show⟨xs.length-(i+1),by lia,r,a,k,O,ab,z1,z2,z3,z4,z5,z6,h,z7,rfl⟩
  intro x C y;obtain⟨G3,U,P3,S3,r3⟩:=it.rf i d s u _ B g x C M Y V aO e y;show⟨s,i7 fr n,g,d,λo a=>o=σ3/\a=g,G3,_,P3,R2.step U,S3,r3,⟨σ3,e3,rfl,rfl⟩,?_⟩;rintro o a ⟨rfl,rfl⟩ α4 G4 H4 σ4 s4 P4 W S4;let L:=(M.trans U).trans s4;let Rc:fA α4 G4 (i7 fr n) σ4:=⟨by rw[<-(N n d o e3).1];show W.len,λj z hz=>W.at' j z ((N n d o e3).2 j z hz)⟩
  show⟨α4,o,a,_,G4,_,P4,W,S4,q3,λb I q5 α5 G5 H5 w P5 S5=>?_⟩;cases b with
  |false=>show⟨α5,I,G5,f,vs,L.trans w,P5,Rc.step w,S5,((ra.step U).step s4).step w,by lia,q5⟩
  |true=>
   show⟨α5,o,I,_,G5,_,P5,W.step w,S5,q5,λz ah q6 α6 G6 H6 v6 s6 P6 S6 r6=>?_⟩;let hr:=(((ra.step U).step s4).step w).step s6;show⟨vs,(P6.frame bf).1,by rw[<-hr.length];lia,α6,ah,G6,f++[z],vs++[v6],(L.trans w).trans s6,?_,(Rc.step w).step s6,S6,bI.mpr (ik (bI.mp hr) (.cons r6 .nil)),by rw[YC,Z0];lia,q6⟩;let:=P6.W7 (p:=l) (o':= .lst (vs++[v6])) bf;rw[OW]at this;show this
def Q0{scope:Scope}{Nc:List Str}{g h a:Expr}{f:List Expr}{pos:Pos}{e:DI}{fr:List (Option Nat)}{b:fM}{c:DT}{n:DE}(S:dz X scope Nc fr)(D:PI X h a (LI e))
 (d:∀C s H ex,PG (d8 X scope Nc C s H ex) h (LG b)) (z:∀C s H ex,vp (d8 X scope Nc C s H ex) f (LT c)) (E:∀C s H ex,PE (d8 X scope Nc C s H ex) g (LE n)) (j:qZ fr b)
 (y:X.xe=λ_ _=>False:=by rfl) (I:X.calm=true:=by rfl) (A:∀x,foldedSetIterable a X.env x=pure x:=by intro _;rfl):PE X (.ListComp g [⟨h,a,f,0⟩] scope pos) (LE (dW e fr b c n)):=
 PE.imp (F6 y I S D d z E A) λσ H Q ⟨α,L,N,K,G,F,P,R,S,t,k⟩=>LE.comp j P R S t λM i v u J l m q w p B o r=>by
  let d:u l=none:=(p.frame bf).2;show k _ i q v (upd u l (.lst m)) J (.ref l) (w.trans (Step.laid d)) (p.show B) (o.laid d) ?_;unfold Rep;show⟨l,m,rfl,o.nJ d,.of bf,r.step (Step.laid d)⟩
def Qm{scope:Scope}{Nc:List Str}{g h a:Expr}{e:List Expr}{pos:Pos}{d:DI}{fr:List (Option Nat)}{b:fM}{c:DT}{n:DE}(S:dz X scope Nc fr)(D:PI X h a (LI d))
 (f:∀C s H ex,PG (d8 X scope Nc C s H ex) h (LG b)) (z:∀C s H ex,vp (d8 X scope Nc C s H ex) e (LT c)) (E:∀C s H ex,PE (d8 X scope Nc C s H ex) g (LE n)) (i:qZ fr b)
 (y:X.xe=λ_ _=>False:=by rfl) (I:X.calm=true:=by rfl) (A:∀x,foldedSetIterable a X.env x=pure x:=by intro _;rfl):PE X (.ListComp g [⟨h,a,e,0⟩] scope pos) (LE (oX d fr b c n)):=
 PE.imp (F6 y I S D f z E A) λσ H Q ⟨α,L,N,K,G,F,P,R,S,t,k⟩=>LE.comp i P R S t λM v u p J l m q w o B j r=>by
  let f:p l=none:=(o.frame bf).2;show k _ _ q (u++[some l]) (upd p l (.lst m)) J (.ref l) (w.trans (Step.cell f)) (o.show B) (j.cell f ⟨m,bf,r.step (Step.cell f)⟩) ?_;unfold Rep;show .inr ⟨l,?_,rfl⟩;rw[Yi (by rw[j.len];show Xv _),j.len,Zs];rfl
def OB{st:Stmt}{k:Nat}{b:DI}{fr:List (Option Nat)}{a:fM}{c:DT}{i:DE}(g:qZ fr a)(h:PS X st (qg (wb (LI b) fr (LG a) (LT c) (LE i)) (h_ k))):PS X st (LS (aK k (dW b fr a c i))):=
 PS.imp h λD σ H ⟨α,y,st,A,G,F,P,R,S,t,q⟩=>LE.comp g P R S t λz f s p x l e v u n w m r=>by
  let d:p l=none:=(n.frame bf).2;let j:=u.trans (Step.laid (o:= .lst e) d);show q.nx _ f v s (upd p l (.lst e)) x _ j (n.show w) ((R.step j).set k ?_) (m.laid d);unfold Rep;show⟨l,e,rfl,m.nJ d,.of bf,r.step (Step.laid d)⟩
def Nk{st:Stmt}{k:Nat}{b:DI}{fr:List (Option Nat)}{a:fM}{c:DT}{i:DE}(f:qZ fr a)(h:PS X st (qg (wb (LI b) fr (LG a) (LT c) (LE i)) (h_ k))):PS X st (LS (aK k (oX b fr a c i))):=
 PS.imp h λD σ H ⟨α,y,st,A,G,F,P,R,S,t,q⟩=>LE.comp f P R S t λz s p n x l d v u m w g r=>by
  let e:n l=none:=(m.frame bf).2;let j:=u.trans (Step.cell (o:= .lst d) e);show q.nx _ _ v (p++[some l]) (upd n l (.lst d)) x _ j (m.show w) ((R.step j).set k ?_) (g.cell e ⟨d,bf,r.step (Step.cell e)⟩);unfold Rep;show .inr ⟨l,?_,rfl⟩;rw[Yi (by rw[g.len];show Xv _),g.len,Zs];rfl
def aL(N:List Str)(a:List D):cC:=a.map some++List.replicate (N.length-a.length) none
def fA.start(r:aM α G a vs):fA α G (aL N a) (L2.start N vs):=by
 let f:=r.length;show⟨by unfold aL L2.start;simp[f],λi d e=>?_⟩;unfold aL at e;by_cases b:i<a.length
 . rw[XA (by simpa using b),XJ]at e;cases q:a[i]? with
   |none=>rw[q]at e;cases e
   |some x=>
    rw[q]at e;cases e;obtain⟨v,ev,c⟩:=r.get q;show⟨v,?_,c⟩;unfold L2.start;rw[XA (by rw[Xr];lia),XJ,ev];rfl
 rw[Yi (by simpa using b),aat]at e;split at e<;>cases e
def Va{P:Program}{w:World}{K:PySem.W.Frag}{n:Str->Option Value}{e:Heap}{x b:Str}{st:Stmt}{f:Addr}{fd:FuncData}{N m:List Str}{k:Nat}{sp:cf}{t:DS}(F:oU K x b st f fd)(S:ou N m (bO st))
 (g:∀(c:Value) (A:Around) (outer:List Env) (s:Shared) (H:Hp) (E:XK),dv k (A.deeper (envOfC b (bO st) s.heap.objs.size f c))->jo (rQ eN P w K n e N b (bO st) f c A outer s H E).wG (iu st) (LS t))
 (l:∀d st K,sp d st K->d.length=m.length/\t {nx:=λ_ a=>K .av a,rt:=K} (aL N d) st):cV P w K n e eN (k+1) f fd m (fm sp):=by
 show F.ok S (λp H Q E h=>?_) λc A outer s H p Q E v h=>⟨_,g c A outer s H E v,?_⟩
 . obtain⟨α,d,st,K,G,F,P,r,S,q,k⟩:=h;rw[<-r.length];show(l d st K q).1
 obtain⟨α,d,st,K,G,F,P,r,S,q,k⟩:=h;show⟨α,aL N d,st,_,G,F,P,fA.start r,S,(l d st K q).2,?_,k,?_,?_⟩
 . intro i a j o C B D u z I y;show k .av a j o C B .av u z y (by unfold Rep;rfl)
 . intro i a j;show j.elim
 intro i a j;show j.elim
def sN(to e:DE):DE:=λσ f K=>to σ f λx b=>match x with
 | .ref n=>(match b[n]? with
   |some (.lst _)=>e σ b λy a=>∃c,[y]=[c]/\(match a[n]? with|some (.lst d)=>d.length<sizeLine/\K .av (a.set n (.lst (d++[c])))|_=>False)
   |_=>False)
 |_=>False
end
structure oB(K:PySem.W.Frag)(mg:Str->Option Value)(x qual:Str)(st:Stmt)(ps:List Str)(f:Addr)(fd:FuncData):Prop where
 fn:oU K x qual st f fd
 mg:mg x=some (.ref f)
 bd:Binds K fd ps []
def Ek(a:Scope)(N:List Str)(scope:Scope)(Nc:List Str)(fr:List (Option Nat)):Bool:=
 (scope.kind== .function)&&scope.names.all (λx=>x.2 != .cell||scope.names.lookup x.1==some .cell)&&scope.names.all (λx=>x.2 != .local||scope.names.lookup x.1==some .local)&&
 scope.names.all (λx=>x.2 != .free||a.names.lookup x.1==some .cell||a.names.lookup x.1==some .free)&&(fr.length==Nc.length)&&
 (List.range fr.length).all λi=>match fr[i]?,Nc[i]? with
   |some (some j),some x=>(N[j]?==some x)&&(scope.names.lookup x==some .free)&&(a.names.lookup x==some .cell||a.names.lookup x==some .free)
   |_,_=>true
def dz.look{X:Cx}(c:Scope)(N:List Str)(h:Ek c N scope Nc fr=true)(b:X.env.scope=c:=by rfl)(f:X.N=N:=by rfl):dz X scope Nc fr:=by
 unfold Ek at h;simp![Ym]at h;obtain⟨⟨⟨⟨⟨o,n⟩,m⟩,l⟩,k⟩,g⟩:=h;subst b f;show⟨by simpa using o,λx a hk=>?_,λx a hk=>?_,λx a hk=>?_,by simpa using k,λi j x p d=>?_⟩
 . have:=Yu.mp n x a;rw[hk]at this;simpa using this
 . have:=Yu.mp m x a;rw[hk]at this;simpa using this
 . have:=Yu.mp l x a;rw[hk]at this;let z:X.env.scope.names.lookup x.1=some .cell\/X.env.scope.names.lookup x.1=some .free:=by simpa using this
   show z
 have e:i<fr.length:=(Xs.mp d).1;let:=Yu.mp g i (YW.mpr e);rw[p,d]at this;simp![Ym,aaQ,Zm]at this;show⟨this.1.1,this.1.2,this.2⟩
section
variable {X:Cx}
def WM{e:Expr}{a:List Expr}{pos p:Pos}{x:Str}{id:String}{r:gu}{t:DA}(k:cA X (.builtin id) (iE r))(l:PA X (e::a) (LA t))(g:X.mg x=none)(d:bootBuiltins x=some (.builtin id))(i:Gl X x:=by rfl)(f:x≠"__name__":=by decide)(c:(x==("__debug__":Str))=false:=by decide)
 (j:starEach (e::a) X.env=(false,eval e X.env)::starEach a X.env:=by rfl) (b:(backTo pos (starEach a X.env)).any (·.1)=false:=by rfl):PE X (.Call (.Name x p) (e::a) [] pos) (LE (bS r t)):=PE.imp (Nj k i g d l f c j b) λ_ _ _ h=>LE.cb h
def Wl{e:Expr}{a:List Expr}{pos p:Pos}{x:Str}{T:String}{r:gu}{t:DA}(k:cA X (.type T) (iE r))(l:PA X (e::a) (LA t))(g:X.mg x=none)(d:bootBuiltins x=some (.type T))(i:Gl X x:=by rfl)(f:x≠"__name__":=by decide)(c:(x==("__debug__":Str))=false:=by decide)
 (j:starEach (e::a) X.env=(false,eval e X.env)::starEach a X.env:=by rfl) (b:(backTo pos (starEach a X.env)).any (·.1)=false:=by rfl):PE X (.Call (.Name x p) (e::a) [] pos) (LE (bS r t)):=PE.imp (Ld k i g d l f c j b) λ_ _ _ h=>LE.cb h
def WK{pos:Pos}{x:Str}{T:String}(d:X.mg x=none)(b:bootBuiltins x=some (.type T))(e:Gl X x:=by rfl)(c:x≠"__name__":=by decide)(a:(x==("__debug__":Str))=false:=by decide):PE X (.Name x pos) (LE (dC (.ty T))):=
 sJ (v:= .ty T) (Pk e d b rfl c a) λ_ _=>by unfold Rep;rfl
def Wy{e:Expr}{b:List Expr}{pos p:Pos}{x a:Str}{st:Stmt}{g:List Str}{f:Addr}{fd:FuncData}{k:Nat}{S:cf}{t:DA}(A:oB X.K X.mg x a st g f fd)(F:cV X.prog X.w X.K X.mg X.base eN k f fd g (fm S))(h:dv k X.A)
 (l:PA X (e::b) (LA t)) (i:Gl X x:=by rfl) (d:(x==("__debug__":Str))=false:=by decide) (j:starEach (e::b) X.env=(false,eval e X.env)::starEach b X.env:=by rfl) (c:(backTo pos (starEach b X.env)).any (·.1)=false:=by rfl):
 PE X (.Call (.Name x p) (e::b) [] pos) (LE (aA S t)):=RQ F h i A.mg A.fn.kp A.bd l d j c
def E6(r:RelV x v)(h:Q (.bool (v== .bool b)) s):wpAny M A (compareOp .Is v (.bool b)) Q E s:=by
 cases x
 case bl c=>
  cases r;let e:(Value.bool c==Value.bool b)=(c==b):=by cases c<;>cases b<;>rfl
  rw[e]at h;show is_bool h
 all_goals first
  |(cases r;show XM h)
  |(obtain⟨t,rfl⟩:=r;show XM h)
def IT(d:D)(b:Bool):Bool:=match d with| .bl c=>c==b|_=>false
def Gz(d:D):Bool:=match d with| .av=>true|_=>false
def Od:dG:=λx y a K=>match y with| .av=>live a x=true/\K (.bl (Gz x)) a| .bl b=>live a x=true/\K (.bl (IT x b)) a|_=>False
def FW{α:List (Option Addr)}{H:Hp}{st:ag}{d:D}{v:V}{u:Value}{b:Bool}(S:a8 α st H)(f:live st d=true)(r:Rep α H d v)(e:RelV v u):(u==Value.bool b)=IT d b:=by
 cases d
 case ref n=>
  obtain⟨a,rfl⟩:=yf S f r;cases e;rfl
 all_goals unfold Rep at r
 case bl c=>
  subst r;cases e;cases c<;>cases b<;>rfl
 all_goals first
  |(subst r;first|(cases e;rfl)|(obtain⟨t,rfl⟩:=e;rfl))
  |(obtain⟨a,g,rfl,_⟩:=r;cases e;rfl)
def UI:cu X (compareOp .Is) (LR Od):=λf s σ H x y v u Q I h i ⟨α,d,e,l,K,G,m,P,c,g,S,q,k⟩=>by
 cases e<;>try show q.elim
 . unfold Rep at g;show QB f s σ H x y v u Q I h i ⟨g,k.here P q.2 S ?_⟩;unfold Rep;cases d
   case ref n=>
    obtain⟨a,rfl⟩:=yf S q.1 c;rfl
   all_goals(unfold Rep at c;first|(rw[c];rfl)|(obtain⟨a,j,rfl,_⟩:=c;rfl))
 rename_i b;unfold Rep at g;subst g;cases i;show E6 h ?_;rw[FW S q.1 c h];show⟨.bl (IT d b),H,I,rfl,k.here P q.2 S (by unfold Rep;rfl)⟩
def oV(r j:dG)(h g f:DE):DE:=λσ i K=>h σ i λx e=>g σ e λy d=>r x y d λz a=>match z with
 | .bl b=>if b=true then f σ a λw c=>j y w c K else K (.bl false) a
 |_=>False
def LE.chain(h:LE (oV r y s p o) σ H Q):Dc (LR r) (LR y) (LE s) (LE p) (LE o) σ H Q:=by
 obtain⟨α,g,J,K,G,F,P,R,S,t,k⟩:=h;show⟨α,g,J,_,G,F,P,R,S,t,λd l q I G1 H1 v f P1 W M=>?_⟩;show⟨I,g,l,_,G1,F,P1,R.step f,W,q,λA j O E G2 H2 v2 e Z V x=>?_⟩;show⟨E,d,A,j,_,G2,F,Z,M.step e,x,V,O,λz a m n C H3 v3 c P3 B w=>?_⟩;cases z<;>try show m.elim
 rename_i b;unfold Rep at w;show⟨b,w,?_⟩;cases b with
 |false=>show((k.at f).at e).at c _ a m n C H3 _ Step.refl P3 B (by unfold Rep;rfl)
 |true=>show⟨n,g,a,_,C,F,P3,((R.step f).step e).step c,B,m,λT i N D G4 H4 v4 u Y U L=>⟨D,A,T,i,K,G4,F,Y,(x.step c).step u,L,U,N,(((k.at f).at e).at c).at u⟩⟩
def PD{i g f:DE}(k:cu X (compareOp op) (LR r))(e:cu X (compareOp d) (LR j))(o:PE X a (LE i))(n:PE X b (LE g))(m:PE X c (LE f))
 (l:lastMarks [op,d] [b,c]=false:=by with_unfolding_all rfl):PE X (.Compare a [op,d] [b,c] pos) (LE (oV r j i g f)):=PE.imp (MQ k e o n m l) λ_ _ _ h=>LE.chain h
def MU{i g f:DE}(l:cu X (compareOp op) (LR r))(e:cu X (compareOp d) (LR j))(p:PE X a (LE i))(o:PE X b (LE g))(n:PE X c (LE f))
 (m:lastMarks [op,d] [b,c]=false:=by with_unfolding_all rfl):PT X (.Compare a [op,d] [b,c] pos) (LT (aQ (oV r j i g f))):=PT.imp (MT l e p o n m) λσ H Q h=>LE.chain (Q:=λx q=>∃k,x= .bl k/\Q k q) (LT.test h)
def LE.append(h:LE (sN to r) σ H Q):VC X.K "list" Ge (LE to) (LA (ae r ai)) σ H Q:=by
 obtain⟨α,m,T,K,G,F,P,R,S,t,k⟩:=h;show⟨α,m,T,_,G,F,P,R,S,t,λx i q N G1 H1 v u M J V=>?_⟩;cases x<;>try show q.elim
 rename_i n;simp only at q;split at q
 . rename_i ys e;obtain⟨p,D,O,W,h2⟩:=J.ia e;let l:=ee D V;subst l;show⟨.inl ⟨rfl,O,.inl (.of (M.get W))⟩,N,m,i,λE b=>∃y,E=[y]/\(match b[n]? with|some (.lst f)=>f.length<sizeLine/\K .av (b.set n (.lst (f++[y])))|_=>False),G1,F,M,R.step u,J,?_,?_⟩
   . show Eq.mp ?_ q;rfl
   rintro E b ⟨y,rfl,c⟩ o Z H2 ws s L I U;obtain⟨w,rfl,j⟩:=ke U rfl;split at c
   . rename_i f Y;obtain⟨d,a,g,C,B⟩:=I.ia Y
     let:d=p:=by
      rcases s.pre _ _ D with z|z<;>(rw[z]at a;cases a)
      rfl
     subst this;let A:some d∈o:=XS a;show⟨d,g,w,rfl,rfl,L.get C,by rw[<-B.length];show c.1,?_⟩;show((k.at u).at s) _ _ c.2 o (upd Z d (.lst (g++[w]))) _ .av (Step.write A) (L.write C) ?_ (by unfold Rep;rfl);show I.write a ⟨g++[w],bf,(bI.mpr (ik (bI.mp B) (.cons j .nil))).step (Step.write A)⟩
   show c.elim
 show q.elim
def MK{o e:Expr}{c a:Pos}(k:PE X o (LE to))(l:PE X e (LE i))(f:attributeBase o "append" X.env (eval o X.env)=eval o X.env:=by rfl)
 (g:((backTo a (starEach [e] X.env)).all (λx=> !x.1)&&(backToKw a (keywordEach [] X.env)).all (λx=>x.1.isSome)
   &&decide (([e]:List Expr).length+([]:List Keyword).length+(if([]:List Keyword).isEmpty then 0 else 1)<30))=true:=by rfl)
 (d:(c.endLine==a.line)=true:=by rfl) (j:starEach [e] X.env=(false,eval e X.env)::starEach [] X.env:=by rfl) (b:(backTo a (starEach [] X.env)).any (·.1)=false:=by rfl):PE X (.Call (.Attribute o "append" c) [e] [] a) (LE (sN to i)):=
 PE.imp (Vd aav PySem.F.slot_list_append PySem.F.type_list_append Bb k (zX l DW j) f g d j b) λ_ _ _ h=>LE.append h
end
end L3
namespace L3
open PySem L2
open PySem.Spec hiding items?
open PyProof.Rows hiding St
section
variable {X:Cx}
@[irreducible] def cW:dG:=NH
def mj:cu X (binaryOp .Add) (LR cW):=by unfold cW;show UW
@[irreducible] def jr:dG:=NQ
def nG:cu X (binaryOp .Sub) (LR jr):=by unfold jr;show UK
@[irreducible] def cP:dG:=N5
def pR:cu X (binaryOp .Mult) (LR cP):=by unfold cP;show Us
@[irreducible] def mn:dG:=IM
def uF:cu X (binaryOp .FloorDiv) (LR mn):=by unfold mn;show Si
@[irreducible] def mJ:dG:=N8
def NN:cu X (binaryOp .Mod) (LR mJ):=by unfold mJ;show Uv
@[irreducible] def CN:dG:=NI
def Ov:cu X (binaryOp .Pow) (LR CN):=by unfold CN;show UJ
@[irreducible] def sH:dG:=QG
def tM:cu X (compareOp .Lt) (LR sH):=by unfold sH;show WJ
@[irreducible] def yZ:dG:=QE
def tL:cu X (compareOp .LtE) (LR yZ):=by unfold yZ;show V2
@[irreducible] def ue:dG:=Q_
def tx:cu X (compareOp .Gt) (LR ue):=by unfold ue;show WO
@[irreducible] def F1:dG:=Sf
def zC:cu X (compareOp .GtE) (LR F1):=by unfold F1;show WG
@[irreducible] def nj:dG:=QP
def HQ:cu X (compareOp .NotEq) (LR nj):=by unfold nj;show V7
@[irreducible] def zj:dG:=Od
def zU:cu X (compareOp .Is) (LR zj):=by unfold zj;show UI
@[irreducible] def i8:dG:=Rt
def tJ{k:Nat}(a:dv k X.A):cu X (compareOp .Eq) (LR i8):=by unfold i8;show We a
@[irreducible] def jd:Dy:=NU
def Uo:GC X (unaryOp .USub) (Oj jd):=by unfold jd;show Vi
@[irreducible] def aN:dG:=sP
def WR(g:PE X a (LE d))(f:PE X b (LE c))(e:vZ b:=by intro _ _;rfl):PE X (.Subscript a b pos) (LE (ak aN d c)):=by unfold aN;show Wm g f e
@[irreducible] def dO:gu:=Cc
def fV:cA X (.builtin "len") (iE dO):=by unfold dO;show T4
@[irreducible] def uN:gu:=GK
def Hu:cA X (.builtin "abs") (iE uN):=by unfold uN;show Vs
@[irreducible] def zY:gu:=IL
def Hq(a:X.calm=true):cA X (.builtin "max") (iE zY):=by unfold zY;show US a
@[irreducible] def AG:gu:=Ig
def IE(a:X.calm=true):cA X (.builtin "min") (iE AG):=by unfold AG;show UL a
@[irreducible] def Dv:gu:=HZ
def NA:cA X (.type "int") (iE Dv):=by unfold Dv;show Uu
@[irreducible] def cY:gu:=vV
def jU:cA X (.type "tuple") (iE cY):=by unfold cY;show Qr
@[irreducible] def qX:gu:=yy
def yD:cA X (.type "list") (iE qX):=by unfold qX;show Q7
@[irreducible] def ql:gu:=v9
def Gp:cA X (.type "list") (iE ql):=by unfold ql;show Qj
@[irreducible] def Et:gu:=Cr
def NR(a:X.calm=true):cA X (.builtin "all") (iE Et):=by unfold Et;show UB a
@[irreducible] def rL:gu:=Cy
def NG:cA X (.builtin "isinstance") (iE rL):=by unfold rL;show Ui
@[irreducible] def u3:D->ag->(List D->(ag->Prop)->ag->Prop)->Prop:=D6
def fU(t:DE):DI:=λσ b K=>t σ b λd a=>u3 d a K
def Q1(b:PE X l (LE tl)):PI X a l (LI (fU tl)):=by unfold fU u3;show Tt b
@[irreducible] def Cj:List D->ag->(List D->(ag->Prop)->ag->Prop)->Prop:=NP
@[irreducible] def Cp:List D->ag->(List D->(ag->Prop)->ag->Prop)->Prop:=Ny
def gO(t:DA):DI:=λσ b K=>t σ b λc a=>Cj c a K
def si(t:DA):DI:=λσ b K=>t σ b λc a=>Cp c a K
def KO(h:PI X b a (GL (LA t))):PI X b a (LI (gO t)):=by unfold gO Cj;show Jn h
def Ju(h:PI X b a (Hz (LA t))):PI X b a (LI (si t)):=by unfold si Cp;show Ki h
@[irreducible] def CK:D->D->D->ag->(ag->Prop)->Prop:=xX
def dD(to f g:DE):DS:=λD σ h=>g σ h λd e=>to σ e λx c=>f σ c λy b=>CK x y d b λa=>D.nx σ a
def MO{st:Stmt}{to a b:DE}(h:PS X st (qg (LE b) (Iu (LE to) (LE a) Cb))):PS X st (LS (dD to a b)):=by unfold dD CK;show M3 h
end
section
variable {st:ag}{K:DK}{i j:Int}{b c:Bool}{xs ys:List D}{d e:D}{n:Nat}
def c_(k:K (.int (i+j)) st):cW (.int i) (.int j) st K:=by unfold cW;show k
def sr(h:xs.length+ys.length<=sizeLine)(k:K (.tup (xs++ys)) st):cW (.tup xs) (.tup ys) st K:=by unfold cW;show⟨h,k⟩
def Ow(h:xs.length+ys.length<=sizeLine)(k:K (.lst (xs++ys)) st):cW (.lst xs) (.lst ys) st K:=by unfold cW;show⟨h,k⟩
def gX(k:K (.int (i-j)) st):jr (.int i) (.int j) st K:=by unfold jr;show⟨trivial,k⟩
def cR(h:IntMulOk i j)(k:K (.int (i*j)) st):cP (.int i) (.int j) st K:=by unfold cP;show⟨h,k⟩
def Qc(h: -(2^63)<=i/\i<2^63/\xs.length*i.toNat<=sizeLine)(k:K (.lst (List.replicate i.toNat xs).flatten) st):cP (.lst xs) (.int i) st K:=by unfold cP;show⟨h,k⟩
def PQ(h: -(2^63)<=i/\i<2^63/\xs.length*i.toNat<=sizeLine)(k:K (.tup (List.replicate i.toNat xs).flatten) st):cP (.tup xs) (.int i) st K:=by unfold cP;show⟨h,k⟩
def pW(a:j≠0)(h:j.natAbs.log2<9000)(k:K (.int (i.fdiv j)) st):mn (.int i) (.int j) st K:=by unfold mn;show⟨⟨a,h⟩,k⟩
def qC(a:j≠0)(k:K (.int (i.fmod j)) st):mJ (.int i) (.int j) st K:=by unfold mJ;show⟨a,k⟩
def Rp(h:Ml i j)(k:K (.int (i^j.toNat)) st):CN (.int i) (.int j) st K:=by unfold CN;show⟨h,k⟩
def CD(k:K (.bl (decide (i<j))) st):sH (.int i) (.int j) st K:=by unfold sH;show⟨trivial,k⟩
def yo(k:K (.bl (decide (i<=j))) st):yZ (.int i) (.int j) st K:=by unfold yZ;show⟨trivial,k⟩
def Cg(k:K (.bl (decide (j<i))) st):ue (.int i) (.int j) st K:=by unfold ue;show⟨trivial,k⟩
def Og(k:K (.bl (decide (j<=i))) st):F1 (.int i) (.int j) st K:=by unfold F1;show⟨trivial,k⟩
def Ou(k:K (.bl (!decide (i=j))) st):nj (.int i) (.int j) st K:=by unfold nj;show k
def o7(h:live st d=true)(k:K (.bl (Gz d)) st):zj d .av st K:=by unfold zj;show⟨h,k⟩
def yG(f:pl 40 d=true)(a:pl 40 e=true)(k:K (.bl (cO d e)) st):i8 d e st K:=by unfold i8;show⟨f,a,k⟩
def FT(a b:Int):(a==b)=decide (a=b):=by
 by_cases h:a=b
 . subst h;simp
 simp[h]
def yj(k:K (.bl (decide (i=j))) st):i8 (.int i) (.int j) st K:=by
 show yG rfl rfl ?_;let:cO (.int i) (.int j)=decide (i=j):=by unfold cO;show FT i j
 rw[this];show k
def jb(k:K (.int (-i)) st):jd (.int i) st K:=by unfold jd;show k
def Mp(h:items? st d=some xs)(a:eF xs i=some e)(k:K e st):sP d (.int i) st K:=by
 cases d<;>unfold items? at h<;>first
  |(cases h;done)
  |(cases h;simp![sP,a];show k)
  |(simp only at h
    split at h
    . rename_i q;cases h;simp![sP,q,a];show k
    cases h)
def aB(h:items? st d=some xs)(a:eF xs i=some e)(k:K e st):aN d (.int i) st K:=by unfold aN;show Mp h a k
def cJ(h:items? st d=some xs)(k:K (.int xs.length) st):dO [d] st K:=by
 unfold dO Cc;split
 . rename_i z;cases z;cases h
 . rename_i z;cases z;rw[h];show k
 rename_i f a;show absurd rfl (a d)
def OJ(i:Int):(if i<0 then-i else i)=((i.natAbs:Nat):Int):=by split<;>lia
def yJ(k:K (.int ((i.natAbs:Nat):Int)) st):uN [.int i] st K:=by unfold uN;change K (.int (if i<0 then-i else i)) st;rw[OJ];show k
def J5(k:K (.int (if j>i then j else i)) st):zY [.int i,.int j] st K:=by unfold zY;show k
def Lp(k:K (.int (if j<i then j else i)) st):AG [.int i,.int j] st K:=by unfold AG;show k
def OG(k:K (.int (if b then 1 else 0)) st):Dv [.bl b] st K:=by unfold Dv;show k
def cL(h:items? st d=some xs)(k:K (.tup xs) st):cY [d] st K:=by unfold cY vV;simp![h];show k
def v7(h:items? st d=some xs)(k:K (.lst xs) st):qX [d] st K:=by unfold qX yy;simp![h];show k
def xV(h:items? st d=some xs)(k:K (.ref st.length) (st++[.lst xs])):ql [d] st K:=by unfold ql v9;simp![h];show k
def Tp{bs:List Bool}(h:oR xs=some bs)(k:K (.bl (bs.all id)) st):Et [.lst xs] st K:=by unfold Et Cr;simp![h];show k
def qF{t c:String}(h:k7 st d=some t)(a:c∈pV)(k:K (.bl (xF t c)) st):rL [d,.ty c] st K:=by unfold rL Cy;simp![h];show⟨a,k⟩
def zl{K:List D->(ag->Prop)->ag->Prop}(h:items? st d=some xs)(k:∀ok:ag->Prop,ok st->K xs ok st):u3 d st K:=by
 unfold u3 D6
 cases d<;>unfold items? at h<;>first
  |(cases h;done)
  |(cases h;show k _ trivial)
  |(simp only at h
    split at h
    . rename_i q;cases h;simp![q];show k _ q
    cases h)
def Gs{K:List D->(ag->Prop)->ag->Prop}(k:K xs (λ_=>True) st):u3 (.lst xs) st K:=by unfold u3;show k
def jV{K:List D->(ag->Prop)->ag->Prop}(k:K xs (λ_=>True) st):u3 (.tup xs) st K:=by unfold u3;show k
def jT{K:List D->(ag->Prop)->ag->Prop}(h: -(2^62)<=j/\j<2^62)(k:K (fg 0 j.toNat) (λ_=>True) st):Cj [.int j] st K:=by unfold Cj;show⟨h,k⟩
def FU{K:List D->(ag->Prop)->ag->Prop}(h: -(2^62)<=i/\i<2^62/\ -(2^62)<=j/\j<2^62)(k:K (fg i (j-i).toNat) (λ_=>True) st):Cp [.int i,.int j] st K:=by unfold Cp;show⟨h,k⟩
def fE{K:ag->Prop}(h:st[n]?=some (.lst xs))(e:kE xs.length i=some m)(k:K (st.set n (.lst (xs.set m d)))):CK (.ref n) (.int i) d st K:=by unfold CK xX;simp![h,e];show k
end
def IS(K:PySem.W.Frag):Bool:=K.all λp=>p.2.cls != .type "list"
def xa:∀ {l:List (Addr×Obj)},l.lookup a=some o->(a,o)∈l
 | [],h=>by cases h
 |(b,u)::r,h=>by
  rw[Yy]at h;split at h
  . rename_i z;cases h;let:a=b:=by simpa using z
    subst this;show XX
  show XN _ (xa h)
def BQ{K:PySem.W.Frag}(h:IS K=true){o:Obj}(e:K.lookup a=some o):o.cls≠ .type "list":=by
 let:=Yu.mp h (a,o) (xa e);simpa using this
def Bw:∀ns:List Int,aM α G (ns.map D.int) (ns.map V.int)
 | []=>by unfold aM;rfl
 |n::ns=>by
  rw[Yg,Yg];unfold aM;show⟨_,_,rfl,by unfold Rep;rfl,Bw ns⟩
def notStar:Expr->Bool
 | .Starred .. =>false
 |_=>true
def dk{e:Expr}(h:notStar e=true):starEach (e::a) env=(false,eval e env)::starEach a env:=by
 cases e<;>first|rfl|cases h
def ip:List Expr->Bool
 | []=>true
 |e::es=>notStar e&&ip es
def mr:∀ {a:List Expr},ip a=true->(backTo pos (starEach a env)).any (·.1)=false
 | [],_=>rfl
 |e::a,h=>by
  unfold ip at h;rw[Ym]at h;rw[dk h.1];let b:=mr (pos:=pos) (env:=env) h.2;unfold backTo at b⊢;rw[Yg,List.any_cons,b];rfl
def qr:Expr->Bool
 | .Slice .. =>false
 |_=>true
def uT:Expr->Bool
 | .Name .. =>true
 | .Call .. =>true
 | .Subscript .. =>true
 | .Attribute .. =>true
 |_=>false
def n_:Expr->Bool
 | .ListComp .. =>false
 | .SetComp .. =>false
 | .DictComp .. =>false
 |_=>true
section
variable {X:Cx}
def MG(h:qr b=true):vZ b:=by
 intro o i;cases b<;>first|rfl|cases h
def GO{e:Expr}(h:uT e=true):∀whole,isTrue e X.env whole=(do let v <-whole;standAt e.pos;holding [v] (truthy v)):=by
 intro whole;cases e<;>first|(cases h;done)|rfl
def Ay{e:Expr}(h:n_ e=true):swapsWith e a n env=pure false:=by
 cases e<;>first|(cases h;done)|rfl
def M5{e:Expr}{tr:DA}(f:PE X e (LE a))(d:PA X b (LA tr))(c:notStar e=true:=by rfl):PA X (e::b) (LA (ae a tr)):=zX f d (dk c)
def TM{e:Expr}{c:List Expr}{pos p:Pos}{x:Str}{id:String}{r:gu}{t:DA}(j:cA X (.builtin id) (iE r))(k:PA X (e::c) (LA t))(h:X.mg x=none)(d:bootBuiltins x=some (.builtin id))(g:x≠"__name__")(b:(x==("__debug__":Str))=false)(i:Gl X x:=by rfl)(f:notStar e=true:=by rfl)(a:ip c=true:=by rfl):
 PE X (.Call (.Name x p) (e::c) [] pos) (LE (bS r t)):=WM j k h d i g b (dk f) (mr a)
def Vf{e:Expr}{c:List Expr}{pos p:Pos}{x:Str}{T:String}{r:gu}{t:DA}(j:cA X (.type T) (iE r))(k:PA X (e::c) (LA t))(h:X.mg x=none)(d:bootBuiltins x=some (.type T))(g:x≠"__name__")(b:(x==("__debug__":Str))=false)(i:Gl X x:=by rfl)(f:notStar e=true:=by rfl)(a:ip c=true:=by rfl):
 PE X (.Call (.Name x p) (e::c) [] pos) (LE (bS r t)):=Wl j k h d i g b (dk f) (mr a)
def UA{e:Expr}{d:List Expr}{pos p:Pos}{x a:Str}{st:Stmt}{g:List Str}{f:Addr}{fd:FuncData}{k:Nat}{S:cf}{t:DA}(A:oB X.K X.mg x a st g f fd)(F:cV X.prog X.w X.K X.mg X.base eN k f fd g (fm S))(i:dv k X.A)
 (l:PA X (e::d) (LA t)) (c:(x==("__debug__":Str))=false) (j:Gl X x:=by rfl) (h:notStar e=true:=by rfl) (b:ip d=true:=by rfl):
 PE X (.Call (.Name x p) (e::d) [] pos) (LE (aA S t)):=Wy A F i l j c (dk h) (mr b)
def UT(g:PE X a (LE d))(f:PE X b (LE c))(e:qr b=true:=by rfl):PE X (.Subscript a b pos) (LE (ak aN d c)):=WR g f (MG e)
def PX{e:Expr}(b:PE X e (LE a))(h:uT e=true:=by rfl):PT X e (LT (aQ a)):=R6 b (GO h)
def M0{e:Expr}(b:PE X e (LE a))(h:n_ e=true:=by rfl):PS X (.Expr e pos) (LS (fz a)):=OI b (Ay h)
def OQ{i:Nat}{x:Str}{e:Expr}{b:TE}{pos a:Pos}(j:X.N.Nodup)(d:X.N[i]?=some x)(c:Loc X.env.scope x)(g:PE X e b)(f:X.fn x=true\/X.env.scope.names.lookup x=some .local:=by first|show .inl rfl|show .inr rfl)(h:n_ e=true:=by rfl):
 PS X (.Assign [.Name x a] e pos) (qg b (h_ i)):=Th j d c g (Ay h) f
def PL(c:(x==("__debug__":Str))=false)(a:(x==("__classdict__":Str))=false)(b:CY X.env.scope x)(d:X.N[i]?=some x:=by rfl):PE X (.Name x pos) (LE (aa i)):=TR (Ru d b c a)
def Rg{o i e:Expr}{to b c:TE}{pos a:Pos}(g:PE X e c)(d:PE X o to)(f:PE X i b)(j:n_ e=true:=by rfl)(h:qr i=true:=by rfl):PS X (.Assign [.Subscript o i a] e pos) (qg c (Iu to b Cb)):=
 Kb g (QA d f set_list (by intro v;cases i<;>first|rfl|cases h)) (by unfold swapsWithSole;show Ay j) (by cases e<;>rfl) rfl
end
@[irreducible] def JE(X:Cx)(e:Expr)(t:DE):Prop:=PE X e (LE t)
@[irreducible] def JT(X:Cx)(e:Expr)(t:DT):Prop:=PT X e (LT t)
@[irreducible] def JW(X:Cx)(e:Expr)(t:DT):Prop:=PW X e (LT t)
@[irreducible] def JA(X:Cx)(a:List Expr)(t:DA):Prop:=PA X a (LA t)
@[irreducible] def JS(X:Cx)(s:Stmt)(t:DS):Prop:=PS X s (LS t)
@[irreducible] def JB(X:Cx)(s:List Stmt)(t:DS):Prop:=jo X s (LS t)
@[irreducible] def JG(X:Cx)(e:Expr)(t:fM):Prop:=PG X e (LG t)
@[irreducible] def JI(X:Cx)(a e:Expr)(t:DI):Prop:=PI X a e (LI t)
@[irreducible] def JC(X:Cx)(a:List Expr)(t:DT):Prop:=vp X a (LT t)
section
variable {X:Cx}{a b c e o i:Expr}{es:List Expr}{ta tb tc te to ti:DE}{t u:DT}{ar:DA}{pos p pos':Pos}{s:Stmt}{ss:List Stmt}{T U:DS}
def K6(g:(x==("__debug__":Str))=false)(d:(x==("__classdict__":Str))=false)(f:CY X.env.scope x)(h:X.N[n]?=some x:=by rfl):JE X (.Name x pos) (aa n):=by unfold JE;show PL g d f h
def uG{T:String}(h:X.mg x=none)(f:bootBuiltins x=some (.type T))(g:x≠"__name__")(d:(x==("__debug__":Str))=false)(j:Gl X x):JE X (.Name x pos) (dC (.ty T)):=by unfold JE;show WK h f j g d
def bY{k:Int}:JE X (.Constant (.int k) j pos) (dC (.int k)):=by unfold JE;show UZ
def Ex{k:Bool}:JE X (.Constant (.bool k) j pos) (dC (.bl k)):=by unfold JE;show Ww
def nk{k:Str}:JE X (.Constant (.str k) j pos) (dC (.str k)):=by unfold JE;show T7
def mh:JE X (.Constant .none j pos) (dC .av):=by unfold JE;show Ux
def dS(d:cu X (binaryOp op) (LR r))(g:JE X a ta)(f:JE X b tb):JE X (.BinOp a op b pos) (ak r ta tb):=by unfold JE at*;show Wr d g f
def nQ(d:JE X a ta):JE X (.UnaryOp .USub a pos) (nU jd ta):=by unfold JE at*;show WI Uo d
def CA(d:JE X a ta):JE X (.UnaryOp .Not a pos) (zc (aQ ta)):=by unfold JE at*;show Vj d
def B8(d:JE X a ta):JE X (.BoolOp op [a] pos) ta:=by unfold JE at*;show Uk d
def He(f:JE X a ta)(d:JE X (.BoolOp .And (b::es) pos) tb):JE X (.BoolOp .And (a::b::es) pos) (qS ta tb):=by unfold JE at*;show TX f d
def WN(f:JE X a ta)(d:JE X (.BoolOp .Or (b::es) pos) tb):JE X (.BoolOp .Or (a::b::es) pos) (MN ta tb):=by unfold JE at*;show Wj f d
def sT(d:cu X (compareOp op) (LR r))(f:behindInMarks op b=false)(h:JE X a ta)(g:JE X b tb):JE X (.Compare a [op] [b] pos) (ak r ta tb):=by unfold JE at*;show Ua d h g f
def Gx{r g:dG}(h:cu X (compareOp op) (LR r))(f:cu X (compareOp d) (LR g))(m:JE X a ta)(l:JE X b tb)(k:JE X c tc)(j:lastMarks [op,d] [b,c]=false:=by with_unfolding_all rfl):JE X (.Compare a [op,d] [b,c] pos) (oV r g ta tb tc):=by unfold JE at*;show PD h f m l k j
def IG(d:JT X c t)(g:JE X a ta)(f:JE X b tb):JE X (.IfExp c a b pos) (JZ t ta tb):=by unfold JE at*;unfold JT at d;show U_ d g f
def gj(h:JA X es ar):JE X (.Tuple es n pos) (df ar):=by unfold JE;unfold JA at h;show TK h
def Cf(h:JA X es ar):JE X (.List es pos) (Av ar):=by unfold JE;unfold JA at h;show UQ h
def CC(h:JA X es ar):JE X (.List es pos) (Af ar):=by unfold JE;unfold JA at h;show Vh h
def ax:JA X [] ai:=by unfold JA;show DW
def af(d:JE X e te)(g:JA X es ar)(f:notStar e=true:=by rfl):JA X (e::es) (ae te ar):=by unfold JA at*;unfold JE at d;show M5 d g f
def cn(g:JE X a ta)(f:JE X b tb)(d:qr b=true:=by rfl):JE X (.Subscript a b pos) (ak aN ta tb):=by unfold JE at*;show UT g f d
def dZ{x:Str}{id:String}{r:gu}(n:cA X (.builtin id) (iE r))(g:JA X (e::es) ar)(l:X.mg x=none)(h:bootBuiltins x=some (.builtin id))(k:x≠"__name__")(f:(x==("__debug__":Str))=false)(m:Gl X x)(j:notStar e=true:=by rfl)(d:ip es=true:=by rfl):JE X (.Call (.Name x p) (e::es) [] pos) (bS r ar):=by
 unfold JE;unfold JA at g;show TM n g l h k f m j d
def j6{T:String}(n:cA X (.type T) (iE r))(g:JA X (e::es) ar)(l:X.mg x=none)(h:bootBuiltins x=some (.type T))(k:x≠"__name__")(f:(x==("__debug__":Str))=false)(m:Gl X x)(j:notStar e=true:=by rfl)(d:ip es=true:=by rfl):JE X (.Call (.Name x p) (e::es) [] pos) (bS r ar):=by
 unfold JE;unfold JA at g;show Vf n g l h k f m j d
def ck{x d:Str}{st:Stmt}{j:List Str}{f:Addr}{fd:FuncData}{k:Nat}{S:cf}(A:oB X.K X.mg x d st j f fd)(F:cV X.prog X.w X.K X.mg X.base eN k f fd j (fm S))(n:dv k X.A)(l:JA X (e::es) ar)(h:(x==("__debug__":Str))=false)(q:Gl X x)(m:notStar e=true:=by rfl)(g:ip es=true:=by rfl):
 JE X (.Call (.Name x p) (e::es) [] pos) (aA S ar):=by unfold JE;unfold JA at l;show UA A F n l h q m g
def M_{f d:Pos}(k:JE X o to)(l:JE X e te)(h:attributeBase o "append" X.env (eval o X.env)=eval o X.env:=by rfl)(g:(f.endLine==d.line)=true:=by rfl)(j:notStar e=true:=by rfl):JE X (.Call (.Attribute o "append" f) [e] [] d) (sN to te):=by
 unfold JE at*;show MK k l h ?_ g (dk j) rfl;rw[dk j];rfl
def eP(d:cu X (compareOp op) (LR r))(f:behindInMarks op b=false)(h:JE X a ta)(g:JE X b tb):JT X (.Compare a [op] [b] pos) (aQ (ak r ta tb)):=by unfold JE at*;unfold JT;show SH d h g f
def M9{r g:dG}(h:cu X (compareOp op) (LR r))(f:cu X (compareOp d) (LR g))(m:JE X a ta)(l:JE X b tb)(k:JE X c tc)(j:lastMarks [op,d] [b,c]=false:=by with_unfolding_all rfl):JT X (.Compare a [op,d] [b,c] pos) (aQ (oV r g ta tb tc)):=by unfold JE at*;unfold JT;show MU h f m l k j
def K2(d:JT X a t):JT X (.UnaryOp .Not a pos) (i3 t):=by unfold JT at*;show QY d
def oH(d:JE X e te)(h:uT e=true:=by rfl):JT X e (aQ te):=by unfold JT;unfold JE at d;show PX d h
def v8(d:JT X a t):JW X (.BoolOp .And [a] pos) t:=by unfold JW;unfold JT at d;show PC d
def QT(d:JT X a t):JW X (.BoolOp .Or [a] pos) t:=by unfold JW;unfold JT at d;show Sq d
def zh(d:JT X a t)(f:JW X (.BoolOp .And (b::es) pos) u):JW X (.BoolOp .And (a::b::es) pos) (rm t u):=by unfold JW at*;unfold JT at d;show Tx d f
def UX(d:JT X a t)(f:JW X (.BoolOp .Or (b::es) pos) u):JW X (.BoolOp .Or (a::b::es) pos) (va t u):=by unfold JW at*;unfold JT at d;show Vc d f
def Ck(h:JW X e t):JT X e t:=by unfold JT;unfold JW at h;show PW.pt h
def oE(d:JE X l ta):JI X f l (fU ta):=by unfold JI;unfold JE at d;show Q1 d
def ow(j:Gl X "range")(h:X.mg "range"=none)(d:JA X [a] ar)(g:notStar a=true:=by rfl):JI X f (.Call (.Name "range" p) [a] [] pos) (gO ar):=by unfold JI;unfold JA at d;show KO (LB j h d (dk g))
def CW{g:Expr}(k:Gl X "range")(j:X.mg "range"=none)(f:JA X [a,b] ar)(h:notStar a=true:=by rfl)(d:notStar b=true:=by rfl):JI X g (.Call (.Name "range" p) [a,b] [] pos) (si ar):=by unfold JI;unfold JA at f;show Ju (JX k j f (by rw[dk h,dk d];rfl) (dk d))
def kU{k:Nat}(h:X.N.Nodup)(d:Loc X.env.scope x:=by first|show Or.inl rfl|show Or.inr rfl)(g:X.fn x=true\/X.env.scope.names.lookup x=some .local:=by first|show .inl rfl|show .inr rfl)(f:X.N[k]?=some x:=by rfl):JG X (.Name x pos) (cM k):=by unfold JG;show PN (ji h f d g)
def yW{k j n:Nat}{x y:Str}{g f:Pos}(w:X.calm=true)(d:X.N.Nodup)(l:Loc X.env.scope x:=by first|show Or.inl rfl|show Or.inr rfl)(v:X.fn x=true\/X.env.scope.names.lookup x=some .local:=by first|show .inl rfl|show .inr rfl)(h:Loc X.env.scope y:=by first|show Or.inl rfl|show Or.inr rfl)(r:X.fn y=true\/X.env.scope.names.lookup y=some .local:=by first|show .inl rfl|show .inr rfl)(q:X.N[k]?=some x:=by rfl)(m:X.N[j]?=some y:=by rfl):
 JG X (.Tuple [.Name x g,.Name y f] n pos) (gN k j):=by unfold JG;show SS (Eo w (iN (ji d q l v) (iN (ji d m h r) Am)))
def ir:JC X [] cT:=by unfold JC;show Mu
def Sd(h:JT X c t):JC X [c] t:=by unfold JC;unfold JT at h;show R_ h
def oS{j k d:Expr}{g:DI}(S:dz X scope Nc fr)(r:JI X k d g)(v:∀C s H ex,JG (d8 X scope Nc C s H ex) k f)(n:∀C s H ex,JC (d8 X scope Nc C s H ex) h t)(w:∀C s H ex,JE (d8 X scope Nc C s H ex) j te)(l:qZ fr f)
 (m:X.xe=λ_ _=>False:=by rfl) (y:X.calm=true:=by rfl) (q:∀x,foldedSetIterable d X.env x=pure x:=by intro _;rfl):JE X (.ListComp j [⟨k,d,h,0⟩] scope pos) (dW g fr f t te):=by
 unfold JE JI JG JC at*;show Q0 S r v n w l m y q
def Ab{j k d:Expr}{g:DI}(S:dz X scope Nc fr)(r:JI X k d g)(v:∀C s H ex,JG (d8 X scope Nc C s H ex) k f)(n:∀C s H ex,JC (d8 X scope Nc C s H ex) h t)(w:∀C s H ex,JE (d8 X scope Nc C s H ex) j te)(l:qZ fr f)
 (m:X.xe=λ_ _=>False:=by rfl) (y:X.calm=true:=by rfl) (q:∀x,foldedSetIterable d X.env x=pure x:=by intro _;rfl):JE X (.ListComp j [⟨k,d,h,0⟩] scope pos) (oX g fr f t te):=by
 unfold JE JI JG JC at*;show Qm S r v n w l m y q
def fw:JB X [] cF:=by unfold JB;show OV
def aV(h:JS X s T):JB X [s] T:=by unfold JB;unfold JS at h;show Pe h
def ay(h:JS X s T)(d:JB X ss U):JB X (s::ss) (aw T U):=by unfold JB at*;unfold JS at h;show M7 h d
def cG(h:JE X e te):JS X (.Return (some e) pos) (aX te):=by unfold JS;unfold JE at h;show SG h
def iq(h:JE X e te)(d:n_ e=true:=by rfl):JS X (.Expr e pos) (fz te):=by unfold JS;unfold JE at h;show M0 h d
def gm(d:JT X c t)(g:JB X x T)(f:JB X y U):JS X (.If c x y pos) (cK t T U):=by unfold JS;unfold JB at*;unfold JT at d;show UM d g f
def qD(d:JT X c t)(f:JB X x T)(g:X.xe=λ_ _=>False:=by rfl):JS X (.While c x [] pos) (nq t T):=by unfold JS;unfold JB at f;unfold JT at d;show Mw (Nb (by rw[g];show PassesOwn.never) d f)
def oZ{g:fM}(j:JI X h d f)(k:JG X h g)(l:JB X x T)(m:X.xe=λ_ _=>False:=by rfl)(q:X.calm=true:=by rfl)(n:∀x,foldedSetIterable d X.env x=pure x:=by intro _;rfl):JS X (.For h d x [] pos) (j5 f g T):=by
 unfold JS;unfold JI at j;unfold JG at k;unfold JB at l;show Rv (RO (by rw[m];show PassesOwn.never) q j k l n)
def bQ{k:Nat}(l:X.N.Nodup)(f:Loc X.env.scope x)(d:JE X e te)(j:X.fn x=true\/X.env.scope.names.lookup x=some .local:=by first|show .inl rfl|show .inr rfl)(h:n_ e=true:=by rfl)(g:X.N[k]?=some x:=by rfl):JS X (.Assign [.Name x pos'] e pos) (aK k te):=by
 unfold JS;unfold JE at d;show Q2 (OQ l g f d j h)
def Qw{g l d:Expr}{k:Nat}(F:X.N.Nodup)(y:Loc X.env.scope x)(S:dz X scope Nc fr)(z:JI X l d j)(A:∀C s H ex,JG (d8 X scope Nc C s H ex) l h)(v:∀C s H ex,JC (d8 X scope Nc C s H ex) f t)(D:∀C s H ex,JE (d8 X scope Nc C s H ex) g te)(q:qZ fr h)
 (B:X.fn x=true\/X.env.scope.names.lookup x=some .local:=by first|show .inl rfl|show .inr rfl) (m:swapsWith (.ListComp g [⟨l,d,f,0⟩] scope p) (some (.Name x pos')) pos.line X.env=pure true:=by rfl) (n:X.N[k]?=some x:=by rfl) (r:X.xe=λ_ _=>False:=by rfl) (E:X.calm=true:=by rfl) (w:∀x,foldedSetIterable d X.env x=pure x:=by intro _;rfl):
 JS X (.Assign [.Name x pos'] (.ListComp g [⟨l,d,f,0⟩] scope p) pos) (aK k (dW j fr h t te)):=by
 unfold JS;unfold JE JI JG JC at*;show OB q (F5 r E S z A v D F n y B m w)
def Ng{g l d:Expr}{k:Nat}(F:X.N.Nodup)(y:Loc X.env.scope x)(S:dz X scope Nc fr)(z:JI X l d j)(A:∀C s H ex,JG (d8 X scope Nc C s H ex) l h)(v:∀C s H ex,JC (d8 X scope Nc C s H ex) f t)(D:∀C s H ex,JE (d8 X scope Nc C s H ex) g te)(q:qZ fr h)
 (B:X.fn x=true\/X.env.scope.names.lookup x=some .local:=by first|show .inl rfl|show .inr rfl) (m:swapsWith (.ListComp g [⟨l,d,f,0⟩] scope p) (some (.Name x pos')) pos.line X.env=pure true:=by rfl) (n:X.N[k]?=some x:=by rfl) (r:X.xe=λ_ _=>False:=by rfl) (E:X.calm=true:=by rfl) (w:∀x,foldedSetIterable d X.env x=pure x:=by intro _;rfl):
 JS X (.Assign [.Name x pos'] (.ListComp g [⟨l,d,f,0⟩] scope p) pos) (aK k (oX j fr h t te)):=by
 unfold JS;unfold JE JI JG JC at*;show Nk q (F5 r E S z A v D F n y B m w)
def fQ(g:JE X e te)(d:JE X o to)(f:JE X i ti)(j:n_ e=true:=by rfl)(h:qr i=true:=by rfl):JS X (.Assign [.Subscript o i pos'] e pos) (dD to ti te):=by unfold JS;unfold JE at*;show MO (Rg g d f j h)
def Rx{k:Nat}{f:Int->Int->Int}(m:X.N.Nodup)(g:Loc X.env.scope x)(d:JE X e te)(h:Gh X op (I_ f))(l:X.fn x=true\/X.env.scope.names.lookup x=some .local:=by first|show .inl rfl|show .inr rfl)(j:X.N[k]?=some x:=by rfl):JS X (.AugAssign (.Name x pos') op e pos) (GY k (DQ f) te):=by
 unfold JS;unfold JE at d;show SD (TH m j g d h l)
def Rz{k j h l:Nat}{g f pt d:Pos}(C:X.N.Nodup)(m:k≠j)(r:X.env.scope.names.lookup x=some .local)(q:X.env.scope.names.lookup y=some .local)(n:JA X [a,b] ar)
 (v:swappedStores [.Tuple [.Name x g,.Name y f] h pt] (.Tuple [a,b] l d) X.env=pure (some [x,y]):=by rfl) (B:X.calm=true:=by rfl) (A:X.N[k]?=some x:=by rfl) (z:X.N[j]?=some y:=by rfl) (w:swapsWithSole [.Tuple [.Name x g,.Name y f] h pt] (.Tuple [a,b] l d) pos.line X.env=pure false:=by rfl):
 JS X (.Assign [.Tuple [.Name x g,.Name y f] h pt] (.Tuple [a,b] l d) pos) (Ia k j ar):=by unfold JS;unfold JA at n;show QL (RJ B C A z m r q n v w)
def Kw(h:JE X e te)(g:JG X d f)(k:swapsWithSole [d] e pos.line X.env=pure false:=by rfl)(j:swappedStores [d] e X.env=pure none:=by rfl)(l:(assignEach [d] X.env).map (·.2)=[assign d X.env]:=by rfl):JS X (.Assign [d] e pos) (GU f te):=by
 unfold JS;unfold JE at h;unfold JG at g;show Rj (Kb h g k j l)
end
def fy{P:Program}{w:World}{K:PySem.W.Frag}{j:Str->Option Value}{c:Heap}{x a:Str}{st:Stmt}{f:Addr}{fd:FuncData}{N g:List Str}{k:Nat}{sp:cf}{t:DS}(F:oU K x a st f fd)(S:ou N g (bO st))
 (b:∀(d:Value) (A:Around) (outer:List Env) (s:Shared) (H:Hp) (E:XK),dv k (A.deeper (envOfC a (bO st) s.heap.objs.size f d))->JB (rQ eN P w K j c N a (bO st) f d A outer s H E).wG (iu st) t)
 (h:∀i st K,sp i st K->i.length=g.length/\t {nx:=λ_ e=>K .av e,rt:=K} (aL N i) st):cV P w K j c eN (k+1) f fd g (fm sp):=by
 unfold JB at b;show Va F S b h
end L3
namespace HT
open PySem PyProof.Rows
section
variable {prog:Program}{w:World}{A:Around}{E:Value->Shared->Prop}{s:Shared}
def ux{t e:Addr}{items:Array Value}{k j:Value}(c:IsTup s.heap t items)(m:s.heap.IsSliceOf e k j .none)(pl:IsPart k a)(n:IsPart j d)
 (l:cN items.size 0 a=0/\cN items.size items.size d=items.size) (h:Q (.ref t) s):wpAny (model prog w) A (getItem (.ref t) (.ref e)) Q E s:=by
 obtain⟨o,f,g,p⟩:=id m;let i:s.TypeIs (.ref e) "slice":=⟨o,f,g⟩
 unfold getItem;try with_reducible show Zx ?_
 first|show Xw (XM ?_)|skip
 show Xw (wpAny_sequenceKey c.typeIs ⋯ ?_)
 show Xw (YT (name:=Str.ofString "__getitem__") c.typeIs YJ
  (Zl YJ c.typeIs entry_tuple_getitem ?_ (args_tuple_getitem _ _)))
 change wpAny _ _ (Builtin.Tuple.tupleItemsOf (.ref t) >>= _) _ _ s;show Xw (tupleItemsOf_ c ?_);show Xw (wpAny_typeOf i ?_);rw[XB ⋯];show Xw (qA m pl n ?_)
 let b:(((cN items.size 0 a:Nat):Int)==0&&(1:Int)==1&&(cN items.size items.size d-cN items.size 0 a)==items.size)=true:=by
  rw[l.1,l.2];simp
 change wpAny _ _ (if(((cN items.size 0 a:Nat):Int)==0&&(1:Int)==1&&(cN items.size items.size d-cN items.size 0 a)==items.size)=true then _ else _) _ _ s;rw[XB b];show Xw ?_;unfold Builtin.Tuple.tupleIsExact;show Xw (wpAny_typeOf c.typeIs (XM (Xw (aaq (XM ⟨_,rfl,XM h⟩)))))
end
end HT
namespace L3
open PySem L2
open PySem.Spec hiding items?
open PyProof.Rows hiding St
abbrev DO:=cC->ag->(Option Int->ag->Prop)->Prop
def gh:DO:=λ_ a K=>K none a
def kg(t:DE):DO:=λσ b K=>t σ b λd a=>match d with| .int i=>K (some i) a|_=>False
def cutD(xs:List D)(a b:Option Int):List D:=(xs.drop (HT.cN xs.length 0 a)).take (HT.cN xs.length xs.length b-HT.cN xs.length 0 a)
def Eu(d:D)(b c:Option Int)(st:ag)(K:DK):Prop:=match d with
 | .lst a=>K (.lst (cutD a b c)) st
 | .tup a=>K (.tup (cutD a b c)) st
 | .ref n=>(match st[n]? with|some (.lst a)=>K (.lst (cutD a b c)) st|_=>False)
 |_=>False
@[irreducible] def kv:D->Option Int->Option Int->ag->DK->Prop:=Eu
def iI(t:DE)(f g:DO):DE:=λσ e K=>t σ e λd c=>f σ c λl b=>g σ b λu a=>kv d l u a K
def xj(r:aM α G xs vs):aM α G (cutD xs a b) (sU vs a b):=by
 unfold cutD sU;rw[<-r.length];show bI.mpr (wJ _ (wQ _ (bI.mp r)))
def Xn(α:List (Option Addr))(G F:Hp)(K:Option Int->ag->Prop)(Q:Option Int->Hp->Prop):Prop:=∀o a,K o a->∀c b d,Step α G c b->cU b F d->a8 c a b->Q o d
inductive VV(t:DO)(σ:L2.St)(H:Hp)(Q:Option Int->Hp->Prop):Prop
 |mk (α:List (Option Addr)) (σd:cC) (st:ag) (K:Option Int->ag->Prop) (G F:Hp) (P:cU G F H) (R:fA α G σd σ) (S:a8 α st G) (h:t σd st K) (k:Xn α G F K Q):VV t σ H Q
def LO(t:DO):TO:=VV t
section
variable {X:Cx}
def PO.imp{e:Option Expr}(h:PO X e t)(f:∀σ H Q,t' σ H Q->t σ H Q):PO X e t':=λa s σ H Q I q=>h a s σ H Q I (f σ H Q q)
def Pu:PO X none (LO gh):=PO.imp Ph λσ H Q ⟨α,b,a,K,G,F,P,R,S,t,k⟩=>k none a t α G H Step.refl P S
def OF{e:Expr}(h:PE X e (LE b)):PO X (some e) (LO (kg b)):=PO.imp (PJ h) λσ H Q ⟨α,f,i,K,G,F,P,R,S,t,k⟩=>by
 show⟨α,f,i,_,G,F,P,R,S,t,λd a q g n H1 v j m l c=>?_⟩;cases d<;>try show q.elim
 unfold Rep at c;show⟨_,c,k _ a q g n H1 j m l⟩
def Xh(x:V)(b c:Option Int)(H:Hp)(Q:VK):Prop:=∃α d a K G F,cU G F H/\Rep α G d x/\a8 α a G/\kv d b c a K/\LK α G F K Q
def Pw:Ka X (λx b c H Q=>∃a xs,x= .ref a/\H a=some (.tup xs)/\((HT.cN xs.length 0 b=0/\HT.cN xs.length xs.length c=xs.length)->Q (.ref a) H)/\(¬(HT.cN xs.length 0 b=0/\HT.cN xs.length xs.length c=xs.length)->∀p,H p=none->Q (.ref p) (upd H p (.tup (sU xs b c))))):=by
 intro d s σ H x v n m b c o Q I g l pl i h;obtain⟨a,xs,rfl,j,t,q⟩:=h;by_cases f:HT.cN xs.length 0 b=0/\HT.cN xs.length xs.length c=xs.length
 . cases g;obtain⟨u,r,k,w⟩:=I.tuple (kY.of j);let e:u.toArray.size=xs.length:=by rw[XG];show r.length.symm
   show⟨"tuple",_,YJ.lookup,k.typeIs,HT.ux k l pl i (by rw[e];show f) ⟨.ref a,H,I,rfl,t f⟩⟩
 show Rq d s σ H _ v n m b c o Q I g l pl i ⟨a,xs,rfl,.of j,f,q f⟩
def LD{xs:List D}(b:HT.cN xs.length 0 a=0/\HT.cN xs.length xs.length c=xs.length):cutD xs a c=xs:=by
 unfold cutD;rw[b.1,b.2];simp
def Rr:Ka X Xh:=by
 intro b s σ H x v j i t w l Q I m u pl r ⟨α,d,F,K,G,J,P,c,S,q,k⟩;unfold kv Eu at q;cases d<;>try show q.elim
 . rename_i n;simp only at q;split at q
   . rename_i A e;obtain⟨a,E,f,D,C⟩:=S.ia e;let o:=ee E c;subst o;show FD b s σ H _ v j i t w l Q I m u pl r ⟨a,f,rfl,.inl (.of (P.get D)),λp g=>k.lst P q S (xj C) g⟩
   show q.elim
 . unfold Rep at c;obtain⟨a,f,rfl,na,y,h⟩:=c;show FD b s σ H _ v j i t w l Q I m u pl r ⟨a,f,rfl,.inl (iV P y),λp g=>k.lst P q S (xj h) g⟩
 rename_i A;let B:=c;unfold Rep at c;obtain⟨a,f,rfl,na,y,h⟩:=c;show Pw b s σ H _ v j i t w l Q I m u pl r ⟨a,f,rfl,P.get y,λz=>?_,λ_ p g=>k.tup P q S (xj h) g⟩;rw[<-h.length]at z;simp only at q;rw[LD z]at q;show k.here P q S B
def OS{e:Expr}(D:PE X e (LE j))(B:PO X n (LO tl))(C:PO X o (LO i)):PE X (.Subscript e (.Slice n o none A) pos) (LE (iI j tl i)):=PE.imp (MC Rr D B C) λσ H Q ⟨α,a,w,K,G,F,P,R,S,t,k⟩=>by
 show⟨α,a,w,_,G,F,P,R,S,t,λd f q s T H1 v h M J x=>?_⟩;show⟨s,a,f,_,T,F,M,R.step h,J,q,λl c z r O V g L I=>?_⟩;show⟨r,a,c,_,O,F,L,(R.step h).step g,I,z,λu b y p N U m P3 E=>?_⟩;show⟨p,d,b,K,N,F,P3,(x.step g).step m,E,y,((k.at h).at g).at m⟩
@[irreducible] def JO(X:Cx)(e:Option Expr)(t:DO):Prop:=PO X e (LO t)
def k9:JO X none gh:=by unfold JO;show Pu
def k8{e:Expr}(h:JE X e a):JO X (some e) (kg a):=by unfold JO;unfold JE at h;show OF h
def jW{e:Expr}(i:JE X e b)(g:JO X c tl)(h:JO X d a):JE X (.Subscript e (.Slice c d none f) pos) (iI b tl a):=by unfold JE at*;unfold JO at*;show OS i g h
end
def A6{st:ag}{K:DK}{xs:List D}{a b:Option Int}(k:K (.lst (cutD xs a b)) st):kv (.lst xs) a b st K:=by unfold kv;show k
def mX{st:ag}{K:DK}{xs:List D}{a b:Option Int}(k:K (.tup (cutD xs a b)) st):kv (.tup xs) a b st K:=by unfold kv;show k
def K5{st:ag}{K:DK}{xs:List D}{a b:Option Int}{n:Nat}(h:st[n]?=some (.lst xs))(k:K (.lst (cutD xs a b)) st):kv (.ref n) a b st K:=by unfold kv Eu;simp![h];show k
section
variable {prog:Program}{w:World}{A:Around}{E:Value->Shared->Prop}{s:Shared}
def Ik(e:s.heap.IsTupleIter b a n)(h:s.heap.IsTuple a aq)(f:aq[n]?=some v)
 (q:∀g,g.IsTupleIter b a (n+1)->Heap.SameBut b s.heap g->Q v {s with heap:=g}):wpAny (model prog w) A (Builtin.SmallTypes.nextOf (.ref b)) Q E s:=by
 obtain⟨m,d,k,c⟩:=id e;obtain⟨l,i,_,o,j⟩:=h;unfold Builtin.SmallTypes.nextOf;show Xw (YT (name:=Str.ofString "__next__") e.typeIs Zy (Zl Zy e.typeIs aa4 ?_ (aaY _)));change wpAny _ _ (field (.ref b) 0 >>= _) _ _ s;show Xw (Y6 d c (x:= .ref a) rfl ?_);change wpAny _ _ (if(Value.ref a==Value.none)=true then _ else _) _ _ s;rw[Xx (show¬((Value.ref a==Value.none)=true)from YB)];change wpAny _ _ (field (.ref b) 1 >>= _) _ _ s;show Xw (Y6 d c (x:= .int n 0) rfl ?_);change wpAny _ _ (seqItems? (.ref a) >>= _) _ _ s;show Xw (aas i j ?_);simp![Yb,f];show Xw (wpAny_setField d c (by simp) (XM ⟨v,rfl,XM (q _ ?_ (Y0 ..))⟩));show⟨_,aaI _ d (Obj.isFreed_of_fields (Obj.data_mapFields c _)),(Obj.cls_mapFields ..).trans k,?_⟩;rw[Obj.data_mapFields c];simp[rawInt]
def KP(i:A.handled=none)(d:s.heap.IsTupleIter c b n)(k:s.heap.IsTuple b aq)(j:aq[n]?=none)
 (q:∀g e,Heap.ExtBut c s.heap g->(∃o,g.get? e=some o/\o.cls= .type "StopIteration")->E (.ref e) {s with heap:=g}):wpAny (model prog w) A (Builtin.SmallTypes.nextOf (.ref c)) Q E s:=by
 obtain⟨t,f,v,h⟩:=id d;obtain⟨r,l,_,u,p⟩:=k;unfold Builtin.SmallTypes.nextOf;show Xw (YT (name:=Str.ofString "__next__") d.typeIs Zy (Zl Zy d.typeIs aa4 ?_ (aaY _)));change wpAny _ _ (field (.ref c) 0 >>= _) _ _ s;show Xw (Y6 f h (x:= .ref b) rfl ?_);change wpAny _ _ (if(Value.ref b==Value.none)=true then _ else _) _ _ s;rw[Xx (show¬((Value.ref b==Value.none)=true)from YB)];change wpAny _ _ (field (.ref c) 1 >>= _) _ _ s;show Xw (Y6 f h (x:= .int n 0) rfl ?_);change wpAny _ _ (seqItems? (.ref b) >>= _) _ _ s;show Xw (aas l p ?_);simp![Yb,j];show Xw (aaq (Xw (wpAny_setField f h (by simp) ?_)));change wpAny _ _ (newExc (.type "StopIteration") [] >>= _) _ _ _;show Xw ?_;simp![newExc,newTuple];show Xw (Zg ?_ (by size_fits));show Xw (m:=firstArgMember _ _) (wpAny_of_eq (a:=Value.none) (by first|rfl|(simp![firstArgMember];rfl)) ?_);show Zg ?_ (by size_fits);simp![raiseNew];show Xw (wpAny_handled ?_);first|rw[show A.in1.handled=none from i]|rw[i]
 show Xw (XM (wpAny_throw ?_));show q _ _ (((Y0 ..).extBut.push _).push _) ⟨_,X5 _ rfl,rfl⟩
end
section
variable {st:ag}{K:DK}{i j:Int}{b c:Bool}{xs ys:List D}{d e:D}{n:Nat}
def eqT(h:i=j)(k:K (.bl true) st):i8 (.int i) (.int j) st K:=yj (by rw[X7 h];show k)
def Tv(h:i≠j)(k:K (.bl false) st):i8 (.int i) (.int j) st K:=yj (by rw[XW h];show k)
def eq2(f:i=j->K (.bl true) st)(a:i≠j->K (.bl false) st):i8 (.int i) (.int j) st K:=by
 by_cases h:i=j
 . show eqT h (f h)
 show Tv h (a h)
def neT(h:i≠j)(k:K (.bl true) st):nj (.int i) (.int j) st K:=Ou (by rw[XW h];show k)
def JJ(h:i=j)(k:K (.bl false) st):nj (.int i) (.int j) st K:=Ou (by rw[X7 h];show k)
def ne2(f:i≠j->K (.bl true) st)(a:i=j->K (.bl false) st):nj (.int i) (.int j) st K:=by
 by_cases h:i=j
 . show JJ h (a h)
 show neT h (f h)
def W0(h:i<j)(k:K (.bl true) st):sH (.int i) (.int j) st K:=CD (by rw[X7 h];show k)
def Xb(h:j<=i)(k:K (.bl false) st):sH (.int i) (.int j) st K:=CD (by rw[XW ()];show k)
def N_(f:i<j->K (.bl true) st)(a:j<=i->K (.bl false) st):sH (.int i) (.int j) st K:=by
 by_cases h:i<j
 . show W0 h (f h)
 show Xb () (a ())
def W3(h:j<i)(k:K (.bl true) st):ue (.int i) (.int j) st K:=Cg (by rw[X7 h];show k)
def W6(h:i<=j)(k:K (.bl false) st):ue (.int i) (.int j) st K:=Cg (by rw[XW ()];show k)
def Rb(f:j<i->K (.bl true) st)(a:i<=j->K (.bl false) st):ue (.int i) (.int j) st K:=by
 by_cases h:j<i
 . show W3 h (f h)
 show W6 () (a ())
def WU(h:xs.length<=1000)(k:P):xs.length<=sizeLine/\P:=⟨by rw[ZC];lia,k⟩
def cD(h:m<=1000):m<=sizeLine:=by rw[ZC];lia
def zI(a:0<=i)(e:xs[i.toNat]?=some d):eF xs i=some d:=by
 let:=fb e;rw[Int.toNat_of_nonneg a]at this;show this
def RX(a:0<=i)(h:i.toNat<m):kE m i=some i.toNat:=by
 unfold kE;let:i<(m:Int):=()
 simp[a,this]
end
def jS{e:fM}{E:nr}(I:List D->cC->ag->Prop)(d:∀σ st,I [] σ st->ok st/\E.nx σ st)
 (b:∀x xs σ st,I (x::xs) σ st->(∀f c,I xs f c->j7 e a ok E xs f c)->ok st/\∃g,e x σ=some g/\a {E with nx:=j7 e a ok E xs,ct:=j7 e a ok E xs,bk:=E.nx} g st):
 ∀xs σ st,I xs σ st->j7 e a ok E xs σ st
 | [],σ,st,h=>by unfold j7;show d σ st h
 |x::xs,σ,st,h=>by unfold j7;show b x xs σ st h λf c i=>jS I d b xs f c i
def gY{j:fM}{c:DT}{k:DE}{ok:ag->Prop}{i:cC}{K:List D->ag->Prop}(I:List D->List D->ag->Prop)(g:∀a st,I [] a st->ok st/\K a st)
 (e:∀x xs a st,I (x::xs) a st->(∀d f,I xs d f->eB j c k ok i xs d f K)->ok st/\∃m,j x i=some m/\c m st λb l=>if b=true then k m l λy n=>eB j c k ok i xs (a++[y]) n K else eB j c k ok i xs a l K):
 ∀xs a st,I xs a st->eB j c k ok i xs a st K
 | [],a,st,h=>by unfold eB;show g a st h
 |x::xs,a,st,h=>by unfold eB;show e x xs a st h λd f o=>gY I g e xs d f o
def comp_map{f:fM}{i:DE}{ok:ag->Prop}{d:cC}{st:ag}{K:List D->ag->Prop}{g:D->D}(m:ok st)(xs:List D)(p:∀x∈xs,∀n,n (g x) st->∃c,f x d=some c/\i c st n)(k:K (xs.map g) st):eB f cT i ok d xs [] st K:=by
 show gY (λr a b=>b=st/\(∀x∈r,x∈xs)/\a++r.map g=xs.map g) (λa b h=>?_) (λx r a b h next=>?_) xs [] st ⟨rfl,λ_ h=>h,rfl⟩
 . obtain⟨rfl,_,e⟩:=h;rw[List.map_nil,Zb]at e;rw[e];show⟨m,k⟩
 obtain⟨rfl,l,e⟩:=h;obtain⟨c,s,q⟩:=p x (l x XX) (λy j=>eB f cT i ok d r (a++[y]) j K) (next _ _ ⟨rfl,λz o=>l z (XN _ o),by rw[<-e];simp⟩);show⟨m,c,s,q⟩
def dJ{A B:DS}{E:nr}{σ:cC}{st:ag}(J:cC->ag->Prop)(h:∀nx,(∀b a,J b a->nx b a)->A {E with nx:=nx} σ st)(k:∀b a,J b a->B E b a):aw A B E σ st:=h (B E) k
def RB(n:Nat)(K:DK)(y:D)(a:ag):Prop:=∃b,[y]=[b]/\(match a[n]? with|some (.lst c)=>c.length<sizeLine/\K .av (a.set n (.lst (c++[b])))|_=>False)
def sf{n:Nat}{K:DK}{y:D}{st:ag}{xs:List D}(e:st[n]?=some (.lst xs))(h:xs.length<sizeLine)(k:K .av (st.set n (.lst (xs++[y])))):RB n K y st:=by
 show⟨y,rfl,?_⟩;simp![e];show⟨h,k⟩
@[irreducible] def jf(to a:DE):DE:=sN to a
def vo{σ:cC}{st:ag}{K:DK}{i n:Nat}{xs:List D}{a:DE}(b:σ[i]?=some (some (.ref n)))(e:st[n]?=some (.lst xs))(h:a σ st (RB n K)):jf (aa i) a σ st K:=by
 unfold jf sN aa;simp![b,e];show h
def qU{X:Cx}{o e:Expr}{b a:Pos}(h:JE X o to)(i:JE X e f)(d:attributeBase o "append" X.env (eval o X.env)=eval o X.env:=by rfl)(c:(b.endLine==a.line)=true:=by rfl)(g:notStar e=true:=by rfl):JE X (.Call (.Attribute o "append" b) [e] [] a) (jf to f):=by
 unfold jf;show M_ h i d c g
def NL{X:Cx}{pins:List (Addr×Obj)}{σ:L2.St}{H:Hp}{s:Shared}{g:Heap}{tk:Nat}{fp:List Addr}{T:Addr}{xs:List V}(I:Inv X pins σ H s)(i:∀b∈fp,oy X pins H b)
 (k:∀b o,b∉fp->s.heap.get? b=some o->g.get? b=some o) (j:s.heap.objs.size<=T) (new:eH X.prog X.w (upd H T (.tup xs)) g T (.tup xs)):Inv X pins σ (upd H T (.tup xs)) {s with heap:=g,toks:=tk}:=by
 let t:H T=none:=I.aO.fresh j;let d:∀b u,H b=some u->b∉fp:=λb u e z=>by rw[(i b z).1]at e;cases e
 let f:∀b u,H b=some u->b≠T:=λb u e=>eJ e t
 show I.step (g':=s.gens) (d':=s.drawn) (ch:=fp) (λb h=>?_) (λb o _ _ a e _=>k b o a e) (λb o _ _ a e _=>⟨o.slots,k b o a e⟩) (λb o _ e n=>?_) (λb o a e=>⟨o,k b o a e⟩)
  (λb l e=>by rw[aF (f b _ e)];show e) (λb o u e=>by rw[aF (f b _ e)];show e) (λb E e=>⟨#[],by rw[aF (f b _ e),e];simp⟩) (λm w=>?_) (λb u e=>?_) I.bare
 . obtain⟨G,B,F,A,y,x⟩:=i b h;show⟨A,B,y,x⟩
 . rw[aF (X_ (XR (XQ e) j))];show n
 . obtain⟨o,C,D,p,r⟩:=w;show⟨o,C,D,k _ o (λz=>(i _ z).2.1 rfl) p,r⟩
 by_cases h:b=T
 . subst h;rw[bf]at e;cases e;show new
 rw[aF h]at e;show(I.aO b u e).rZ (λc v a q=>k c v ?_ q) (λc q=>by rw[aF (f c _ q)];show q) λc l q=>by rw[aF (f c _ q)];show q
 rcases a with z|z
 . rw[z];show d b u e
 show d c _ z
def NC{X:Cx}{pins:List (Addr×Obj)}{σ:L2.St}{H:Hp}{s:Shared}{g:Heap}{tk:Nat}{fp:List Addr}(I:Inv X pins σ H s)(f:∀b∈fp,oy X pins H b)
 (k:∀b o,b∉fp->s.heap.get? b=some o->g.get? b=some o):Inv X pins σ H {s with heap:=g,toks:=tk}:=by
 let d:∀b u,H b=some u->b∉fp:=λb u e z=>by rw[(f b z).1]at e;cases e
 show I.step (g':=s.gens) (d':=s.drawn) (ch:=fp) (λb l=>?_) (λb o _ _ a e _=>k b o a e) (λb o _ _ a e _=>⟨o.slots,k b o a e⟩) (λb o _ e n=>n) (λb o a e=>⟨o,k b o a e⟩)
  (λb h e=>e) (λb o u e=>e) (λb B e=>⟨#[],by rw[e];simp⟩) (λm j=>?_) (λb u e=>?_) I.bare
 . obtain⟨D,x,C,w,t,p⟩:=f b l;show⟨w,x,t,p⟩
 . obtain⟨o,y,A,i,r⟩:=j;show⟨o,y,A,k _ o (λz=>(f _ z).2.1 rfl) i,r⟩
 show(I.aO b u e).rZ (λc v a q=>k c v ?_ q) (λc q=>q) λc h q=>q;rcases a with z|z
 . rw[z];show d b u e
 show d c _ z
inductive SK where
 |l|t
def qt(k:SK)(K:PySem.W.Frag)(H:Hp)(a:Addr)(xs:List V):Prop:=match k with
 | .l=>oQ K H a xs
 | .t=>kY K H a xs
def o8(k:SK)(t a:Addr)(n:Nat)(g:Heap):Prop:=match k with
 | .l=>g.IsListIter t a n
 | .t=>g.IsTupleIter t a n
def l7(k:SK)(g:Heap)(a:Addr)(us:Array Value):Prop:=match k with
 | .l=>g.IsList a us
 | .t=>g.IsTuple a us
def Sn(k:SK)(a:Addr):Obj:=match k with
 | .l=>{cls:= .type "list_iterator",data:= .fields #[.ref a,.int 0 0]}
 | .t=>{cls:= .type "tuple_iterator",data:= .fields #[.ref a,.int 0 0]}
def vi{X:Cx}{pins:List (Addr×Obj)}{σ:L2.St}{H:Hp}{s:Shared}{k:SK}{a:Addr}{xs:List V}(I:Inv X pins σ H s)(h:qt k X.K H a xs):∃aq:List Value,Vals xs aq/\l7 k s.heap a aq.toArray:=by
 cases k
 . obtain⟨aq,b,p,_⟩:=I.list h;show⟨aq,b,p.isList⟩
 obtain⟨aq,b,p,_⟩:=I.tuple h;show⟨aq,b,p⟩
def Aq{X:Cx}{pins:List (Addr×Obj)}{σ:L2.St}{H:Hp}{s:Shared}{k:SK}{a:Addr}{xs ys:List V}(I:Inv X pins σ H s)(h:qt k X.K H a xs)(h':qt k X.K H a ys):xs=ys:=by
 cases k
 . show I.EN h h'
 show I.AN h h'
def QV{s:Shared}{k:SK}(h:l7 k s.heap a us)(q:Q (.ref s.heap.objs.size) {s with heap:=s.heap.push (Sn k a)}):wpAny (model P w) A (pyIter (.ref a)) Q E s:=by
 cases k
 . show aaz h q
 show ZU h q
def l7.push{k:SK}{g:Heap}(h:l7 k g a us)(o:Obj):l7 k (g.push o) a us:=by
 cases k
 . obtain⟨b,e,r⟩:=h;show⟨b,XF _ e,r⟩
 obtain⟨b,e,r⟩:=h;show⟨b,XF _ e,r⟩
def l7.some{k:SK}{g:Heap}(h:l7 k g a us):∃o,g.get? a=Option.some o:=by
 cases k
 . obtain⟨b,e,r⟩:=h;show⟨b,e⟩
 obtain⟨b,e,r⟩:=h;show⟨b,e⟩
def Qo{k:SK}{g h:Heap}(e:g.get? t=Option.some (Sn k a)):o8 k t a 0 g:=by
 cases k
 . show⟨_,e,rfl,rfl⟩
 show⟨_,e,rfl,rfl⟩
def m7{k:SK}{g g':Heap}(h:o8 k t a n g)(b:∀o,g.get? t=Option.some o->g'.get? t=Option.some o):o8 k t a n g':=by
 cases k
 . obtain⟨o,e,r⟩:=h;show⟨o,b o e,r⟩
 obtain⟨o,e,r⟩:=h;show⟨o,b o e,r⟩
def vR{k:SK}{g:Heap}(h:o8 k t a n g):∃o,g.get? t=Option.some o/\∀v,o.data≠ .cell v:=by
 cases k
 . obtain⟨o,e,c,d⟩:=h;show⟨o,e,λv z=>by rw[d]at z;cases z⟩
 obtain⟨o,e,c,d⟩:=h;show⟨o,e,λv z=>by rw[d]at z;cases z⟩
def RM{s:Shared}{k:SK}(i:o8 k t a n s.heap)(l:l7 k s.heap a us)(b:us[n]?=some v)(q:∀g,o8 k t a (n+1) g->Heap.SameBut t s.heap g->Q v {s with heap:=g}):wpAny (model P w) A (Builtin.SmallTypes.nextOf (.ref t)) Q E s:=by
 cases k
 . show wpAny_nextOf_list_item i l b q
 show Ik i l b q
def MF{A:Around}{s:Shared}{k:SK}(c:A.handled=none)(i:o8 k t a n s.heap)(l:l7 k s.heap a us)(b:us[n]?=none)(q:∀g e,Heap.ExtBut t s.heap g->(∃o,g.get? e=some o/\o.cls= .type "StopIteration")->E (.ref e) {s with heap:=g}):wpAny (model P w) A (Builtin.SmallTypes.nextOf (.ref t)) Q E s:=by
 cases k
 . show wpAny_nextOf_list_end c i l b q
 show KP c i l b q
def l7.kept{k:SK}{g g':Heap}(h:l7 k g a us)(c:∀o,g.get? a=Option.some o->g'.get? a=Option.some o):l7 k g' a us:=by
 cases k
 . obtain⟨b,e,r⟩:=h;show⟨b,c _ e,r⟩
 obtain⟨b,e,r⟩:=h;show⟨b,c _ e,r⟩
def Bg{α β:Type}{b:β}{a:α->β->Sem (ForInStep β)}{Q:β->Shared->Prop}:∀(l:List α) (I:Nat->Shared->Prop) (s:Shared),I 0 s->(∀i x s',l[i]?=some x->I i s'->wpAny M A (a x b) (λr c=>r= .yield b/\I (i+1) c) E s')->(∀s',I l.length s'->Q b s')->wpAny M A (forIn l b a) Q E s
 | [],_,s,d,_,k=>by rw[abM];show XM (k s d)
 |x::l,I,s,d,f,k=>by
  rw[abC];show Xw (Y3 (f 0 x s rfl d) (λr s' h=>?_) λ_ _ e=>e);obtain⟨rfl,g⟩:=h;show Bg l (λi=>I (i+1)) s' g (λi y c e=>f (i+1) y c (by rw[Ye];show e)) k
structure Sr where
 k:SK
 t:Addr
 a:Addr
 us:Array Value
abbrev mm(h:Heap)(T:Addr)(vs:List Value):Prop:=h.get? T=some {cls:= .type "tuple",data:= .seq vs.toArray}
structure Ap(z ti to:Addr)(S:List Sr):Prop where
 nd:(z::ti::to::S.map Sr.t).Nodup
 ap:∀x∈S,x.a∉z::ti::to::S.map Sr.t
 ne:S≠ []
def El{P:Program}{w:World}{A:Around}{s:Shared}{E:Value->Shared->Prop}{z k to:Addr}{n:Nat}{S:List Sr}{vs:List Value}{Q:Value->Shared->Prop}(hh:A.handled=none)(D:Ap z k to S)
 (Z:IsZip s.heap z k to .none) (pI:mm s.heap k (S.map λx=> .ref x.t)) (pO:mm s.heap to vs) (lv:vs.length=S.length) (l8:S.length<=8) (J:∀x∈S,o8 x.k x.t x.a n s.heap/\l7 x.k s.heap x.a x.us)
 (q:∀g (xs:List Value),xs.length=S.length->(∀(j:Nat) (x:Sr),S[j]?=some x->∃u,xs[j]?=some u/\x.us[n]?=some u)->IsZip g z k to (rawInt s.heap.objs.size)->mm g to xs->(∀x∈S,o8 x.k x.t x.a (n+1) g)->mm g s.heap.objs.size xs->g.objs.size=s.heap.objs.size+1->
   (∀c o,c∉z::to::S.map Sr.t->s.heap.get? c=some o->g.get? c=some o)->Q (.ref s.heap.objs.size) {s with heap:=g})
 (qe:(∃x∈S,x.us[n]?=none)->∀g e,(∀c o,c∉z::to::S.map Sr.t->s.heap.get? c=some o->g.get? c=some o)->(∃o,g.get? e=some o/\o.cls= .type "StopIteration")->E (.ref e) {s with heap:=g}):
 wpAny (model P w) A (Builtin.«zip.__next__» ⟨[.ref z],[]⟩) (λar s'=>∃v,ar= .done (.ret v)/\Q v s') E s:=by
 let nd:=D.nd;rw[YF,YF,YF]at nd;obtain⟨nz,N,M,nt⟩:=nd;rw[XU,XU,Zz,Zz]at nz;rw[XU,Zz]at N;obtain⟨z1,z2,z3⟩:=nz;obtain⟨i1,i2⟩:=N;change wpAny _ _ (field (.ref z) 2 >>= _) _ _ _;show Xw (Y6 Z rfl (x:= .bool false) rfl ?_);change wpAny _ _ (field (.ref z) 3 >>= _) _ _ _;show Xw (Y6 Z rfl (x:= .ref k) rfl ?_);show Xw (aas pI rfl ?_)
 let ie:((S.map λx=>Value.ref x.t).toArray).isEmpty=false:=by
  cases S with
  |nil=>show absurd rfl D.ne
  |cons x S=>simp
 simp![ie];change wpAny _ _ (Builtin.SmallTypes.ownedTupleIsFree (.ref z) >>= _) _ _ _;show Xw ?_;unfold Builtin.SmallTypes.ownedTupleIsFree;show Xw (Y6 Z rfl (x:= .none) rfl (XM ?_));simp![aar];show Xw (aaq ?_);show Xw (Y6 Z rfl (x:= .ref to) rfl ?_);show Xw (aam Z (by simp) λk1 Z1 X=>?_);replace Z1:IsZip k1 z k to .ellipsis:=Z1;show Xw ?_;show Bg _ (λi s'=>∃(g:Heap) (xs:List Value),s'= {s with heap:=g}/\g.objs.size=s.heap.objs.size/\IsZip g z k to .ellipsis/\mm g to xs/\xs.length=S.length/\(∀(j:Nat) (x:Sr),j<i->S[j]?=some x->∃u,xs[j]?=some u/\x.us[n]?=some u)/\(∀(j:Nat) (x:Sr),S[j]?=some x->o8 x.k x.t x.a (if j<i then n+1 else n) g/\l7 x.k g x.a x.us)/\∀c o,c∉z::to::S.map Sr.t->s.heap.get? c=some o->g.get? c=some o) _ ?_ ?_ ?_
 . show⟨k1,vs,rfl,X.1,Z1,X.extBut _ _ (XI z2) pO,lv,λj x h=>absurd h (XZ _),λj x a=>?_,λc o b e=>X.extBut _ _ (λh=>b (by rw[h];show XX)) e⟩;let l:=XS a;rw[Xx (XZ _)];show⟨m7 (J x l).1 λo e=>X.extBut _ _ (λh=>z3 (by rw[<-h];show Yl l)) e,(J x l).2.kept λo e=>X.extBut _ _ (λh=>D.ap x l (by rw[h];show XX)) e⟩
 . rintro i ⟨it,d⟩ s' hl ⟨g,xs,rfl,sz,Y,p,O,hd,V,kp⟩
   obtain⟨x,a,rfl,rfl⟩:∃x,S[i]?=some x/\it= .ref x.t/\d=i:=by
    rw[List.getElem?_zipIdx]at hl;simp at hl;obtain⟨x,a,h1,h2⟩:=hl;show⟨x,a,h1.symm,h2.symm⟩
   let l:=XS a;let hi:=(Xs.mp a).1;obtain⟨j1,l1⟩:=V d x a;rw[Xx (YM _)]at j1;let tz:x.t≠z:=λh=>z3 (by rw[<-h];show Yl l);let H:x.t≠to:=λh=>M (by rw[<-h];show Yl l);let I:∀c,c∉z::to::S.map Sr.t->c≠x.t:=λc b h=>b (by rw[h];show XN _ (XN _ (Yl l)));show Xw (wpAny_onRaise ?_);change wpAny _ _ (Builtin.SmallTypes.nextOf (.ref x.t) >>= _) _ _ _;cases hv:x.us[n]? with
   |none=>
    show Xw (MF hh j1 l1 hv λB e t he=>?_);obtain⟨oe,G,U⟩:=he;let Z3:IsZip B z k to .ellipsis:=t _ _ (XI tz) Y;let aq:e≠z:=λc=>by subst c;rw[Z3]at G;cases G;simp at U
    show aam Z3 (by simp) λg3 _ m=>qe ⟨x,l,hv⟩ g3 e (λc o b f=>m.extBut _ _ (λh=>b (by rw[h];show XX)) (t _ _ (I c b) (kp c o b f))) ⟨oe,m.extBut _ _ aq G,U⟩
   |some u=>
    show Xw (RM j1 l1 hv λB j2 t=>XM ?_);let C:mm B to xs:=t.extBut _ _ (XI H) p;show Xw (aas C rfl ?_);let sx:xs.toArray.size<=sizeLine:=by rw[XG,O];show cD ()
    show Xw (wpAny_updateSeq C rfl ?_ sx (by rw[Array.size_setIfInBounds];lia));let m:Heap.SameBut to B (B.update to (Obj.mapSeq (·.setIfInBounds d u))):=Y0 ..
    let L:mm (B.update to (Obj.mapSeq (·.setIfInBounds d u))) to (xs.set d u):=by
     change Heap.get? _ _=_;rw[aaI _ C rfl];simp[Obj.mapSeq]
    generalize B.update to (Obj.mapSeq (·.setIfInBounds d u))=g3 at m L⊢;show Xw (wpAny_letGo (XM ⟨rfl,g3,xs.set d u,rfl,by rw[m.1,t.1,sz],m.extBut _ _ z2 (t.extBut _ _ (XI tz) Y),L,by rw[XH];show O,λj y hj r=>?_,λj y r=>?_,λc o b f=>?_⟩))
    . by_cases h:d=j
      . subst h;rw[a]at r;cases r;show⟨u,XE (),hv⟩
      rw[Xu h];show hd j y () r
    . obtain⟨j3,l3⟩:=V j y r;let T:=XS r;let ab:y.t≠to:=λh=>M (by rw[<-h];show Yl T);let ya:=D.ap y T;let F:∀o,g.get? y.a=some o->g3.get? y.a=some o:=λo e=>m.extBut _ _ (λh=>ya (by rw[h];simp)) (t.extBut _ _ (λh=>ya (by rw[h];show XN _ (XN _ (XN _ (Yl l))))) e);show⟨?_,l3.kept F⟩;by_cases h:j=d
      . subst h;rw[a]at r;cases r;rw[XB ()];show m7 j2 λo e=>m.extBut _ _ H e
      have ah:y.t≠x.t:=λh2=>h (by
       let a1:(S.map Sr.t)[j]?=some y.t:=by rw[XJ,r];rfl
       let a2:(S.map Sr.t)[d]?=some y.t:=by rw[XJ,a,h2];rfl
       obtain⟨g1,e1⟩:=Xs.mp a1;obtain⟨B,e2⟩:=Xs.mp a2;show(List.getElem_inj nt).mp (e1.trans e2.symm))
      let e:(if j<d then n+1 else n)=(if j<d+1 then n+1 else n):=by
       by_cases q:j<d
       . rw[XB q,XB ()]
       rw[Xx q,Xx ()]
      rw[<-e];show m7 j3 λo e=>m.extBut _ _ ab (t.extBut _ _ ah e)
    show m.extBut _ _ (λh=>b (by rw[h];simp)) (t.extBut _ _ (I c b) (kp c o b f))
 rintro s' ⟨g,xs,rfl,sz,Y,p,O,hd,V,kp⟩;show Xw (aas p rfl ?_);show Xw (aaZ ?_ ?_)
 . change wpAny _ _ (Builtin.SmallTypes.ownedTupleHandOut (.ref z) (.ref g.objs.size) >>= _) _ _ _;show Xw ?_;unfold Builtin.SmallTypes.ownedTupleHandOut;let R:z<g.objs.size:=XQ Y;let Z6:IsZip (g.push {cls:= .type "tuple",data:= .seq xs.toArray}) z k to .ellipsis:=XF _ Y;show Xw (aam Z6 (by simp) λg7 Z7 b7=>?_);replace Z7:IsZip g7 z k to (rawInt g.objs.size):=Z7;show aam Z7 (by simp) λW Z8 b8=>?_;replace Z8:IsZip W z k to (rawInt g.objs.size):=Z8;let up:∀c o,c≠z->g.get? c=some o->W.get? c=some o:=λc o c1 e=>b8.extBut _ _ c1 (b7.extBut _ _ c1 (XF _ e));let pT:mm W g.objs.size xs:=b8.extBut _ _ (ZG R) (b7.extBut _ _ (ZG R) (X5 _ rfl));let K:W.objs.size=g.objs.size+1:=by rw[b8.1,b7.1,YO]
   rw[sz]at Z8 pT K;show XM ⟨_,rfl,?_⟩;change Q (.ref g.objs.size) _;rw[sz];let ll:(((S.map λx=>Value.ref x.t).toArray).toList.zipIdx).length=S.length:=by simp
   rw[ll]at hd V;show q W xs O (λj x a=>hd j x (Xs.mp a).1 a) Z8 (up _ _ (XI z2) p) (λx a=>?_) pT K λc o b e=>up c o (λh=>b (by rw[h];simp)) (kp c o b e);obtain⟨j,hj⟩:=List.mem_iff_getElem?.mp a;let:=(V j x hj).1;rw[XB (Xs.mp hj).1]at this;show m7 this λo e=>up _ o (λh=>z3 (by rw[<-h];show Yl a)) e
 simp![XG,O];show cD ()
def VH(K:PySem.W.Frag)(L:List (SK×Addr)):It:=
 ⟨λi H=>∀p∈L,∃a x,qt p.1 K H p.2 a/\a[i]?=some x,
  λi H v c=>∃T b,H T=none/\v= .ref T/\c=upd H T (.tup b)/\b.length=L.length/\∀(j:Nat) (p:SK×Addr),L[j]?=some p->∀a,qt p.1 K H p.2 a->∃x,a[i]?=some x/\b[j]?=some x,
  λi H=>(∀p∈L,∃a,qt p.1 K H p.2 a)/\∃p∈L,∃a,qt p.1 K H p.2 a/\a.length<=i⟩
abbrev Sx:=(SK×Addr)×Addr
def N2(z b to:Addr)(L:List Sx)(i:Nat)(h:Heap):Prop:=IsZip h z b to .none/\mm h b (L.map λx=> .ref x.2)/\(∃a,a.length=L.length/\mm h to a)/\∀x∈L,o8 x.1.1 x.2 x.1.2 i h
structure Az(z ti to:Addr)(L:List Sx):Prop where
 nd:(z::ti::to::L.map (·.2)).Nodup
 ap:∀x∈L,x.1.2∉z::ti::to::L.map (·.2)
 ne:L≠ []
 l8:L.length<=8
def C3{X:Cx}{pins:List (Addr×Obj)}{σ:L2.St}{H:Hp}{s:Shared}(I:Inv X pins σ H s){i:Nat}:∀ {L:List Sx},(∀x∈L,∃xs,qt x.1.1 X.K H x.1.2 xs)->(∀x∈L,o8 x.1.1 x.2 x.1.2 i s.heap)->
 ∃S:List Sr,S.map (λy=>((y.k,y.a),y.t))=L/\(∀y∈S,o8 y.k y.t y.a i s.heap/\l7 y.k s.heap y.a y.us/\∀xs,qt y.k X.K H y.a xs->∃aq:List Value,Vals xs aq/\y.us=aq.toArray)
 | [],_,_=>⟨[],rfl,λy a=>by cases a⟩
 |x::L,h,c=>by
  obtain⟨S,e,g⟩:=C3 I (L:=L) (λy a=>h y (XN _ a)) λy a=>c y (XN _ a);obtain⟨xs,q⟩:=h x XX;obtain⟨b,r,l⟩:=vi I q;show⟨⟨x.1.1,x.2,x.1.2,b.toArray⟩::S,by rw[Yg,e],λy a=>?_⟩;rcases XU.mp a with rfl|a
  . show⟨c x XX,l,λd f=>⟨b,by rw[Aq I f q];show r,rfl⟩⟩
  show g y a
def Az.Vv{L:List Sx}{S:List Sr}(D:Az z b to L)(e:S.map (λy=>((y.k,y.a),y.t))=L):Ap z b to S/\S.map Sr.t=L.map (·.2)/\S.length=L.length/\(S.map λx=>Value.ref x.t)=L.map λx=> .ref x.2:=by
 subst e;let a:(S.map λy=>((y.k,y.a),y.t)).map (·.2)=S.map Sr.t:=by rw[X6];rfl
 show⟨⟨by let:=D.nd;rw[a]at this;show this,λx c=>?_,λh=>D.ne (by rw[h];rfl)⟩,a.symm,by rw[Xr],by rw[X6];rfl⟩;let:=D.ap _ (Yl (f:=λy:Sr=>((y.k,y.a),y.t)) c);rw[a]at this;show this
def Gy{L:List Sx}{h:Heap}(st:N2 z a to L i h)(c:b∈z::a::to::L.map (·.2)):∃o,h.get? b=some o/\∀v,o.data≠ .cell v:=by
 obtain⟨Z,f,⟨k,_,d⟩,g⟩:=st;simp![XU,X8]at c;rcases c with rfl|rfl|rfl|⟨x,j,rfl⟩
 . show⟨_,Z,λv e=>by cases e⟩
 . show⟨_,f,λv e=>by cases e⟩
 . show⟨_,d,λv e=>by cases e⟩
 show vR (g x j)
def Fz:∀ {us:List Value} {P:Nat->V->Prop},(∀j u,us[j]?=some u->∃x,RelV x u/\P j x)->∃ys,Vals ys us/\∀j x,ys[j]?=some x->P j x
 | [],_,_=>⟨[],.nil,λj x e=>by cases e⟩
 |u::us,P,h=>by
  obtain⟨x,r,p⟩:=h 0 u rfl;obtain⟨ys,a,q⟩:=Fz (us:=us) (P:=λj=>P (j+1)) λj v e=>h (j+1) v (by rw[Ye];show e);show⟨x::ys,.cons r a,λj y e=>?_⟩;cases j with
  |zero=>cases e;show p
  |succ j=>show q j y (by rw[Ye]at e;show e)
def MS{P:Program}{w:World}{K:PySem.W.Frag}{az:List Expr}{kx:Nat}{pos:Pos}{z ti to:Addr}{L:List Sx}(D:Az z ti to L):
 Turn P w K (.Tuple az kx pos) (VH K (L.map (·.1))) (z::ti::to::L.map (·.2)) z (N2 z ti to L) where
 mem:=XX
 obj:=λi h t b m=>Gy t m
 keep:=λi h h' t k=>by
  obtain⟨Z,W,⟨vs,lv,pO⟩,iT⟩:=t;show⟨k z (by simp) _ Z,k ti (by simp) _ W,⟨vs,lv,k to (by simp) _ pO⟩,λx n=>m7 (iT x n) (k x.2 (by simp![XU,X8];show .inr (.inr (.inr ⟨x,n,rfl⟩))))⟩
 item:=by
  intro X hP hw hK hc i ab s σ H E I hf t hg;subst hP hw hK;let a0:=t;obtain⟨Z,W,⟨vs,lv,pO⟩,iT⟩:=t;obtain⟨S,R,O⟩:=C3 I (L:=L) (λx n=>let⟨a,_,q,_⟩:=hg _ (Yl n);⟨a,q⟩) iT;obtain⟨D',U,l,e3⟩:=D.Vv R
  let av:∀y∈S,∃a x A v,qt y.k X.K H y.a a/\a[i]?=some x/\Vals a A/\y.us=List.toArray A/\A[i]?=some v/\RelV x v:=λy d=>by
   obtain⟨_,_,h3⟩:=O y d;let N:((y.k,y.a),y.t)∈L:=by rw[<-R];show Yl (f:=λy:Sr=>((y.k,y.a),y.t)) d
   obtain⟨a,x,q,ex⟩:=hg _ (Yl N);obtain⟨A,r,eu⟩:=h3 a q;obtain⟨v,ev,C⟩:=r.get ex;show⟨a,x,A,v,q,ex,r,eu,ev,C⟩
  let tz:s.TypeIs (.ref z) "zip":=⟨_,Z,rfl⟩
  let a3:∀ {g g':Heap},(∀c o,c∉z::to::S.map Sr.t->s.heap.get? c=some o->g.get? c=some o)->Heap.SameBut z g g'->∀b o,b∉z::ti::to::L.map (·.2)->s.heap.get? b=some o->g'.get? b=some o:=λ{g g'} M V b o m e=>by
   rw[<-U]at m;rw[XU,Zz,XU,Zz]at m;show V.extBut _ _ m.1 (M b o (by rw[XU,Zz];show⟨m.1,m.2.2⟩) e)
  unfold pyNext;show Xw (aa9 (YT (name:=Str.ofString "__next__") tz aaR (Zl aaR tz F.entry_zip_next (El (I.ok.hd hc) D' Z (by rw[e3];show W) pO (by rw[l];show lv) (by rw[l];show D.l8) (λy d=>⟨(O y d).1,(O y d).2.1⟩) (λg us Y hu Z2 ah j2 pT aO M=>XM ⟨_,rfl,?_⟩) (λ⟨y,d,hn⟩=>?_)) (F.args_zip_next_1 _))))
  . show wpAny_letOwnedTupleGo_zip (s:={s with heap:=g}) Z2 λg' Z3 V=>?_;let hT:s.heap.objs.size≠z:=ZG (XQ Z)
    obtain⟨ys,C,d⟩:=Fz (us:=us) (P:=λj x=>∀p,(L.map (·.1))[j]?=some p->∀a,qt p.1 X.K H p.2 a->a[i]?=some x) λj u eu=>by
     let hj:j<S.length:=by rw[<-Y];show(Xs.mp eu).1
     let ey:S[j]?=some S[j]:=XC hj;generalize S[j]=y at ey;obtain⟨u',U,l⟩:=hu j y ey;rw[eu]at U;cases U;obtain⟨a,x,A,v,q,ex,r,Q,ev,C⟩:=av y (XS ey);rw[Q]at l;let l:A[i]?=some u:=by simpa using l
     rw[ev]at l;cases l;show⟨x,C,λp B a6 q'=>?_⟩;rw[<-R,X6,XJ,ey]at B;cases B;rw[Aq I q' q];show ex
    let a4:=a3 M V;let J:ys.length=us.length:=C.length;show⟨.ref s.heap.objs.size,upd H s.heap.objs.size (.tup ys),NL (s:=s) (tk:=s.toks) I hf a4 (Xv _) ?_,rfl,⟨s.heap.objs.size,ys,I.aO.fresh (Xv _),rfl,rfl,by rw[J,Y,l,Xr],λj p B a q'=>?_⟩,?_,λb m=>?_⟩
    . show⟨by rw[J,Y,l];show cD (by let:=D.l8;lia),us,C,?_⟩;show⟨_,V.extBut _ _ hT pT,rfl,_,rfl⟩
    . have hj:j<ys.length:=by
       let:=(Xs.mp B).1;rw[Xr]at this;rw[J,Y,l];show this
      show⟨_,d j _ (XC hj) p B a q',XC hj⟩
    . have G:=D.nd;rw[YF,YF,XU,XU,XU,Zz,Zz,Zz]at G;show⟨Z3,V.extBut _ _ (XI G.1.1) (M _ _ (by rw[U,XU,XU,Zz,Zz];show⟨XI G.1.1,G.2.1.1,G.2.1.2⟩) W),⟨us,by rw[Y,l],V.extBut _ _ (XI G.1.2.1) ah⟩,λx n=>?_⟩;let ar:=n;rw[<-R]at ar;obtain⟨y,N,rfl⟩:=X8.mp ar;show m7 (j2 y N) λo e=>V.extBut _ _ (λh=>G.1.2.2 (by rw[<-h];show Yl (f:=λx:Sx=>x.2) n)) e
    obtain⟨o,e,_⟩:=Gy a0 m;rw[aF (X_ (XQ e))];show(hf b m).1
  obtain⟨a,x,A,v,q,ex,r,Q,ev,C⟩:=av y d;rw[Q]at hn;let:A[i]?=none:=by simpa using hn
  rw[ev]at this;cases this
 done:=by
  intro X hP hw hK hc i ab s σ H E I hf t hg;subst hP hw hK;obtain⟨Z,W,⟨vs,lv,pO⟩,iT⟩:=t;obtain⟨h1,p,B,a,q,hl⟩:=hg;obtain⟨S,R,O⟩:=C3 I (L:=L) (λx n=>h1 _ (Yl n)) iT;obtain⟨D',U,l,e3⟩:=D.Vv R;let tz:s.TypeIs (.ref z) "zip":=⟨_,Z,rfl⟩
  obtain⟨y,d,hn⟩:∃y∈S,y.us[i]?=none:=by
   rw[<-R,X6]at B;obtain⟨y,d,rfl⟩:=X8.mp B;obtain⟨A,r,eu⟩:=(O y d).2.2 a q;let:=r.length;show⟨y,d,by rw[eu];simp;lia⟩
  unfold pyNext;show Xw (aa9 (YT (name:=Str.ofString "__next__") tz aaR (Zl aaR tz F.entry_zip_next (El (I.ok.hd hc) D' Z (by rw[e3];show W) pO (by rw[l];show lv) (by rw[l];show D.l8) (λy d=>⟨(O y d).1,(O y d).2.1⟩) (λg us Y hu Z2 ah j2 pT aO M=>?_) (λ_ g e M n=>?_)) (F.args_zip_next_1 _))))
  . obtain⟨j,hj⟩:=List.mem_iff_getElem?.mp d;obtain⟨u,_,hu⟩:=hu j y hj;rw[hn]at hu;cases hu
  obtain⟨o,ho,a5⟩:=n;show Xw (wpAny_isInstance (T:="StopIteration") (b:=true) ⟨o,ho,a5⟩ isSubtype_stop ?_);show XM ⟨rfl,NC (s:=s) (tk:=s.toks) I hf λb o m e=>?_⟩;rw[<-U,XU,XU,Zz,Zz]at m;show M b o (by rw[XU,Zz];show⟨m.1,m.2.2⟩) e
 self:=λ_ _ _ _ _ t h=>wpAny_pyIter_zip t.1 h
def yB:∀(L:List (SK×Addr)) (acc:Array Value) (s:Shared) (Q:Array Value->Shared->Prop),(∀p∈L,∃us,l7 p.1 s.heap p.2 us)->
 (∀g,g.objs.size=s.heap.objs.size+L.length->(∀(j:Nat) (p:SK×Addr),L[j]?=some p->g.get? (s.heap.objs.size+j)=some (Sn p.1 p.2))->(∀c o,s.heap.get? c=some o->g.get? c=some o)->Q (acc++((List.range L.length).map λj=>Value.ref (s.heap.objs.size+j)).toArray) {s with heap:=g})->
 wpAny (model P w) A (forIn (L.map λp=>Value.ref p.2) acc λx aq=>do let r <-holding aq.toList (pyIter x);pure (ForInStep.yield (aq.push r))) Q E s
 | [],acc,s,Q,_,q=>by
   let:=q s.heap rfl (λj p e=>by cases e) λc o e=>e;rw[List.map_nil,abM];show XM (by simpa using this)
 |p::L,acc,s,Q,h,q=>by
  obtain⟨us,a⟩:=h p XX;rw[Yg,abC];show Xw (Xw (Zx (QV a (XM ?_))));show yB L _ _ Q (λb d=>let⟨us',a'⟩:=h b (XN _ d);⟨us',a'.push _⟩) λg sz i f=>?_;rw[YO]at sz i;let:=q g (by rw[sz,XT];lia) (λj b e=>?_) λc o e=>f c o (XF _ e)
  . rw[YO]
    let e:acc++((List.range (p::L).length).map λj=>Value.ref (s.heap.objs.size+j)).toArray=acc.push (Value.ref s.heap.objs.size)++((List.range L.length).map λj=>Value.ref (s.heap.objs.size+1+j)).toArray:=by
     apply Array.ext';rw[XT,YX];simp[Function.comp_def,Nat.add_comm,Nat.add_left_comm]
    rw[e]at this;show this
  cases j with
  |zero=>cases e;show f _ _ (X5 _ (by cases p.1<;>rfl))
  |succ j=>have:=i j b (by rw[Ye]at e;show e);rw[show s.heap.objs.size+(j+1)=s.heap.objs.size+1+j by lia];show this
def Jp(s:Shared)(N:Nat)(L:List (SK×Addr))(g:Heap):Prop:=IsZip g (s.heap.objs.size+N+2) (s.heap.objs.size+N) (s.heap.objs.size+N+1) .none/\mm g (s.heap.objs.size+N) ((List.range N).map λj=> .ref (s.heap.objs.size+j))/\mm g (s.heap.objs.size+N+1) (List.replicate N .none)/\
 (∀(j:Nat) (p:SK×Addr),L[j]?=some p->o8 p.1 (s.heap.objs.size+j) p.2 0 g)/\∀c o,s.heap.get? c=some o->g.get? c=some o
def LF{L:List (SK×Addr)}(v:L.length<=8):Meets (Builtin.«zip.__new__» ⟨.type "zip"::L.map λp=> .ref p.2,[]⟩) (λ_ R s=>(∀p∈L,∃us,l7 p.1 s.heap p.2 us)/\∀g,Jp s L.length L g->R (.ok (.ret (.ref (s.heap.objs.size+L.length+2)))) {s with heap:=g}):=
 .of_wp λP w A R s h=>by
  obtain⟨a,gs,d,tk,u⟩:=s;obtain⟨c,h⟩:=h;let m:=sub_zip;unfold Builtin.«zip.__new__» Builtin.SmallTypes.iterAll
  wp_walk using yB L _ _ _ c
  intro g sz q k;dsimp only at sz q k h c⊢;show XM ?_;rw[Array.empty_append];generalize l:((List.range L.length).map λj=>Value.ref (a.objs.size+j))=vs;let i:vs.length=L.length:=by rw[<-l];simp
  let n:vs.length<=sizeLine:=by rw[i];show cD ()
  show Xw (aaZ ?_ (by simpa using n));show Xw (aaZ ?_ (by simpa using n))
  wp_walk
  show⟨_,rfl,?_⟩;let b:(g.push {cls:= .type "tuple",data:= .seq vs.toArray}).objs.size=a.objs.size+L.length+1:=by rw[YO,sz]
  let f:((g.push {cls:= .type "tuple",data:= .seq vs.toArray}).push {cls:= .type "tuple",data:= .seq (vs.map λ_=>Value.none).toArray}).objs.size=a.objs.size+L.length+2:=by rw[YO,b]
  let r:∀ {x y:Obj} {c:Addr} {o:Obj},g.get? c=some o->((g.push x).push y).get? c=some o:=λe=>XF _ (XF _ e);simp![List.toList_toArray];change R (.ok (.ret (.ref (Heap.objs _).size))) _;rw[f,b,sz];show h _ ⟨?_,?_,?_,λj p e=>Qo (h:=a) (XF _ (r (q j p e))),λc o e=>XF _ (r (k c o e))⟩
  . have:=X5 ((g.push {cls:= .type "tuple",data:= .seq vs.toArray}).push {cls:= .type "tuple",data:= .seq (vs.map λ_=>Value.none).toArray}) (o:={cls:= .type "zip",data:= .fields #[.none,.bool false,.bool false,.ref g.objs.size,.ref (a.objs.size+L.length+1)]}) rfl;rw[f,sz]at this;show this
  . have:(g.push {cls:= .type "tuple",data:= .seq vs.toArray}).get? g.objs.size=some {cls:= .type "tuple",data:= .seq vs.toArray}:=X5 _ rfl;rw[sz]at this;rw[l];show XF _ (XF _ this)
  have:=X5 (g.push {cls:= .type "tuple",data:= .seq vs.toArray}) (o:={cls:= .type "tuple",data:= .seq (vs.map λ_=>Value.none).toArray}) rfl;rw[b]at this;let t:(vs.map λ_=>Value.none)=List.replicate L.length .none:=by rw[List.map_const',i]
  rw[t]at this⊢;show XF _ this
def MZ{s:Shared}{L:List (SK×Addr)}(b:L.length<=8)(f:checkTypeCall "zip" ⟨L.map λp=> .ref p.2,[]⟩=pure .unit)(e:checkBuiltinCall "zip.__new__" ⟨.type "zip"::L.map λp=> .ref p.2,[]⟩=pure .unit)(d:∀a:Value,argsOk "object.__init__" ⟨a::L.map λp=> .ref p.2,[]⟩)(c:∀p∈L,∃us,l7 p.1 s.heap p.2 us)
 (q:∀g,Jp s L.length L g->Q (.ref (s.heap.objs.size+L.length+2)) {s with heap:=g}):wpAny (model P w) A (call (.type "zip") (L.map λp=> .ref p.2)) Q E s:=
 callType_new F.called_zip ⋯ f e d F.entry_zip_new (LF b) ⟨c,λg n=>⟨⟨_,n.1,rfl⟩,q g n⟩⟩
def KY:D->SK
 | .tup _=> .t
 |_=> .l
def Jt(k:SK)(G:Hp)(a:Addr)(vs:List V):Prop:=match k with
 | .l=>Rd G a (.lst vs)
 | .t=>G a=some (.tup vs)
def pK{K:PySem.W.Frag}{k:SK}{G F H:Hp}(P:cU G F H){a:Addr}{vs:List V}(h:Jt k G a vs):qt k K H a vs:=by
 cases k
 . show .inl (iV P h)
 show kY.of (P.get h)
def Ao{α:List (Option Addr)}{H:Hp}{st:ag}{d:D}{v:V}{xs:List D}(S:a8 α st H)(r:Rep α H d v)(e:items? st d=some xs):∃p vs,v= .ref p/\aM α H xs vs/\Jt (KY d) H p vs:=by
 cases d<;>try(cases e;done)
 . unfold items? at e;simp only at e;split at e
   . rename_i g q;cases e;obtain⟨a,f,vs,c,b⟩:=S.ia q;show⟨a,vs,ee f r,b,Rd.of c⟩
   cases e
 . cases e;unfold Rep at r;obtain⟨a,vs,rfl,_,c,b⟩:=r;show⟨a,vs,rfl,b,c⟩
 cases e;unfold Rep at r;obtain⟨a,vs,rfl,_,c,b⟩:=r;show⟨a,vs,rfl,b,c⟩
def fF(xs ys:List D):List D:=(xs.zip ys).map λp=> .tup [p.1,p.2]
def gD{xs ys:List D}:(fF xs ys).length=min xs.length ys.length:=by unfold fF;simp
def n6{xs ys:List D}{n:Nat}{d:D}(e:(fF xs ys)[n]?=some d):∃x y,xs[n]?=some x/\ys[n]?=some y/\d= .tup [x,y]:=by
 unfold fF at e;rw[XJ]at e;cases q:(xs.zip ys)[n]? with
 |none=>rw[q]at e;cases e
 |some p=>
  rw[q]at e;cases e;rw[List.getElem?_zip_eq_some]at q;show⟨p.1,p.2,q.1,q.2,rfl⟩
def eA:List D->List D->List D->List D
 |x::xs,y::ys,z::zs=> .tup [x,y,z]::eA xs ys zs
 |_,_,_=>[]
def qW:∀ {xs ys a:List D},(eA xs ys a).length=min xs.length (min ys.length a.length)
 | [],_,_=>by unfold eA;simp
 |_::_,[],_=>by unfold eA;simp
 |_::_,_::_,[]=>by unfold eA;simp
 |x::xs,y::ys,z::a=>by unfold eA;rw[XT,qW];simp![XT];lia
def uV:∀ {xs ys f:List D} {n:Nat} {d:D},(eA xs ys f)[n]?=some d->∃x y z,xs[n]?=some x/\ys[n]?=some y/\f[n]?=some z/\d= .tup [x,y,z]
 | [],_,_,_,_,e=>by unfold eA at e;cases e
 |_::_,[],_,_,_,e=>by unfold eA at e;cases e
 |_::_,_::_,[],_,_,e=>by unfold eA at e;cases e
 |x::xs,y::ys,z::f,0,d,e=>by
  unfold eA at e;rw[abB]at e;cases e;show⟨x,y,z,rfl,rfl,rfl,rfl⟩
 |x::xs,y::ys,z::f,n+1,d,e=>by
  unfold eA at e;rw[Ye]at e;obtain⟨a,b,c,j,i,h,g⟩:=uV e;show⟨a,b,c,by rw[Ye];show j,by rw[Ye];show i,by rw[Ye];show h,g⟩
def Aj(a b c:Value):checkTypeCall "zip" ⟨[a,b,c],[]⟩=pure .unit:=by kernel_rfl
def BR(a b c:Value):checkBuiltinCall "zip.__new__" ⟨[.type "zip",a,b,c],[]⟩=pure .unit:=by kernel_rfl
def uy(a b c d:Value):argsOk "object.__init__" ⟨[a,b,c,d],[]⟩:=by
 unfold argsOk;rw[signature?_of (id:="object.__init__") (n:=['_','_','t','i','n','i','_','_']) (o:=['t','c','e','j','b','o']) (by kernel_rfl) F.owner_object];kernel_rfl
def km(st:ag):List D->Option (List (List D))
 | []=>some []
 |d::ds=>match items? st d,km st ds with
  |some b,some a=>some (b::a)
  |_,_=>none
def Fe{st:ag}{d:D}{b:List D}{a:List (List D)}(h:km st (d::b)=some a):∃xs r,items? st d=some xs/\km st b=some r/\a=xs::r:=by
 unfold km at h;split at h
 . rename_i xs r e c;cases h;show⟨xs,r,e,c,rfl⟩
 cases h
structure Zp(xss:List (List D))(zs:List D):Prop where
 stop:∀n,zs.length<=n->∃xs∈xss,xs.length<=n
 get:∀(n:Nat) d,zs[n]?=some d->∃ys,d= .tup ys/\ys.length=xss.length/\∀(j:Nat) xs,xss[j]?=some xs->∃y,xs[n]?=some y/\ys[j]?=some y
def yb{α:List (Option Addr)}{H:Hp}{st:ag}(S:a8 α st H):∀ {a:List D} {vs:List V} {xss:List (List D)},aM α H a vs->km st a=some xss->xss.length=a.length/\∃L:List (SK×Addr),vs=L.map (λp=> .ref p.2)/\L.map (·.1)=a.map KY/\∀(j:Nat) p,L[j]?=some p->∃xs b,xss[j]?=some xs/\aM α H xs b/\Jt p.1 H p.2 b
 | [],vs,xss,r,e=>by
   unfold aM at r;subst r;cases e;show⟨rfl,[],rfl,rfl,λj p h=>by cases h⟩
 |d::a,vs,xss,r,e=>by
  unfold aM at r;obtain⟨v,vs,rfl,g,f⟩:=r;obtain⟨xs,xss,n,m,rfl⟩:=Fe e;obtain⟨p,b,rfl,l,k⟩:=Ao S g n;obtain⟨i,L,rfl,hk,h⟩:=yb S f m;show⟨by rw[XT,i,XT],(KY d,p)::L,rfl,by rw[Yg,hk];rfl,λj q c=>?_⟩;cases j with
  |zero=>cases c;show⟨xs,b,rfl,l,k⟩
  |succ j=>rw[Ye]at c;rw[Ye];show h j q c
def Ee:∀ {L a:List (SK×Addr)},L.map (λp=>V.ref p.2)=a.map (λp=>V.ref p.2)->L.map (·.1)=a.map (·.1)->L=a
 | [],[],_,_=>rfl
 | [],_::_,h,_=>by cases h
 |_::_,[],h,_=>by cases h
 |p::L,q::a,h,k=>by
  injection h with h1 h2;injection k with k1 k2;injection h1 with h1;rw[Ee h2 k2,Prod.ext k1 h1]
def FN:∀ {L:List (SK×Addr)} {us:List Value},Vals (L.map λp=>V.ref p.2) us->us=L.map λp=> .ref p.2
 | [],_,.nil=>rfl
 |p::L,_,.cons r t=>by
  cases r;rw[FN t];rfl
def EB:∀ {a:List D} {vs:List V},a.length=vs.length->(∀(j:Nat) d,a[j]?=some d->∃v,vs[j]?=some v/\Rep α H d v)->aM α H a vs
 | [],[],_,_=>by unfold aM;rfl
 | [],_::_,h,_=>by cases h
 |_::_,[],h,_=>by cases h
 |d::a,v::vs,h,k=>by
  obtain⟨_,e,r⟩:=k 0 d rfl;cases e;unfold aM
  show⟨v,vs,rfl,r,EB (by simpa using h) λj g e=>by
   obtain⟨c,b,f⟩:=k (j+1) g (by rw[Ye];show e);rw[Ye]at b;show⟨c,b,f⟩⟩
def QQ{K:PySem.W.Frag}{L:List (SK×Addr)}{α:List (Option Addr)}{G:Hp}{ok:ag->Prop}{g:List (List D)}{C:List D}(t:Zp g C)(ll:g.length=L.length)
 (h:∀f b a,Step α G f b->a8 f a b->ok a->∀(j:Nat) p,L[j]?=some p->∃xs c,g[j]?=some xs/\aM f b xs c/\Jt p.1 b p.2 c):xY (VH K L) α G ok C where
 stop:=λn f b N M a s P S o k=>by
  let h:=h f b a s S o;obtain⟨xs,V,X⟩:=t.stop n k;obtain⟨j,i⟩:=List.mem_iff_getElem?.mp V;let U:=(Xs.mp i).1;show⟨λp z=>?_,L[j]'(),Yd _,?_⟩
  . obtain⟨j,i⟩:=List.mem_iff_getElem?.mp z;obtain⟨_,c,_,_,q⟩:=h j p i;show⟨c,pK P q⟩
  obtain⟨Q,c,e,r,q⟩:=h j _ (XC ());rw[i]at e;cases e;show⟨c,pK P q,by rw[<-r.length];show X⟩
 go:=λn d f b N M a s P S o k p z=>by
  obtain⟨j,i⟩:=List.mem_iff_getElem?.mp z;obtain⟨xs,c,e,r,q⟩:=h f b a s S o j p i;obtain⟨O,_,_,w⟩:=t.get n d k;obtain⟨y,A,_⟩:=w j xs e;obtain⟨v,ev,_⟩:=r.get A;show⟨c,v,pK P q,ev⟩
 rf:=λn d f b N M a x Y s P S o k y=>by
  obtain⟨T,E,F,rfl,rfl,lu,W⟩:=y;obtain⟨O,rfl,Z,w⟩:=t.get n d k;let m:=(P.none F).1;show⟨upd b T (.tup E),Step.laid m,P.laid F,S.laid m,?_⟩;unfold Rep;show⟨T,E,rfl,S.nJ m,bf,aM.step (Step.laid m) (EB () λj d J=>?_)⟩;let U:=(Xs.mp J).1;let I:=XC (show j<L.length by lia);obtain⟨xs,c,e,r,q⟩:=h f b a s S o j _ I;obtain⟨y,A,l⟩:=w j xs e;rw[J]at l;cases l;obtain⟨v,ev,R⟩:=r.get A;obtain⟨u,H,B⟩:=W j _ I c (pK P q);rw[ev]at H;cases H;show⟨v,B,R⟩
@[irreducible] def tR(n:Nat)(d:List D)(b:ag)(K:List D->(ag->Prop)->ag->Prop):Prop:=d.length=n/\∃a e,km b d=some a/\Zp a e/\K e (λc=>km c d=some a) b
abbrev G9:=tR 2
abbrev Dz:=tR 3
def pB(t:DA):DI:=λσ b K=>t σ b λc a=>G9 c a K
def G_(t:DA):DI:=λσ b K=>t σ b λc a=>Dz c a K
def Je:∀(L:List (SK×Addr)) (k:Nat),((L.zipIdx k).map λq=>q.1)=L
 | [],_=>rfl
 |p::L,k=>by rw[List.zipIdx_cons,Yg,Je L (k+1)]
def KZ(n:Nat):∀(L:List (SK×Addr)) (k:Nat),((L.zipIdx k).map λq=>n+q.2)=(List.range' k L.length).map λj=>n+j
 | [],_=>rfl
 |p::L,k=>by rw[List.zipIdx_cons,Yg,KZ n L (k+1)];rfl
def RE{n:Nat}{L:List (SK×Addr)}(h:∀p∈L,p.2<n)(A:1<=L.length)(v:L.length<=8):∃d:List Sx,Az (n+L.length+2) (n+L.length) (n+L.length+1) d/\d.map (·.1)=L/\(d.map λx=>Value.ref x.2)=((List.range L.length).map λj=>Value.ref (n+j))/\(∀x∈d,∃j:Nat,L[j]?=some x.1/\x.2=n+j)/\(∀b∈(n+L.length+2:Nat)::(n+L.length)::(n+L.length+1)::d.map (·.2),n<=b)/\d.length=L.length:=by
 let t:(L.zipIdx.map λq=>((q.1,n+q.2):Sx)).map (·.1)=L:=by rw[X6];show Je L 0
 let e:(L.zipIdx.map λq=>((q.1,n+q.2):Sx)).map (·.2)=(List.range L.length).map λj=>n+j:=by rw[X6,List.range_eq_range'];show KZ n L 0
 let g:∀x∈(L.zipIdx.map λq=>((q.1,n+q.2):Sx)),∃j:Nat,L[j]?=some x.1/\x.2=n+j:=λx g=>by
  obtain⟨q,w,rfl⟩:=X8.mp g;show⟨q.2,List.mem_zipIdx_iff_getElem?.mp w,rfl⟩
 let k:(L.zipIdx.map λq=>((q.1,n+q.2):Sx)).length=L.length:=by rw[Xr,List.length_zipIdx]
 let s:((L.zipIdx.map λq=>((q.1,n+q.2):Sx)).map λx=>Value.ref x.2)=(List.range L.length).map λj=>Value.ref (n+j):=by
  let u:=YK (List.map Value.ref) e;rw[X6,X6]at u;rw[X6];show u.trans ?_;rw[X6];rfl
 generalize(L.zipIdx.map λq=>((q.1,n+q.2):Sx))=d at t e s g k
 let f:∀c:Nat,c∈(List.range L.length).map (λj=>n+j)->n<=c/\c<n+L.length:=λc y=>by
  obtain⟨j,o,rfl⟩:=X8.mp y;let:=YW.mp o;lia
 let r:((List.range L.length).map λj=>n+j).Nodup:=aaA.mpr ((List.nodup_range (n:=L.length)).imp λh z=>h (Nat.add_left_cancel z));generalize(List.range L.length).map (λj=>n+j)=R at f r e
 let i:∀b:Nat,b∈(n+L.length+2:Nat)::(n+L.length)::(n+L.length+1)::R->n<=b:=λb l=>by
  simp![XU]at l;rcases l with rfl|rfl|rfl|l
  . lia
  . lia
  . lia
  show(f b l).1
 show⟨d,⟨?_,λx m z=>?_,λz=>?_,by rw[k];show v⟩,t,s,g,?_,k⟩
 . rw[e,YF,YF,YF];show⟨λz=>?_,λz=>?_,λz=>by let:=f _ z;lia,r⟩
   . simp![XU]at z;rcases z with z|z|z
     . have z:n+L.length+2=n+L.length:=z;lia
     . have z:n+L.length+2=n+L.length+1:=z;lia
     have:=f _ z;lia
   simp![XU]at z;rcases z with z|z
   . have z:n+L.length=n+L.length+1:=z;lia
   have:=f _ z;lia
 . rw[e]at z;obtain⟨j,o,_⟩:=g x m;let a:=h x.1 (XS o);let b:=i _ z;show absurd a (Nat.not_lt.mpr b)
 . rw[z]at k;let:([]:List Sx).length=0:=rfl;lia
 rw[e];show i
def Lj{X:Cx}(n1:1<=n)(n8:n<=8)(hc:∀D:List Value,D.length=n->checkTypeCall "zip" ⟨D,[]⟩=pure .unit/\checkBuiltinCall "zip.__new__" ⟨.type "zip"::D,[]⟩=pure .unit/\∀ob,argsOk "object.__init__" ⟨ob::D,[]⟩)(hg:Gl X "zip")(hm:X.mg "zip"=none)(ha:PA X (a::y) (LA t))(hs:starEach (a::y) X.env=(false,eval a X.env)::starEach y X.env)(U:(backTo pos (starEach y X.env)).any (·.1)=false):
 PI X (.Tuple z kx u) (.Call (.Name "zip" p) (a::y) [] pos) (LI λσ st K=>t σ st λr c=>tR n r c K):=by
 intro v s σ H R I h;obtain⟨α,σd,st,K,G,F,P,RS,S,t,k⟩:=h;show Call_ (nH I hg hm boot_zip (YS (cp (ha pos v s σ H (λN H1=>∃r i d c,Step α G i d/\cU d F H1/\a8 i c d/\aM i d r N/\tR n r c K) I ⟨α,σd,st,_,G,F,P,RS,S,t,λr c q i d H1 N m J E C=>⟨r,i,d,c,m,J,E,C,q⟩⟩) λO m ⟨N,H1,M,rv,r,i,d,c,w1,J,E,C,q⟩=>?_) hs U));unfold tR at q;obtain⟨ln,ab,zs,ei,zp,q⟩:=q;obtain⟨lx,L,rfl,hk,hL⟩:=yb E C ei;let lL:L.length=n:=by rw[<-ln,<-Xr (f:=KY),<-hk,Xr]
 rw[FN rv];obtain⟨h1,h2,h3⟩:=hc (L.map λp=> .ref p.2) (by rw[Xr];show lL)
 let B:∀p∈L,∃O,l7 p.1 m.heap p.2 O:=λp w=>by
  obtain⟨j,W⟩:=List.mem_iff_getElem?.mp w;obtain⟨_,ws,_,_,q⟩:=hL j p W;obtain⟨aq,_,l⟩:=vi M (pK J q);show⟨_,l⟩
 show MZ () h1 h2 h3 B λg ⟨Z,pI,pO,iT,kp⟩=>?_;show wpAny_pyIter_zip (s:={m with heap:=g}) Z ?_
 let lt:∀p∈L,p.2<m.heap.objs.size:=λp w=>by
  obtain⟨O,l⟩:=B p w;obtain⟨o,eo⟩:=l.some;show XQ eo
 obtain⟨Lx,az,m1,m2,hx,A,Q⟩:=RE lt () ();show⟨m.heap.objs.size+L.length+2,_,_,_,H1,rfl,M.kept (t':=m.toks) kp,MS az,⟨Z,by rw[m2];show pI,⟨_,by rw[List.length_replicate];show Q.symm,pO⟩,λx T=>?_⟩,λb hb=>M.xD (A b hb) (M.aO.fresh (A b hb)),?_⟩
 . obtain⟨j,W,e⟩:=hx x T;rw[e];show iT j x.1 W
 rw[m1];show k _ _ c q _ i d H1 w1 J E (QQ zp () λα' G' ah s' S' o j p w=>?_);obtain⟨_,L',e1,V,Y⟩:=yb S' (C.step s') o;let:=Ee e1 (hk.trans V.symm);subst this;show Y j p w
def RD:Zp [xs,ys] (fF xs ys):=⟨λn h=>by
 rw[gD]at h;by_cases c:xs.length<=n
 . show⟨xs,by simp,c⟩
 . show⟨ys,by simp,by lia⟩,λn d h=>by
 obtain⟨x,y,ex,b,rfl⟩:=n6 h
 show⟨_,rfl,rfl,λj e a=>by
  match j with
  |0=>cases a;show⟨x,ex,rfl⟩
  |1=>cases a;show⟨y,b,rfl⟩
  |_+2=>cases a⟩⟩
def ME:Zp [xs,ys,b] (eA xs ys b):=⟨λn h=>by
 rw[qW]at h;by_cases c:xs.length<=n
 . show⟨xs,by simp,c⟩
 . by_cases c:ys.length<=n
   . show⟨ys,by simp,c⟩
   show⟨b,by simp,by lia⟩,λn d h=>by
 obtain⟨x,y,z,ex,f,e,rfl⟩:=uV h
 show⟨_,rfl,rfl,λj g a=>by
  match j with
  |0=>cases a;show⟨x,ex,rfl⟩
  |1=>cases a;show⟨y,f,rfl⟩
  |2=>cases a;show⟨z,e,rfl⟩
  |_+3=>cases a⟩⟩
def lQ{st:ag}{x y:D}{xs ys:List D}{K:List D->(ag->Prop)->ag->Prop}(ex:items? st x=some xs)(d:items? st y=some ys)(k:∀ok:ag->Prop,(∀a,items? a x=some xs->items? a y=some ys->ok a)->K (fF xs ys) ok st):G9 [x,y] st K:=by
 unfold G9 tR;show⟨rfl,_,_,by simp![km,ex,d],RD,k _ λa c b=>by simp![km,c,b]⟩
def F_{st:ag}{x y z:D}{xs ys b:List D}{K:List D->(ag->Prop)->ag->Prop}(ex:items? st x=some xs)(g:items? st y=some ys)(f:items? st z=some b)(k:∀ok:ag->Prop,(∀a,items? a x=some xs->items? a y=some ys->items? a z=some b->ok a)->K (eA xs ys b) ok st):Dz [x,y,z] st K:=by
 unfold Dz tR;show⟨rfl,_,_,by simp![km,ex,g,f],ME,k _ λa e d c=>by simp![km,e,d,c]⟩
def Cs{X:Cx}{a b:Expr}{d:List Expr}{j:Nat}{c p pos:Pos}{g:DA}(m:Gl X "zip")(l:X.mg "zip"=none)(f:JA X [a,b] g)(k:notStar a=true:=by rfl)(e:notStar b=true:=by rfl):JI X (.Tuple d j c) (.Call (.Name "zip" p) [a,b] [] pos) (pB g):=by
 unfold JI;unfold JA at f;show Lj ⋯ ⋯ (λn h=>by
  match n,h with
  | [u,v],_=>show⟨F.typeCall_zip_2 _ _,F.newCall_zip_2 _ _,λi=>F.args_object_init_3 i _ _⟩) m l f (dk k) (by rw[dk e];rfl)
def Jg{X:Cx}{a b c:Expr}{e:List Expr}{l:Nat}{d p pos:Pos}{j:DA}(o:Gl X "zip")(n:X.mg "zip"=none)(i:JA X [a,b,c] j)(m:notStar a=true:=by rfl)(g:notStar b=true:=by rfl)(f:notStar c=true:=by rfl):JI X (.Tuple e l d) (.Call (.Name "zip" p) [a,b,c] [] pos) (G_ j):=by
 unfold JI;unfold JA at i;show Lj ⋯ ⋯ (λq h=>by
  match q,h with
  | [u,v,w],_=>show⟨Aj _ _ _,BR _ _ _,λk=>uy k _ _ _⟩) o n i (dk m) (by rw[dk g,dk f];rfl)
def EO(f:Nat->Int):∀n,preSum f (n+1)=f 0+preSum (λi=>f (i+1)) n
 |0=>by change preSum f 0+f 0=f 0+0;change(0:Int)+f 0=f 0+0;lia
 |n+1=>by
  let h:=EO f n;change preSum f (n+1)+f (n+1)=f 0+(preSum (λi=>f (i+1)) n+f (n+1));rw[h];lia
def FG:∀ns:List Int,preSum (λi=>ns.getD i 0) ns.length=ns.sum
 | []=>rfl
 |n::ns=>by
  rw[XT,EO];let:(λi=>(n::ns).getD (i+1) 0)=λi=>ns.getD i 0:=by funext i;simp
  rw[this,FG ns,ZQ];rfl
section
variable {X:Cx}
def B_:gu:=λd b K=>match d with| [.lst a]=>(match rl a with|some c=>K (.int c.sum) b|none=>False)|_=>False
def qR:∀ {ns:List Int} {us:List Value},Vals (ns.map V.int) us->∀(i:Nat) (u:Value),us[i]?=some u->∃t,u=Value.int (ns.getD i 0) t
 | [],_,.nil,i,u,e=>by simp at e
 |n::ns,_,.cons h t,0,u,e=>by
  obtain⟨tk,rfl⟩:=h;simp at e;show⟨tk,by rw[<-e];rfl⟩
 |n::ns,_,.cons h t,i+1,u,e=>by
  obtain⟨tk,q⟩:=qR t i u (by simpa using e);show⟨tk,by rw[q];simp⟩
def UU(N:X.calm=true):cA X (.builtin "sum") (iE B_):=λB s σ H W Z Q I E ⟨α,ds,st,K,G,F',P,r,S,q,k⟩=>by
 unfold B_ at q;split at q
 . rename_i V;split at q
   . rename_i f e;obtain⟨v,rfl,y⟩:=ke r rfl;unfold Rep at y;obtain⟨a,Y,rfl,na,R,O⟩:=y;obtain⟨u,rfl,D⟩:=vals1 E;cases D;let L:=AJ O e;subst L;obtain⟨z,m,n,C,M,l⟩:=Inv.zQ I (iV P R);let p:s.heap.IsList a m.toArray:=⟨_,l,rfl,n,rfl⟩
     show call_sum_walkAnyB (aaz p ?_);let x:a≠s.heap.objs.size:=X_ (XQ l);show⟨s.heap.objs.size,_,_,_,_,_,_,λi=>f.getD i 0,rfl,(Walks.list (A:=X.A.in1) (I.ok.hd N) _ a x m.toArray).toS,⟨⟨_,X5 _ rfl,rfl,rfl⟩,⟨_,XF _ l,rfl,n,rfl⟩⟩,?_,?_,?_⟩
     . intro b j;rw[YO];simp![XU,Y9,abt]at j;rcases j with rfl|rfl
       . show Yp _
       show Yk (XQ l)
     . intro i w J;obtain⟨t,e⟩:=qR C i w (by simpa using J);show .inl ⟨t,e⟩
     intro c t' h
     let F:∀b o,s.heap.get? b=some o->c.heap.get? b=some o:=λb o q=>h.heap b o (by
      intro j;let:b=s.heap.objs.size:=by simpa using j
      show absurd (XQ q) (by rw[this];show YM _)) (XF _ q)
     let T:c= {s with heap:=c.heap,toks:=c.toks}:=by
      let g:=h.gens;let d:=h.drawn;let o:=h.os;cases c;cases s
      simp_all
     let U:preSum (λi=>f.getD i 0) m.toArray.size=f.sum:=by
      let:m.toArray.size=f.length:=by rw[XG,<-M,Xr]
      rw[this];show FG f
     rw[U,T];show⟨.int f.sum,H,I.kept (t':=c.toks) F,⟨t',rfl⟩,k.here P q S (by unfold Rep;rfl)⟩
   show q.elim
 show q.elim
@[irreducible] def uR:gu:=B_
def Ci(a:X.calm=true):cA X (.builtin "sum") (iE uR):=by unfold uR;show UU a
end
def MR{P:Program}{w:World}{K:PySem.W.Frag}{g:Str->Option Value}{b:Heap}{k:Nat}{f:Addr}{fd:FuncData}{e:List Str}{S:cf}(h:∀a st K,¬S a st K):cV P w K g b eN k f fd e (fm S):=
 ⟨λd H Q E q=>by obtain⟨α,a,st,K,G,F,_,_,_,q,_⟩:=q;show absurd q (h a st K),λA outer s H c i d Q E _ _ _ _ q=>by obtain⟨α,a,st,K,G,F,_,_,_,q,_⟩:=q;show absurd q (h a st K)⟩
def ints_map:∀ns:List Int,rl (ns.map D.int)=some ns
 | []=>rfl
 |n::ns=>by simp[rl,ints_map ns]
def CT{st:ag}{K:DK}{xs:List D}{ns:List Int}(h:rl xs=some ns)(k:K (.int ns.sum) st):uR [.lst xs] st K:=by unfold uR B_;simp![h];show k
section
variable {X:Cx}{pos:Pos}
def Iw{d e f:D}(r:aM α H a xs)(q:a=[d,e,f]):∃v u t,xs=[v,u,t]/\Rep α H d v/\Rep α H e u/\Rep α H f t:=by
 subst q;unfold aM at r;obtain⟨v,q,rfl,h,g⟩:=r;obtain⟨u,t,rfl,c,b⟩:=qQ g rfl;show⟨v,u,t,rfl,h,c,b⟩
def nZ(i j k:Nat):fM:=λd σ=>match d with| .tup [x,y,z]=>some (((σ.set i (some x)).set j (some y)).set k (some z))|_=>none
def MX{i j k:Nat}(h:PG X b (Ib X.K 3 (nC (h_ i) (nC (h_ j) (nC (h_ k) Hm))))):PG X b (LG (nZ i j k)):=PG.imp h λv σ H Q ⟨α,t,A,d,K,G,F,P,R,S,r,⟨u,e,q⟩,o⟩=>by
 unfold nZ at e;split at e
 . rename_i x y z;cases e;unfold Rep at r;obtain⟨a,w,rfl,na,s,p⟩:=r;obtain⟨g,f,c,rfl,n,m,l⟩:=Iw p rfl;show⟨a,_,rfl,.of (P.get s),rfl,g,_,rfl,f,_,rfl,c,_,rfl,rfl,o.here P q (((R.set i n).set j m).set k l) S⟩
 cases e
def NV{i j k n:Nat}{x y z:Str}{d c b:Pos}(q:X.calm=true)(a:X.N.Nodup)(g:Loc X.env.scope x:=by first|show Or.inl rfl|show Or.inr rfl)(p:X.fn x=true\/X.env.scope.names.lookup x=some .local:=by first|show .inl rfl|show .inr rfl)(f:Loc X.env.scope y:=by first|show Or.inl rfl|show Or.inr rfl)(o:X.fn y=true\/X.env.scope.names.lookup y=some .local:=by first|show .inl rfl|show .inr rfl)(e:Loc X.env.scope z:=by first|show Or.inl rfl|show Or.inr rfl)(m:X.fn z=true\/X.env.scope.names.lookup z=some .local:=by first|show .inl rfl|show .inr rfl)
 (l:X.N[i]?=some x:=by rfl) (h:X.N[j]?=some y:=by rfl) (hk:X.N[k]?=some z:=by rfl):JG X (.Tuple [.Name x d,.Name y c,.Name z b] n pos) (nZ i j k):=by
 unfold JG;show MX (Eo q (iN (ji a l g p) (iN (ji a h f o) (iN (ji a hk e m) Am))))
def Be{i j k:Nat}(h:fr[i]?=some none:=by rfl)(h':fr[j]?=some none:=by rfl)(a:fr[k]?=some none:=by rfl):qZ fr (nZ i j k):=λσ d g e=>by
 unfold nZ at e;split at e
 . cases e;show⟨by rw[XH,XH,XH],λm x q=>?_⟩;by_cases f:m=i
   . subst f;show(m5 h q).elim
   by_cases c:m=j
   . subst c;show(m5 h' q).elim
   by_cases b:m=k
   . subst b;show(m5 a q).elim
   rw[Xu (XI b),Xu (XI c),Xu (XI f)];show q
 cases e
end
end L3
namespace L3
open PySem L2 PySem.SeqAt
open PySem.Spec hiding items?
open PyProof.Rows hiding St
section
variable {X:Cx}{pins:List (Addr×Obj)}{σ:L2.St}{H:Hp}{s:Shared}{α:List (Option Addr)}
def F7{d e:D}(h:Br d=true)(g:Br e=true)(f:Rep α H d x)(c:Rep α H e y)(b:RelV x u)(a:RelV y v):RcNeAt A s u v (!cO d e):=by
 cases d<;>cases e<;>try(first|(cases h;done)|(cases g;done))
 all_goals(unfold Rep at f c;subst f c)
 all_goals(first|(obtain⟨t,rfl⟩:=b;obtain⟨i,rfl⟩:=a)|(obtain⟨t,rfl⟩:=b;cases a)|(cases b;obtain⟨t,rfl⟩:=a)|(cases b;cases a))
 all_goals unfold cO
 . show RcNeAt.none_none
 . show RcNeAt.none_bool _
 . show RcNeAt.none_int _ _
 . show RcNeAt.none_str _ _
 . show RcNeAt.bool_none _
 . show RcNeAt.bool_bool _ _
 . show RcNeAt.bool_int _ _ _
 . show RcNeAt.bool_str _ _ _
 . show RcNeAt.int_none _ _
 . show RcNeAt.int_bool _ _ _
 . show RcNeAt.int_int _ _ _ _
 . show RcNeAt.int_str _ _ _ _
 . show RcNeAt.str_none _ _
 . show RcNeAt.str_bool _ _ _
 . show RcNeAt.str_int _ _ _ _
 show RcNeAt.str_str _ _ _ _
def A3(I:Inv X pins σ H s){A:Around}{e:D}(i:Br e=true)(h:Rep α H (.lst xs) x)(f:Rep α H e y)(g:RelV x u)(d:RelV y v)(b:A.units<cLine):
 RcNeAt A s u v (!cO (.lst xs) e)/\RcNeAt A s v u (!cO e (.lst xs)):=by
 obtain⟨a,j,k,rfl,_,_,c⟩:=lst_is I h g;cases e<;>try(cases i;done)
 all_goals(unfold Rep at f;subst f)
 all_goals(first|(obtain⟨t,rfl⟩:=d)|(cases d))
 all_goals unfold cO
 . show⟨RcNeAt.list_none c b,RcNeAt.none_list c b⟩
 . show⟨RcNeAt.list_bool _ c b,RcNeAt.bool_list _ c b⟩
 . show⟨RcNeAt.list_int _ _ c b,RcNeAt.int_list _ _ c b⟩
 show⟨RcNeAt.list_str _ _ c b,RcNeAt.str_list _ _ c b⟩
def A5(I:Inv X pins σ H s){A:Around}{e:D}(i:Br e=true)(h:Rep α H (.tup xs) x)(f:Rep α H e y)(g:RelV x u)(d:RelV y v)(b:A.units<cLine):
 RcNeAt A s u v (!cO (.tup xs) e)/\RcNeAt A s v u (!cO e (.tup xs)):=by
 obtain⟨a,j,k,rfl,_,_,c⟩:=tup_is I h g;cases e<;>try(cases i;done)
 all_goals(unfold Rep at f;subst f)
 all_goals(first|(obtain⟨t,rfl⟩:=d)|(cases d))
 all_goals unfold cO
 . show⟨RcNeAt.tuple_none c b,RcNeAt.none_tuple c b⟩
 . show⟨RcNeAt.tuple_bool _ c b,RcNeAt.bool_tuple _ c b⟩
 . show⟨RcNeAt.tuple_int _ _ c b,RcNeAt.int_tuple _ _ c b⟩
 show⟨RcNeAt.tuple_str _ _ c b,RcNeAt.str_tuple _ _ c b⟩
def TU(I:Inv X pins σ H s)(n:Nat)(A:Around)(d e:D)(x y:V)(u v:Value)(G:pl n d=true)(r:pl n e=true)(l:Rep α H d x)(k:Rep α H e y)(i:RelV x u)(h:RelV y v)(Z:A.units+n<cLine):RcNeAt A s u v (!cO d e):=by
 cases n with
 |zero=>
  show F7 ?_ ?_ l k i h
  . cases d<;>first|rfl|(cases G)
  cases e<;>first|rfl|(cases r)
 |succ n=>
  have c:A.units<cLine:=()
  let J:A.in1.units+n<cLine:=by rw[abu];lia
  cases d<;>try(cases G;done)
  case lst xs=>
   cases e<;>try(cases r;done)
   case lst ys=>
    obtain⟨a,L,t,rfl,C,z,q⟩:=lst_is I l i;obtain⟨b,K,g,rfl,B,w,o⟩:=lst_is I k h;let Y:=C.length;let W:=z.length;let U:=B.length;let T:=w.length;unfold cO;by_cases f:xs.length=ys.length
    . rw[pY f];let m:t.toArray.size=g.toArray.size:=by simp![XG];lia
      let P:xs.length=t.toArray.size:=by simp![XG];lia
      rw[P];show RcNeAt.lists q o m c λj S R=>?_;obtain⟨p,_,N,M⟩:=jY C z j (by simpa using S);obtain⟨O,_,F,E⟩:=jY B w j (by simpa using R);show(CB I n A.in1 _ _ p O _ _ (kM (by unfold pl at G;show G) j) (kM (by unfold pl at r;show r) j) N F (by simpa using M) (by simpa using E) J).2
    rw[pZ f];show RcNeAt.lists_lengths q o (by simp![XG,aaP,ne_eq];lia) c
   case tup ys=>
    obtain⟨a,L,t,rfl,C,z,q⟩:=lst_is I l i;obtain⟨b,K,g,rfl,B,w,o⟩:=tup_is I k h;unfold cO;show RcNeAt.list_tuple q o c
   all_goals show(A3 I rfl l k i h c).1
  case tup xs=>
   cases e<;>try(cases r;done)
   case tup ys=>
    obtain⟨a,L,t,rfl,C,z,q⟩:=tup_is I l i;obtain⟨b,K,g,rfl,B,w,o⟩:=tup_is I k h;let Y:=C.length;let W:=z.length;let U:=B.length;let T:=w.length;unfold cO
    let key:=RcNeAt.tuples (e:=λj=>cO (xs.getD j .av) (ys.getD j .av)) q o c λj S R=>by
     obtain⟨p,_,N,M⟩:=jY C z j (by simpa using S);obtain⟨O,_,F,E⟩:=jY B w j (by simpa using R);show(CB I n A.in1 _ _ p O _ _ (kM (by unfold pl at G;show G) j) (kM (by unfold pl at r;show r) j) N F (by simpa using M) (by simpa using E) J).2
    by_cases f:xs.length=ys.length
    . rw[pY f];let m:t.toArray.size=g.toArray.size:=by simp![XG];lia
      let P:xs.length=t.toArray.size:=by simp![XG];lia
      rw[m,abZ,aaG,Bool.and_true,<-m,<-P]at key;show key
    rw[pZ f];let Q:(t.toArray.size==g.toArray.size)=false:=by simp![XG,Zj,ne_eq];lia
    rw[Q,abN]at key;show key
   case lst ys=>
    obtain⟨a,L,t,rfl,C,z,q⟩:=tup_is I l i;obtain⟨b,K,g,rfl,B,w,o⟩:=lst_is I k h;unfold cO;show RcNeAt.tuple_list q o c
   all_goals show(A5 I rfl l k i h c).1
  all_goals
   cases e<;>try(cases r;done)
   case lst ys=>show(A3 I rfl k l h i c).2
   case tup ys=>show(A5 I rfl k l h i c).2
   all_goals show F7 rfl rfl l k i h
end
def Ke{st:ag}{n:Nat}{xs:List D}(h:items? st (.ref n)=some xs):st[n]?=some (.lst xs):=by
 unfold items? at h;simp only at h;split at h
 . rename_i q;cases h;show q
 cases h
end L3
namespace L3
open PySem L2
open PySem.Spec hiding items?
open PyProof.Rows hiding St
section
variable {X:Cx}
def Om:dG:=λx y b K=>match x,y with
 | .lst a,.int k=>(-(2^63)<=k/\k<2^63/\a.length*k.toNat<=sizeLine)/\K (.ref b.length) (b++[.lst (List.replicate k.toNat a).flatten])
 |_,_=>False
def R9:cu X (binaryOp .Mult) (LR Om):=λb s σ H x y v u Q I j i ⟨α,d,e,n,K,G,o,P,g,f,S,q,k⟩=>by
 cases d<;>cases e<;>try show q.elim
 unfold Rep at g f;obtain⟨a,h,rfl,na,m,c⟩:=g;show F4 b s σ H _ _ v u Q I j i ⟨a,_,h,rfl,f,iV P m,q.1.1,q.1.2.1,by rw[<-c.length];show q.1.2.2,λp l=>?_⟩;show k.new P q.2 S (bI.mpr (oG (bI.mp c) _)) l
@[irreducible] def yk:dG:=Om
def Sm:cu X (binaryOp .Mult) (LR yk):=by unfold yk;show R9
end
def O6{st:ag}{K:DK}{xs:List D}{i:Int}(h: -(2^63)<=i/\i<2^63/\xs.length*i.toNat<=sizeLine)(k:K (.ref st.length) (st++[.lst (List.replicate i.toNat xs).flatten])):yk (.lst xs) (.int i) st K:=by unfold yk;show⟨h,k⟩
def Jo(h:d∈fg 0 n):∃i:Nat,i<n/\d= .int (i:Int):=by
 unfold fg at h;obtain⟨i,a,rfl⟩:=X8.mp h;rw[YW]at a;show⟨i,a,by rw[Z4]⟩
def KR{f:Nat->D}(n:Nat):(fg 0 n).map (λd=>match d with| .int i=>f i.toNat|_=> .av)=(List.range n).map f:=by
 unfold fg;rw[X6];show Zk λi _=>?_;change f ((0:Int)+(i:Int)).toNat=f i;let:((0:Int)+(i:Int)).toNat=i:=()
 rw[this]
def tX{e:fM}{h:DE}{b:cC}{st:ag}{K:List D->ag->Prop}(f:Nat->D)(n:Nat)(j:∀i:Nat,i<n->∀a,a (f i) st->∃c,e (.int (i:Int)) b=some c/\h c st a)(k:K ((List.range n).map f) st):eB e cT h (λ_=>True) b (fg 0 n) [] st K:=by
 show comp_map (g:=λd=>match d with| .int i=>f i.toNat|_=> .av) trivial _ (λd m a q=>?_) (by rw[KR];show k);obtain⟨i,l,rfl⟩:=Jo m;show j i l a q
def kq{g:fM}{a:DS}{E:nr}(n:Nat)(I:Nat->cC->ag->Prop)(h:∀σ st,I n σ st->E.nx σ st)
 (e:∀(j:Nat) σ st (rest:List D),j<n->I j σ st->(∀k b,I (j+1) k b->j7 g a (λ_=>True) E rest k b)->∃p,g (.int (j:Int)) σ=some p/\a {E with nx:=j7 g a (λ_=>True) E rest,ct:=j7 g a (λ_=>True) E rest,bk:=E.nx} p st)
 {σ:cC} {st:ag} (s:I 0 σ st):j7 g a (λ_=>True) E (fg 0 n) σ st:=by
 show jS (λrest σ st=>∃j:Nat,j<=n/\rest=(List.range (n-j)).map (λi=>D.int (((j+i:Nat):Int)))/\I j σ st) ?_ ?_ _ _ _ ⟨0,Yc _,by unfold fg;simp,s⟩
 . rintro σ st ⟨j,r,c,o⟩
   let:n-j=0:=by
    cases q:n-j with
    |zero=>rfl
    |succ m=>rw[q,YX]at c;cases c
   let l:j=n:=()
   subst l;show⟨trivial,h σ st o⟩
 rintro d rest σ st ⟨j,r,c,o⟩ next
 cases q:n-j with
 |zero=>rw[q]at c;cases c
 |succ m=>
  rw[q,YX,Yg,X6]at c;simp![aaS]at c;obtain⟨rfl,f⟩:=c;show⟨trivial,e j σ st rest () o λk b t=>next k b ⟨j+1,by lia,?_,t⟩⟩;let:n-(j+1)=m:=()
  rw[this,f];show Zk λi _=>?_;change D.int (((j+(i+1):Nat):Int))=D.int (((j+1+i:Nat):Int));congr 2;lia
section
variable {X:Cx}
def Aa(r:RelV x v)(h:Q (.bool (!(v== .bool b))) s):wpAny M A (compareOp .IsNot v (.bool b)) Q E s:=by
 cases x
 case bl c=>
  cases r;cases c<;>cases b<;>show XM h
 all_goals first
  |(cases r;show XM h)
  |(obtain⟨t,rfl⟩:=r;show XM h)
def Di:dG:=λx y a K=>match y with| .av=>live a x=true/\K (.bl (!Gz x)) a| .bl b=>live a x=true/\K (.bl (!IT x b)) a|_=>False
def MM:cu X (compareOp .IsNot) (LR Di):=λa s σ H x y v u Q I c g ⟨α,d,e,i,K,G,l,P,h,f,S,q,k⟩=>by
 cases e<;>try show q.elim
 . show Ql a s σ H x y v u Q I c g ⟨α,d,.av,i,K,G,l,P,h,f,S,⟨q.1,?_⟩,k⟩;let j:=q.2;cases d<;>show j
 rename_i b;unfold Rep at f;subst f;cases g;show Aa c ?_;rw[FW S q.1 h c];show⟨.bl (!IT d b),H,I,rfl,k.here P q.2 S (by unfold Rep;rfl)⟩
@[irreducible] def nP:dG:=Di
def sD:cu X (compareOp .IsNot) (LR nP):=by unfold nP;show MM
end
section
variable {st:ag}{K:DK}{d:D}{b:Bool}
def jO(h:live st d=true)(k:K (.bl (!Gz d)) st):nP d .av st K:=by unfold nP;show⟨h,k⟩
end
end L3
namespace L3
open PySem L2
open PySem.Spec hiding items?
open PyProof.Rows hiding St
open AutoSeq1 (wpAny_loadPart')
def OK{A:Around}(l:A.handled=none)(k:SK)(t a:Addr)(b:a≠t)(us:Array Value):Draws P w A t [t,a] us.size (λi v=>us[i]?=some v) (λn g=>o8 k t a n g/\l7 k g a us) where
 live:=λi h z=>let⟨o,e,_⟩:=vR z.1;⟨o,e⟩
 frame:=λi h m z d=>⟨m7 z.1 (d t (by simp)),z.2.kept (d a (by simp))⟩
 item:=λi s Q E f z q=>RM z.1 z.2 (v:=us[i]) (by simp[f]) λg j c=>q _ g s.toks (by simp[f]) ⟨j,z.2.kept λo e=>c.extBut _ _ b e⟩ c
 done:=λs Q E z q=>MF l z.1 z.2 (by simp) q
def tj(l:Addr)(items:Array Value)(n:Nat)(e:Option Addr)(j:Array (Option Value)):
 Meets (Builtin.«enumerate.__new__» ⟨[.type "enumerate",.ref l],[]⟩) (λ_ R s=>s.heap.get? l=some {cls:= .type "tuple",dict:=e,data:= .seq items n,slots:=j}/\
  R (.ok (.ret (.ref (s.heap.push {cls:= .type "tuple_iterator",data:= .fields #[.ref l,.int 0 0]}).objs.size)))
   {s with heap:=(s.heap.push {cls:= .type "tuple_iterator",data:= .fields #[.ref l,.int 0 0]}).push {cls:= .type "enumerate",data:= .fields #[.none,.bool false,.ref s.heap.objs.size,rawInt 0,.none,.none]}}):=
 .of_wp λf w A R s h=>by
  obtain⟨m,g,d,tk,k⟩:=s;obtain⟨a,h⟩:=h;let i:=sub_enumerate;let b:Heap.IsTuple (Shared.heap ⟨m,g,d,tk,k⟩) l items:=⟨_,a,rfl,n,rfl⟩
  wp_walk using wpAny_loadPart' a
  show wpAny_stack_any λo=>XM ?_;split
  . rename_i c _ _ _ _ _;cases (c==Value.type "enumerate")
    . wp_walk using wpAny_loadPart' a,ZU b
      show⟨_,rfl,h⟩
    wp_walk using wpAny_loadPart' a,ZU b
    show⟨_,rfl,h⟩
  wp_walk using wpAny_loadPart' a,ZU b
  show⟨_,rfl,h⟩
def Lq{s:Shared}{k:SK}(c:l7 k s.heap a us)
 (q:∀g,IsEnum g (s.heap.objs.size+1) s.heap.objs.size 0 .none->o8 k s.heap.objs.size a 0 g->(∀b o,s.heap.get? b=some o->g.get? b=some o)->Q (.ref (s.heap.objs.size+1)) {s with heap:=g}):
 wpAny (model P w) A (call (.type "enumerate") [.ref a]) Q E s:=by
 cases k
 . show call_enumerate_list c λg t r _ p=>q g t r p
 obtain⟨⟨c,h,u,l⟩,m,f,n,e⟩:=c;replace f:c= .type "tuple":=f;replace e:u= .seq us n:=e;subst f e
 show callType_new F.called_enumerate ⋯ (F.typeCall_enumerate_1 _) (F.newCall_enumerate_1 _) (λd=>F.args_object_init_2 d _) F.entry_enumerate_new
  (tj a us n h l) ⟨m,?_⟩
 let i:(s.heap.push {cls:= .type "tuple_iterator",data:= .fields #[.ref a,.int 0 0]}).objs.size=s.heap.objs.size+1:=YO ..;change _/\_;rw[i]
 let j:IsEnum ((s.heap.push {cls:= .type "tuple_iterator",data:= .fields #[.ref a,.int 0 0]}).push
  {cls:= .type "enumerate",data:= .fields #[.none,.bool false,.ref s.heap.objs.size,rawInt 0,.none,.none]}) (s.heap.objs.size+1) s.heap.objs.size 0 .none:=by
  let:=X5 (s.heap.push {cls:= .type "tuple_iterator",data:= .fields #[.ref a,.int 0 0]})
   (o:={cls:= .type "enumerate",data:= .fields #[.none,.bool false,.ref s.heap.objs.size,rawInt 0,.none,.none]}) rfl
  rw[i]at this;show this
 show⟨⟨_,j,rfl⟩,q _ j ⟨_,XF _ (X5 _ rfl),rfl,rfl⟩ λb o x=>XF _ (XF _ x)⟩
def VO(K:PySem.W.Frag)(k:SK)(a:Addr):It:=
 ⟨λi H=>∃b x,qt k K H a b/\b[i]?=some x,
  λi H v c=>∃T x,H T=none/\v= .ref T/\c=upd H T (.tup [.int (i:Int),x])/\∀b,qt k K H a b->b[i]?=some x,
  λi H=>∃b,qt k K H a b/\b.length<=i⟩
def V0(e t a:Addr)(k:SK)(i:Nat)(h:Heap):Prop:=(∃b,IsEnum h e t i b)/\o8 k t a i h
def KI{P:Program}{w:World}{K:PySem.W.Frag}{p:List Expr}{kx:Nat}{pos:Pos}{e t a:Addr}(k:SK)(J:e≠t)(n2:a≠e)(n3:a≠t):
 Turn P w K (.Tuple p kx pos) (VO K k a) [e,t] e (V0 e t a k) where
 mem:=by simp
 obj:=λi h f b c=>by
  obtain⟨⟨j,d⟩,l⟩:=f;simp![XU,Y9,abt]at c;rcases c with rfl|rfl
  . show⟨_,d,λv z=>by cases z⟩
  show vR l
 keep:=λi h h' f C=>by
  obtain⟨⟨j,d⟩,l⟩:=f;show⟨⟨j,C e (by simp) _ d⟩,m7 l (C t (by simp))⟩
 item:=by
  intro X Y N Z V i n s σ H E I D f R;subst Y N Z;obtain⟨⟨j,d⟩,l⟩:=f;obtain⟨xs,x,B,ex⟩:=R;obtain⟨r,G,L⟩:=vi I B;obtain⟨u,eu,ru⟩:=G.get ex
  let Q:i<r.toArray.size:=by
   let:=(Xs.mp eu).1;simpa using this
  show wpAny_pyNext_enum_itemD (OK (A:=X.A.in1) (show X.A.in1.handled=none from I.ok.hd V) k t a n3 r.toArray) d ⟨l,L⟩ Q J (by simp![XU,Y9,abt,Zz];show⟨J,XI n2⟩) λy h' tk py O hs hT ah C=>⟨_,rfl,?_⟩
  let hy:y=u:=by
   let:r[i]?=some y:=by simpa using py
   rw[eu]at this;cases this;rfl
  subst hy;show wpAny_letOwnedTupleGo_enum (s:={s with heap:=h',toks:=tk+1}) O λk' S m=>?_;let W:s.heap.objs.size≠e:=ZG (XQ d)
  let M:∀b o,b∉[e,t]->s.heap.get? b=some o->k'.get? b=some o:=λb o c q=>by
   simp![XU,Zz,Y9,not_false_eq_true,and_true]at c;show m.extBut _ _ c.1 (C b o c.1 c.2 q)
  show⟨.ref s.heap.objs.size,upd H s.heap.objs.size (.tup [.int (i:Int),x]),NL (s:=s) (tk:=tk+1) I D M (Xv _) ?_,rfl,⟨s.heap.objs.size,x,I.aO.fresh (Xv _),rfl,rfl,?_⟩,?_,?_⟩
  . show⟨Xz rfl,[.int (i:Int) tk,y],.cons ⟨tk,rfl⟩ (.cons ru .nil),?_⟩;show⟨_,m.extBut _ _ W hT,rfl,_,rfl⟩
  . intro ab q';rw[Aq I q' B];show ex
  . show⟨⟨_,by simpa using S⟩,m7 hs.1 λo eo=>m.extBut _ _ (XI J) eo⟩
  intro b c
  let:b≠s.heap.objs.size:=by
   obtain⟨o,q⟩:∃o,s.heap.get? b=some o:=by
    simp![XU,Y9,abt]at c;rcases c with rfl|rfl
    . show⟨_,d⟩
    obtain⟨o,eo,_⟩:=vR l;show⟨o,eo⟩
   show X_ (XQ q)
  rw[aF this];show(D b c).1
 done:=by
  intro X Y N Z V i n s σ H E I D f R;subst Y N Z;obtain⟨⟨j,d⟩,l⟩:=f;obtain⟨xs,B,aq⟩:=R;obtain⟨r,G,L⟩:=vi I B;let e1:=G.length;let tz:s.TypeIs (.ref e) "enumerate":=⟨_,d,rfl⟩
  unfold pyNext;show Xw (aa9 (YT (name:=Str.ofString "__next__") tz F.slot_enumerate_next (Zl F.slot_enumerate_next tz F.entry_enumerate_next ?_ (F.args_enumerate_next_1 _))));change wpAny _ _ (field (.ref e) 2 >>= _) _ _ _;show Xw (Y6 d rfl (x:= .ref t) rfl ?_);show Xw (MF (I.ok.hd V) l L (by simp;lia) λg x m hx=>?_);obtain⟨o,O,U⟩:=hx;show Xw (wpAny_isInstance (T:="StopIteration") (b:=true) ⟨o,O,U⟩ isSubtype_stop ?_);show XM ⟨rfl,NC (s:=s) (tk:=s.toks) I D λb o c q=>?_⟩;simp![XU,Zz,Y9,not_false_eq_true,and_true]at c;show m b o c.2 q
 self:=λ_ _ _ _ _ f h=>wpAny_pyIter_enum f.1.choose_spec h
def l_:Nat->List D->List D
 |_,[]=>[]
 |i,x::xs=> .tup [.int (i:Int),x]::l_ (i+1) xs
def AY:∀ {xs:List D} {i:Nat},(l_ i xs).length=xs.length
 | [],_=>rfl
 |_::xs,i=>by unfold l_;rw[XT,XT,AY]
def vA:∀ {xs:List D} {i n:Nat} {d:D},(l_ i xs)[n]?=some d->∃x,xs[n]?=some x/\d= .tup [.int ((i+n:Nat):Int),x]
 | [],_,_,_,e=>by unfold l_ at e;cases e
 |x::xs,i,0,d,e=>by
  unfold l_ at e;rw[abB]at e;cases e;show⟨x,rfl,rfl⟩
 |x::xs,i,n+1,d,e=>by
  unfold l_ at e;rw[Ye]at e;obtain⟨y,b,a⟩:=vA e;show⟨y,by rw[Ye];show b,?_⟩;rw[a,show i+1+n=i+(n+1) by lia]
def OR{K:PySem.W.Frag}{k:SK}{a:Addr}{α:List (Option Addr)}{G:Hp}{ok:ag->Prop}{xs:List D}
 (h:∀f e b,Step α G f e->a8 f b e->ok b->∃vs,Jt k e a vs/\aM f e xs vs):xY (VO K k a) α G ok (l_ 0 xs) where
 stop:=λn f e q p b s P S o i=>by
  obtain⟨vs,j,g⟩:=h f e b s S o;rw[AY]at i;show⟨vs,pK P j,?_⟩;let:=g.length;lia
 go:=λn d f e q p b s P S o i=>by
  obtain⟨vs,j,g⟩:=h f e b s S o;obtain⟨x,ex,rfl⟩:=vA i;obtain⟨v,ev,_⟩:=g.get ex;show⟨vs,v,pK P j,ev⟩
 rf:=λn d f e q p b x w s P S o i y=>by
  obtain⟨vs,j,g⟩:=h f e b s S o;obtain⟨c,u,rfl⟩:=vA i;obtain⟨T,v,m,rfl,rfl,r⟩:=y;obtain⟨z,ev,t⟩:=g.get u;rw[r vs (pK P j)]at ev;cases ev;let l:=(P.none m).1;show⟨upd e T (.tup [.int (n:Int),v]),Step.laid l,P.laid m,S.laid l,?_⟩;unfold Rep;show⟨T,[.int (n:Int),v],rfl,S.nJ l,bf,?_⟩;unfold aM;show⟨.int (n:Int),[v],rfl,?_,?_⟩
  . unfold Rep;rw[Z5]
  unfold aM;show⟨v,[],rfl,t.step (Step.laid l),by unfold aM;rfl⟩
def HF(d:List D)(a:ag)(K:List D->(ag->Prop)->ag->Prop):Prop:=match d with
 | [x]=>(match items? a x with
   |some c=>K (l_ 0 c) (λb=>items? b x=some c) a
   |_=>False)
 |_=>False
@[irreducible] def uJ:List D->ag->(List D->(ag->Prop)->ag->Prop)->Prop:=HF
def HA(t:DA):DI:=λσ b K=>t σ b λc a=>uJ c a K
def Jh:bootBuiltins "enumerate"=some (.type "enumerate"):=by decide+kernel
def PY{X:Cx}(hg:Gl X "enumerate")(hm:X.mg "enumerate"=none)(ha:PA X [a] (LA t))(hs:starEach [a] X.env=[(false,eval a X.env)]):
 PI X (.Tuple n kx i) (.Call (.Name "enumerate" p) [a] [] pos) (LI (HA t)):=by
 intro j s σ H R I h;obtain⟨α,N,U,K,G,F,P,RS,S,t,k⟩:=h;show Call_ (nH I hg hm Jh (YS (cp (ha pos j s σ H (λz H1=>∃r f e c,Step α G f e/\cU e F H1/\a8 f c e/\aM f e r z/\uJ r c K) I ⟨α,N,U,_,G,F,P,RS,S,t,λr c q f e H1 z d v u B=>⟨r,f,e,c,d,v,u,B,q⟩⟩) λus d ⟨z,H1,w,W,r,f,e,c,O,v,u,B,q⟩=>?_) (by rw[hs];rfl) (by rfl)));unfold uJ HF at q;split at q
 . rename_i x;split at q
   . rename_i xs ex;obtain⟨v1,rfl,D⟩:=ke B rfl;obtain⟨Z,Q,rfl,g1,c1⟩:=Ao u D ex;obtain⟨u1,rfl,A⟩:=vals1 W;cases A;obtain⟨J,_,E⟩:=vi w (pK v c1);show Lq E λg L i1 kp=>?_;obtain⟨o1,C⟩:=E.some;let l:Z<d.heap.objs.size:=XQ C;show wpAny_pyIter_enum (s:={d with heap:=g}) L ?_;show⟨d.heap.objs.size+1,[d.heap.objs.size+1,d.heap.objs.size],_,_,H1,rfl,w.kept (t':=d.toks) kp,KI (KY x) (ZG (Yp _)) (X_ (Yk l)) (X_ l),⟨⟨_,L⟩,i1⟩,λb M=>?_,?_⟩
     . have m:d.heap.objs.size<=b:=by
        simp![XU,Y9,abt]at M;rcases M with rfl|rfl
        . show Nat.le_succ _
        show Xv _
       show w.xD m (w.aO.fresh m)
     show k _ _ c q _ f e H1 O v u (OR λα' G' T V S' o=>?_);obtain⟨Y,y,e1,f1,d1⟩:=Ao S' (D.step V) o;cases e1;show⟨y,d1,f1⟩
   show q.elim
 show q.elim
def Pj{st:ag}{x:D}{xs:List D}{K:List D->(ag->Prop)->ag->Prop}(ex:items? st x=some xs)(k:∀ok:ag->Prop,(∀a,items? a x=some xs->ok a)->K (l_ 0 xs) ok st):uJ [x] st K:=by
 unfold uJ HF;simp![ex];show k _ λa b=>b
def KC{X:Cx}{e:DA}(i:Gl X "enumerate")(h:X.mg "enumerate"=none)(d:JA X [a] e)(g:notStar a=true:=by rfl):JI X (.Tuple c f b) (.Call (.Name "enumerate" p) [a] [] pos) (HA e):=by
 unfold JI;unfold JA at d;show PY i h d (dk g)
end L3
namespace L3
open PySem L2
open PySem.Spec hiding items?
open PyProof.Rows hiding St
end L3
namespace L3
open PySem L2
open PySem.Spec hiding items?
open PyProof.Rows hiding St
open PySem PySem.Spec L2 PySem.SeqAt
end L3
namespace L3
open PySem L2
open PySem.Spec hiding items?
open PyProof.Rows hiding St
end L3
namespace L3
open PySem L2
open PySem.Spec hiding items?
open PyProof.Rows hiding St
open Sem (wp)
end L3
namespace L3
open PySem L2
open PySem.Spec hiding items?
open PyProof.Rows hiding St
def putD(f:Str)(v:D):List (Str×D)->List (Str×D)
 | []=>[(f,v)]
 |(g,x)::r=>if g=f then(g,v)::r else(g,x)::putD f v r
def mF.look:∀ {fs:List (Str×D)} {vs:List (Str×V)},mF α H fs vs->fs.lookup f=some v->∃u,vs.lookup f=some u/\Rep α H v u
 | [],_,_,e=>by cases e
 |(g,x)::fs,_,.cons (b:=q) h t,e=>by
  obtain⟨i,y⟩:=q;obtain⟨d,c⟩:=h;simp only at d c;subst d;rw[Yy]at e⊢;cases a:f==g with
  |true=>rw[a]at e;cases e;show⟨y,rfl,c⟩
  |false=>rw[a]at e;show mF.look t e
def mF.none:∀ {fs:List (Str×D)} {vs:List (Str×V)},mF α H fs vs->fs.lookup f=Option.none->vs.lookup f=Option.none
 | [],_,.nil,_=>rfl
 |(g,x)::fs,_,.cons (b:=q) h t,e=>by
  obtain⟨i,y⟩:=q;obtain⟨c,d⟩:=h;simp only at c d;subst c;rw[Yy]at e⊢;cases a:f==g with
  |true=>rw[a]at e;cases e
  |false=>rw[a]at e;show mF.none t e
def mF.put(r:Rep α H d v):∀ {fs:List (Str×D)} {vs:List (Str×V)},mF α H fs vs->mF α H (putD f d fs) (ja f v vs)
 | [],_,.nil=> .cons ⟨rfl,r⟩ .nil
 |(g,x)::fs,_,.cons (b:=q) h t=>by
  obtain⟨i,y⟩:=q;obtain⟨e,c⟩:=h;simp only at e c;subst e;unfold putD ja;by_cases a:g=f
  . rw[XB a,XB a];show .cons ⟨rfl,r⟩ t
  rw[Xx a,Xx a];show .cons ⟨rfl,c⟩ (mF.put r t)
def M6(C:Addr)(f:Str)(d:D)(st:ag)(K:DK):Prop:=match d with
 | .ref n=>(match st[n]? with|some (.ins a fs)=>a=C/\∃v,fs.lookup f=some v/\K v st|_=>False)
 |_=>False
@[irreducible] def Ir(C:Addr)(f:Str):D->ag->DK->Prop:=M6 C f
def bX(C:Addr)(f:Str)(b:DE):DE:=λσ c K=>b σ c λd a=>Ir C f d a K
def aR{C:Addr}{f:Str}{n:Nat}{st:ag}{K:DK}{fs:List (Str×D)}{v:D}(e:st[n]?=some (.ins C fs))(h:fs.lookup f=some v)(k:K v st):Ir C f (.ref n) st K:=by
 unfold Ir M6;simp![e];show⟨trivial,v,h,k⟩
def Iy(C:Addr)(f:Str)(x d:D)(st:ag)(K:ag->Prop):Prop:=match x with
 | .ref n=>(match st[n]? with|some (.ins a fs)=>a=C/\fs.length<1000/\K (st.set n (.ins C (putD f d fs)))|_=>False)
 |_=>False
@[irreducible] def Ce(C:Addr)(f:Str):D->D->ag->(ag->Prop)->Prop:=Iy C f
def fD(C:Addr)(f:Str)(to e:DE):DS:=λD σ g=>e σ g λd c=>to σ c λx b=>Ce C f x d b λa=>D.nx σ a
def dP{C:Addr}{f:Str}{n:Nat}{d:D}{st:ag}{K:ag->Prop}{fs:List (Str×D)}(e:st[n]?=some (.ins C fs))(h:fs.length<1000)(k:K (st.set n (.ins C (putD f d fs)))):Ce C f (.ref n) d st K:=by
 unfold Ce Iy;simp![e];show⟨trivial,h,k⟩
def Cm(C:Addr)(m:Str)(x:D)(st:ag)(k:Prop):Prop:=match x with
 | .ref n=>(match st[n]? with|some (.ins a fs)=>a=C/\fs.lookup m=none/\k|_=>False)
 |_=>False
@[irreducible] def yt(C:Addr)(m:Str):D->ag->Prop->Prop:=Cm C m
def de{C:Addr}{m:Str}{n:Nat}{st:ag}{k:Prop}{fs:List (Str×D)}(e:st[n]?=some (.ins C fs))(h:fs.lookup m=none)(q:k):yt C m (.ref n) st k:=by
 unfold yt Cm;simp![e];show⟨trivial,h,q⟩
def cQ(C:Addr)(m:Str)(S:cf)(to:DE)(t:DA):DE:=λσ c K=>to σ c λx a=>yt C m x a (t σ a λd b=>S (x::d) b K)
def pP(C:Addr)(S:cf)(t:DA):DE:=λσ c K=>t σ c λd a=>S (.ref a.length::d) (a++[.ins C []]) λr b=>r= .av/\K (.ref a.length) b
section
variable {X:Cx}{C f g:Addr}{fd:FuncData}{k:Nat}{x m fl:Str}{e o value:Expr}{es:List Expr}{p pos pos' apos:Pos}{te to:DE}{t:DA}{S:cf}{ps:List Str}
def Vl(c:o4 X.K C)(na:dE X.K C fl)(D:PE X e (LE te))(E:attributeBase e fl X.env (eval e X.env)=eval e X.env):PE X (.Attribute e fl pos) (LE (bX C fl te)):=PE.imp (R8 D E) λσ H Q ⟨α,j,r,K,G,F,P,R,S,t,k⟩=>by
 show⟨α,j,r,_,G,F,P,R,S,t,λd n q O T H1 v s i h z=>?_⟩;unfold Ir M6 at q;cases d<;>try show q.elim
 simp only at q;split at q
 . rename_i U fs M;obtain⟨rfl,w,A,q⟩:=q;obtain⟨a,L,N,l,J,I⟩:=h.ze M;let b:=ee L z;subst b;obtain⟨u,B,y⟩:=I.look A;show⟨a,_,N,l,u,rfl,i.get J,c,na,B,(k.at s).here i q h y⟩
 show q.elim
def RV(c:o4 X.K C)(na:dE X.K C fl)(T:PE X o (LE to))(O:PE X value (LE te))(Q:swapsWith value (some (.Attribute o fl pos')) pos.line X.env=pure false):PS X (.Assign [.Attribute o fl pos'] value pos) (LS (fD C fl to te)):=PS.imp (QS T O Q) λD σ H ⟨α,i,K,DD,G,F,P,R,S,t,k⟩=>by
 show⟨α,i,K,_,G,F,P,R,S,t,λd j q I G1 H1 v n Y W M=>?_⟩;show⟨I,i,j,_,G1,F,Y,R.step n,W,q,λx J b y Z H2 v2 l E B L=>?_⟩;unfold Ce Iy at b;cases x<;>try show b.elim
 simp only at b;split at b
 . rename_i C' fs V;obtain⟨rfl,U,b⟩:=b;obtain⟨a,u,w,h,A,z⟩:=B.ze V;let r:=ee u L;subst r;let s:some a∈y:=XS u;let N:h.length<1000:=by rw[<-z.length];show U
   show⟨a,_,w,h,rfl,E.get A,c,na,N,?_⟩;show((k.nx.at n).at l) i _ b y (upd Z a (.ins _ w (ja fl v h))) _ σ (Step.write s) (E.write A) (((R.step n).step l).step (Step.write s)) ?_;show B.write u ⟨w,ja fl v h,bf,(z.put (M.step l)).step (Step.write s)⟩
 show b.elim
def LE.Ue(h:LE (cQ C m S to t) σ H Q):Hl C m (fm S) [] E0 (LE to) (LA t) σ H Q:=by
 obtain⟨α,j,D,K,G,F,P,R,Sr,B,k⟩:=h;show⟨α,j,D,_,G,F,P,R,Sr,B,λd c q z Y H1 v r w u s=>?_⟩;unfold yt Cm at q;cases d<;>try show q.elim
 simp only at q;split at q
 . rename_i n C' fs O;obtain⟨rfl,J,q⟩:=q;obtain⟨a,N,T,A,M,L⟩:=u.ze O;let i:=ee N s;subst i;show⟨a,T,A,rfl,w.get M,L.none J,?_⟩;show⟨z,j,c,_,Y,F,w,R.step r,u,q,λds b I y W H2 Z l V U E=>?_⟩;try dsimp only
   rw[Zb];show⟨y,_,b,K,W,F,V,by unfold aM;show⟨_,_,rfl,s.step l,E⟩,U,I,(k.at r).at l⟩
 show q.elim
def LE.make(h:LE (pP C S t) σ H Q):H0 C (fm S) [] E0 (LA t) σ H Q:=by
 obtain⟨α,M,T,K,G,F,P,R,Sr,O,k⟩:=h;show⟨α,M,T,_,G,F,P,R,Sr,O,λY b q i s H1 us U L z V=>?_⟩;intro x a W r y;let l:=(L.none r).1;let J:=L.laid (o:= .own x) r;let S2:=z.laid (o:= .own x) l;let j:upd H1 a (.own x) x=none:=by rw[aF (XI y)];show W
 let n:=(J.none j).1;let P3:=J.laid (o:= .ins C a []) j;let Z:=S2.cell (o:= .ins C a []) (c:= .ins C []) n ⟨a,[],bf,.nil⟩;let B:Step i s i (upd s a (.own x)):=Step.laid l;let A:Step i (upd s a (.own x)) (i++[some x]) (upd (upd s a (.own x)) x (.ins C a [])):=Step.cell n
 let E:Rep (i++[some x]) (upd (upd s a (.own x)) x (.ins C a [])) (.ref b.length) (.ref x):=by
  unfold Rep;show .inr ⟨x,?_,rfl⟩;rw[Yi (by rw[z.len];show Xv _),z.len,Zs];rfl
 rw[Zb];show⟨i++[some x],.ref b.length::Y,b++[.ins C []],_,_,F,P3,by unfold aM;show⟨_,_,rfl,E,(V.step B).step A⟩,Z,q,λd u w N G' H' v D P' S' I=>?_⟩;obtain⟨rfl,w⟩:=w;unfold Rep at I;show⟨I,(((k.at U).at B).at A) _ u w N G' H' _ D P' S' (E.step D)⟩
end
def QR(a:Int)(n:Nat):It:=⟨λi _=>i<n,λi H x b=>b=H/\x= .int (a+(i:Nat)*(-1)),λi _=>n<=i⟩
def J_{P:Program}{w:World}{K:PySem.W.Frag}{F:Expr}(it:Addr)(a:Int)(n:Nat):Turn P w K F (QR a n) [it] it (λi h=>IsRangeIter h it (a+(i:Nat)*(-1)) ((n:Int)-(i:Nat)) (-1)) where
 mem:=by simp
 obj:=λi h c b f=>by
  let e:b=it:=by simpa using f
  subst e
  show⟨_,c,λv z=>by
   let D:Data.fields _=Data.cell v:=z;cases D⟩
 keep:=λi h l c k=>k it (by simp) _ c
 item:=by
  intro X r m u q i d s σ H E I j c p;subst r m u;obtain⟨C,B,L,A,y,x⟩:=j it (by simp);let W:=Walks.range (prog:=X.prog) (w:=X.w) (I.ok.hd q) it a (-1) n;show W.item i s _ _ p c λv l tk J g G=>?_;obtain⟨t,rfl⟩:=J;let N:Inv X d σ H {s with heap:=l,toks:=tk}:=I.turned (λb o f e=>G b o (by simpa using f) e) C B A y x;show⟨_,rfl,Ca (s:={s with heap:=l,toks:=tk}) (n:="range_iterator") g rfl rfl ⋯ ⟨.int (a+(i:Nat)*(-1)),H,N,⟨t,rfl⟩,⟨rfl,rfl⟩,g,λb f=>(j b f).1⟩⟩
 done:=by
  intro X r m u q i d s σ H E I j c p;subst r m u;obtain⟨C,B,L,A,y,x⟩:=j it (by simp);show wpAny_pyNext_range_end (I.ok.hd q) c (by let:n<=i:=p;lia) λl M=>⟨rfl,I.turned (t':=s.toks) (λb o f e=>M b o f e) C B A y x⟩
 self:=λ_ _ _ _ _ c h=>wpAny_pyIter_rangeiter c h
def BD(a b:Int):Builtin.Range.rangeSize a b (-1)=((a-b).toNat:Int):=by
 unfold Builtin.Range.rangeSize;rw[Xx ⋯];let e:(a-b-1)/(- -1:Int)=a-b-1:=by simp
 rw[e];split<;>lia
def small_down(f: -(2^62)<=a)(d:a<2^62)(e: -(2^62)<=b)(c:b<2^62):Builtin.Range.small a b (-1)=true:=by
 unfold Builtin.Range.small;rw[BD];simp![Builtin.Range.rangeFitsLong,Ym,aaQ,ZA,Zm,show¬((-1:Int)>0) by decide,Z9];lia
def N1(b:TA):TI:=λσ H R=>b σ H λa H1=>∃i j:Int,a=[.int i,.int j,.int (-1)]/\(-(2^62)<=i/\i<2^62/\ -(2^62)<=j/\j<2^62)/\R (QR i (i-j).toNat) H1
section
variable {X:Cx}{tg:Expr}
def KU{a b c:Expr}{w:TA}{p pos:Pos}(E:Gl X "range")(D:X.mg "range"=none)(G:PA X [a,b,c] w)(C:notStar a=true:=by rfl)(v:notStar b=true:=by rfl)(u:notStar c=true:=by rfl):
 PI X tg (.Call (.Name "range" p) [a,b,c] [] pos) (N1 w):=by
 intro d s σ H R I h;show Call_ (nH I E D boot_range (YS (cp (G pos d s σ H _ I h) λN f ⟨M,H1,L,x,n⟩=>?_) (dk C) (mr (by simp[ip,v,u]))));obtain⟨i,j,e,⟨n,B,A,z⟩,q⟩:=n;subst e;cases x with
 |cons r k=>
  cases k with
  |cons y k=>
   cases k with
   |cons m k=>
    cases k;obtain⟨t,rfl⟩:=r;obtain⟨t',rfl⟩:=y;obtain⟨g,rfl⟩:=m;show call_range_3 ⋯ ?_ (Or.inl (abr ∅));show wpAny_pyIter_range (IsRange.new ..) (small_down n B A z) ?_;let l:Inv X d σ H1 {f with heap:=f.heap.push {cls:= .type "range",data:= .fields #[.int i t,.int j t',.int (-1) g]},toks:=f.toks}:=L.kept λb o e=>XF _ e;generalize({f with heap:=f.heap.push {cls:= .type "range",data:= .fields #[.int i t,.int j t',.int (-1) g]},toks:=f.toks}:Shared)=s2 at l⊢;show⟨s2.heap.objs.size,[s2.heap.objs.size],_,_,H1,rfl,l.kept (t':=s2.toks) λb o e=>XF _ e,J_ _ i (i-j).toNat,?_,λb F=>?_,q⟩
    . change IsRangeIter _ _ (i+((0:Nat):Int)*(-1)) ((((i-j).toNat:Nat):Int)-((0:Nat):Int)) (-1);let K:i+((0:Nat):Int)*(-1)=i:=()
      let J:(((i-j).toNat:Nat):Int)-((0:Nat):Int)=Builtin.Range.rangeSize i j (-1):=by rw[BD];lia
      rw[K,J];show X5 _ rfl
    have e:b=s2.heap.objs.size:=by simpa using F
    subst e;show l.xD (Xv _) (l.aO.fresh (Xv _))
end
def ju(a:Int)(n:Nat):List D:=(List.range n).map λ(k:Nat)=>D.int (a+(k:Nat)*(-1))
def Bh{n k:Nat}:(ju a n)[k]?=if k<n then some (.int (a+(k:Nat)*(-1)))else none:=by
 unfold ju;rw[XJ];by_cases h:k<n
 . rw[ZO h,XB h];rfl
 rw[Zw (by simpa using h),Xx h];rfl
def oN:(ju a n).length=n:=by unfold ju;simp
def Qp:xY (QR a n) α G (λ_=>True) (ju a n) where
 stop:=λm f e h g c s P S o b=>by rw[oN]at b;show b
 go:=λm d f e h g c s P S o b=>by
  rw[Bh]at b;split at b
  . assumption
  cases b
 rf:=λm d f e h g c x i s P S o b y=>by
  obtain⟨rfl,rfl⟩:=y;rw[Bh]at b;split at b
  . cases b;show⟨e,Step.refl,P,S,by unfold Rep;rfl⟩
  cases b
def Uq(b:List D)(a:ag)(K:List D->(ag->Prop)->ag->Prop):Prop:=match b with
 | [.int i,.int j,.int c]=>(c= -1/\ -(2^62)<=i/\i<2^62/\ -(2^62)<=j/\j<2^62)/\K (ju i (i-j).toNat) (λ_=>True) a
 |_=>False
@[irreducible] def Ct:List D->ag->(List D->(ag->Prop)->ag->Prop)->Prop:=Uq
def Ad(t:DA):DI:=λσ b K=>t σ b λc a=>Ct c a K
def Ji{e a:Expr}(h:PI X e a (N1 (LA t))):PI X e a (LI (Ad t)):=PI.imp h λσ H R ⟨α,m,o,K,G,F,P,z,S,t,k⟩=>by
 show⟨α,m,o,_,G,F,P,z,S,t,λx b q n B H1 C p A y d=>?_⟩;unfold Ct at q;match x,q,d with
 | [.int i,.int j,.int c],q,d=>
   obtain⟨v,u,w,rfl,l,g,f⟩:=Iw d rfl;unfold Rep at l g f;subst l g f;obtain⟨⟨rfl,s⟩,r⟩:=q;show⟨i,j,rfl,s,k _ _ b r _ n B H1 p A y Qp⟩
def OH{st:ag}{i j:Int}{K:List D->(ag->Prop)->ag->Prop}(h: -(2^62)<=i/\i<2^62/\ -(2^62)<=j/\j<2^62)(k:K (ju i (i-j).toNat) (λ_=>True) st):Ct [.int i,.int j,.int (-1)] st K:=by unfold Ct;show⟨⟨rfl,h⟩,k⟩
def LW{X:Cx}{h a b c:Expr}{p pos:Pos}{g:DA}(k:Gl X "range")(j:X.mg "range"=none)(f:JA X [a,b,c] g)(i:notStar a=true:=by rfl)(e:notStar b=true:=by rfl)(d:notStar c=true:=by rfl):JI X h (.Call (.Name "range" p) [a,b,c] [] pos) (Ad g):=by
 unfold JI;unfold JA at f;show Ji (KU k j f i e d)
section
variable {X:Cx}
def Uh:V->V->Hp->VK->Prop:=λo i H Q=>∃p a k j v,o= .ref p/\i= .int k/\H p=some (.lst a)/\0<=k/\kE a.length k=some j/\a[j]?=some v/\Q v H
def K3:RT X Uh:=by
 intro c s σ H o i C D Q I f g h;obtain⟨p,B,k,j,v,rfl,rfl,m,e,x,l,q⟩:=h;cases f;obtain⟨t,rfl⟩:=g;obtain⟨A,n,r,u,E⟩:=I.lst m;obtain⟨d,K,J,y⟩:=zM x;let G:=r.length;let F:=sE
 let hk:k.toNat=j:=by
  rw[abI e y]at d;show Yx d
 obtain⟨w,z,a⟩:=r.get l;let b:s.heap.IsList p A.toArray:=⟨_,u,rfl,n,rfl⟩
 show wpAny_getItem_list b e () (by rw[hk];simpa using z) ⟨v,H,I,a,q⟩
end
def HK(x y:D)(st:ag)(K:DK):Prop:=match x,y with
 | .ref n,.int k=>(match st[n]? with|some (.lst a)=>0<=k/\(match eF a k with|some (.int u)=>K (.int u) st|_=>False)|_=>False)
 |_,_=>False
@[irreducible] def Cd:D->D->ag->DK->Prop:=HK
def Io(f:Int->Int->Int)(x y a d:D)(st:ag)(K:ag->Prop):Prop:=match a,d with
 | .int u,.int v=>xX x y (.int (f u v)) st K
 |_,_=>False
@[irreducible] def Cu(f:Int->Int->Int):D->D->D->D->ag->(ag->Prop)->Prop:=Io f
def ED(f:Int->Int->Int)(to h i:DE):DS:=λD σ j=>to σ j λx g=>h σ g λy e=>Cd x y e λu c=>i σ c λd b=>Cu f x y u d b λa=>D.nx σ a
def OA{n:Nat}{k u:Int}{xs:List D}{st:ag}{K:DK}(e:st[n]?=some (.lst xs))(b:0<=k)(a:eF xs k=some (.int u))(q:K (.int u) st):Cd (.ref n) (.int k) st K:=by
 unfold Cd HK;simp![e,a];show⟨b,q⟩
def P0{f:Int->Int->Int}{n j:Nat}{k u v:Int}{xs:List D}{st:ag}{K:ag->Prop}(e:st[n]?=some (.lst xs))(a:kE xs.length k=some j)(q:K (st.set n (.lst (xs.set j (.int (f u v)))))):Cu f (.ref n) (.int k) (.int u) (.int v) st K:=by
 unfold Cu Io xX;simp![e,a];show q
section
variable {X:Cx}{e o i value:Expr}{es:List Expr}{te to ti:DE}{t:DA}{pos pos' tpos apos p:Pos}{C f:Addr}{fl m x:Str}{S:cf}{k:Nat}{fd:FuncData}{ps:List Str}
def LY{g:Int->Int->Int}(ho:PE X o (LE to))(hi:PE X i (LE ti))(he:PE X e (LE te))(hp:Gh X op (I_ g))
 (ha:∀J K new,augStore i J K new=(do holding [new,J,K] (setItem J K new);release [new,J,K] [];pure .next)):PS X (.AugAssign (.Subscript o i tpos) op e pos) (LS (ED g to ti te)):=PS.imp (Qz ho hi K3 he hp set_list ha) λD σ H ⟨α,E,st,DD,G,F,P,R,S,t,k⟩=>by
 show⟨α,E,st,_,G,F,P,R,S,t,λx N q α1 G1 H1 v1 I P1 S1 r1=>?_⟩;show⟨α1,E,N,_,G1,F,P1,R.step I,S1,q,λy M b α2 G2 H2 v2 r P2 S2 Q=>?_⟩;unfold Cd HK at b;cases x<;>cases y<;>try show b.elim
 rename_i n U;simp only at b;split at b
 . rename_i xs ex;obtain⟨h0,b⟩:=b;split at b
   . rename_i u B;obtain⟨a,ea,vs,hv,rv⟩:=S2.ia ex;let T:=ee ea (r1.step r);subst T;unfold Rep at Q;unfold eF at B;cases ej:kE xs.length U with
     |none=>rw[ej]at B;cases B
     |some j=>
      rw[ej]at B;let W:xs[j]?=some (.int u):=B;obtain⟨w,hw,s⟩:=rv.get W;unfold Rep at s;subst s;show⟨a,vs,U,j,.int u,rfl,Q,P2.get hv,h0,by rw[<-rv.length];show ej,hw,?_⟩;show⟨α2,E,M,_,G2,F,P2,(R.step I).step r,S2,b,λd ah c L G3 H3 v3 O P3 S3 r3=>?_⟩;unfold Cu Io at c;cases d<;>try show c.elim
      rename_i v;unfold Rep at r3;show⟨u,v,rfl,r3,?_⟩;unfold xX at c;simp only at c;split at c
      . rename_i ab e3;split at c
        . rename_i V Z;obtain⟨a',h,l,A,z⟩:=S3.ia e3;let ra:=ee h ((r1.step r).step O);cases ra;let Y:some a∈L:=XS h;show⟨a,l,U,V,rfl,Q,P3.get A,by rw[<-z.length];show Z,?_⟩;show(((k.nx.at I).at r).at O) E _ c L (upd G3 a (.lst (l.set V (.int (g u v))))) _ σ (Step.write Y) (P3.write A) ((((R.step I).step r).step O).step (Step.write Y)) ?_;show S3.write h ⟨_,bf,(bI.mpr (tO (show Rep L G3 (.int (g u v)) (.int (g u v)) by unfold Rep;rfl) V (bI.mp z))).step (Step.write Y)⟩
        show c.elim
      show c.elim
   show b.elim
 show b.elim
def Jr{value o:Expr}{fl:Str}{pos':Pos}:swapsWith value (some (.Attribute o fl pos')) n env=pure false:=by cases value<;>rfl
def a9(c:o4 X.K C)(na:dE X.K C fl)(a:JE X e te)(b:attributeBase e fl X.env (eval e X.env)=eval e X.env:=by rfl):JE X (.Attribute e fl pos) (bX C fl te):=by unfold JE at*;show Vl c na a b
def d_(c:o4 X.K C)(na:dE X.K C fl)(b:JE X o to)(a:JE X value te):JS X (.Assign [.Attribute o fl pos'] value pos) (fD C fl to te):=by unfold JS;unfold JE at*;show RV c na b a Jr
def MW{g:Int->Int->Int}(d:JE X o to)(h:JE X i ti)(j:JE X e te)(c:Gh X op (I_ g))
 (l:∀a b new,augStore i a b new=(do holding [new,a,b] (setItem a b new);release [new,a,b] [];pure .next):=by intros;rfl):JS X (.AugAssign (.Subscript o i tpos) op e pos) (ED g to ti te):=by unfold JS;unfold JE at*;show LY d h j c l
def d6{pl:Sem Bool}(n:JE X o to)(c:o4 X.K C)(l:Meth X.K C m f)(F:cV X.prog X.w X.K X.mg X.base eN k f fd ps (fm S))(j:dv k X.A)(q:Binds X.K fd ps [])(b:JA X (e::es) t)
 (g:notStar e=true:=by rfl) (a:ip es=true:=by rfl)
 (d:eval (.Call (.Attribute o m apos) (e::es) [] pos) X.env=(do
   let ov <-eval o X.env
   standAt apos.atName
   let(f,first) <-holding [ov] (getMethod ov m pl)
   callWith pos f first (backTo pos (starEach (e::es) X.env)) (backToKw pos (keywordEach [] X.env))):=by rfl):
 JE X (.Call (.Attribute o m apos) (e::es) [] pos) (cQ C m S to t):=by
 unfold JE at*;unfold JA at b;show PE.imp (OY n c l F j q .nil yP b (dk g) (mr a) d) λ_ _ _ h=>LE.Ue h
def Gj{pl:Sem Bool}(J:JE X o to)(c:o4 X.K C)(E:Meth X.K C m f)(F:cV X.prog X.w X.K X.mg X.base eN k f fd ps (fm S))(D:dv k X.A)(L:Binds X.K fd ps [])
 (B:eval (.Call (.Attribute o m apos) [] [] pos) X.env=(do
   let ov <-eval o X.env
   standAt apos.atName
   let(f,first) <-holding [ov] (getMethod ov m pl)
   callWith pos f first (backTo pos (starEach [] X.env)) (backToKw pos (keywordEach [] X.env))):=by rfl):
 JE X (.Call (.Attribute o m apos) [] [] pos) (cQ C m S to ai):=by
 unfold JE at*;show PE.imp (L7 J c E F D L .nil yP B) λσ H Q h=>?_;obtain⟨α,s,z,K,G,F,P,R,Sr,y,k⟩:=h;show⟨α,s,z,_,G,F,P,R,Sr,y,λd b q u V H1 v A r l j=>?_⟩;unfold yt Cm at q;cases d<;>try show q.elim
 simp only at q;split at q
 . rename_i n W fs T;obtain⟨rfl,I,q⟩:=q;obtain⟨a,O,U,w,N,M⟩:=l.ze T;let g:=ee O j;subst g;show⟨a,U,w,rfl,r.get N,M.none I,u,_,b,K,V,F,r,by unfold aM;show⟨_,_,rfl,j,by unfold aM;rfl⟩,l,q,k.at A⟩
 show q.elim
def uA(M:Mk X.K C f)(F:cV X.prog X.w X.K X.mg X.base eN k f fd ps (fm S))(j:dv (k+1) X.A)(l:Gl X x)(b:X.mg x=some (.ref C))(n:Binds X.K fd ps [])(d:JA X (e::es) t)(c:(x==("__debug__":Str))=false)
 (g:notStar e=true:=by rfl) (a:ip es=true:=by rfl):JE X (.Call (.Name x p) (e::es) [] pos) (pP C S t):=by
 unfold JE;unfold JA at d;show PE.imp (Pp M F j l b n .nil yP d c (dk g) (mr a)) λ_ _ _ h=>LE.make h
end
end L3
namespace L2
open PySem PySem.Spec PyProof.Rows
structure Entry(K:PySem.W.Frag)(ts:List (Addr×Addr))(a:Addr)(ns:List Int)(H:Hp):Prop where
 lst:oQ K H a (ns.map V.int)
 tab:∀q∈ts,H q.2=some (.mZ #[])/\q.2≠a
def Bj:∀ {vs:List Value} {ns:List Int},IntsAre vs ns->Vals (ns.map V.int) vs
 |_,_,.nil=> .nil
 |_,_,.cons n t h=> .cons ⟨t,rfl⟩ (Bj h)
structure QI(K:PySem.W.Frag)(ts:List (Addr×Addr))(h:Heap):Prop where
 hd:∀q∈ts,PySem.W.codeHdIn K q.1 q.2=true
 no:∀q∈ts,K.lookup q.2=none
 at':∀q∈ts,h.get? q.2=some (PySem.W.tabObj #[])
def JY{P:Program}{K:PySem.W.Frag}{N mb:Str->Option Value}{k:Nat}{fd:FuncData}{c:Shared}{vs:List Value}{ns:List Int}
 (KX:K.In c.heap) (T:c.heap.Ns mainGlobals N) (hb:c.heap.Ns builtinsNs mb) (a4:∀x:Str,x≠"__name__"->mb x=bootBuiltins x) (U:c.heap.NoLimit) (az:c.heap.NoSeer) (a0:P.given.tree=none)
 (a3:∃O E,N "__builtins__"=some (.ref O)/\O≠builtinsNs/\c.heap.get? O=some E/\E.cls= .type "module"/\E.dict=some builtinsNs/\E.data= .plain) (B:QI K ts c.heap) (hg:c.gens= #[])
 (A:c.heap.get? a=some {cls:= .type "list",data:= .seq vs.toArray}) (hi:IntsAre vs ns) (hl:ns.length<=sizeLine) (hr:dv k callerA)
 (F:∀i:Heap,K.In i->i.Ns mainGlobals N->cV P w K N i (λ_ _ _ _ _ _=>False) k fa fd [x] sp) (I:∀(s:Shared) (u:Value),BindsTo s fd ⟨[u],[]⟩ [(x,u)])
 (av:∀H:Hp,Entry K ts a ns H->sp [.ref a] H (λv _=>v= .bl true) λ_ _ _=>False):
 codeAny (model P w) callerA (.call (.ref fa) ⟨[.ref a],[]⟩) (λr s'=>r= .ok (.ret (.bool true))/\OldK c.heap s'.heap/\s'.os=c.os/\AllBare s'.gens) c:=by
 let rv:=Bj hi;let S:=hi.length
 let R:∀q∈ts,q.2≠a:=λq g z=>by
  let:=B.at' q g;rw[z,A]at this;cases this
 letI Z:Option HO:=match K.lookup a with
  |some _=>none
  |none=>some (.iP {cls:= .type "list",data:= .seq vs.toArray} (.lst (ns.map V.int)))
 letI H:Hp:=λb=>if b=a then Z else if b∈ts.map (·.2)then some (.mZ #[])else none
 let Ha:H a=Z:=XB rfl
 let Ht:∀q∈ts,H q.2=some (.mZ #[]):=λq g=>by
  change(if q.2=a then Z else if q.2∈ts.map (·.2)then some (HO.mZ #[])else none)=_;rw[Xx (R q g),XB (Yl g)]
 let Q:∀b u,H b=some u->(b=a/\K.lookup a=none/\u= .iP {cls:= .type "list",data:= .seq vs.toArray} (.lst (ns.map V.int)))\/(∃q∈ts,q.2=b/\u= .mZ #[]):=λb u e=>by
  let L:(if b=a then Z else if b∈ts.map (·.2)then some (HO.mZ #[])else none)=some u:=e;by_cases J:b=a
  . rw[XB J]at L
    let l:(match K.lookup a with
     |some _=>none
     |none=>some (HO.iP {cls:= .type "list",data:= .seq vs.toArray} (.lst (ns.map V.int))))=some u:=L
    cases q:K.lookup a with
    |some o=>rw[q]at l;cases l
    |none=>rw[q]at l;cases l;show .inl ⟨J,rfl,rfl⟩
  rw[Xx J]at L;by_cases G:b∈ts.map (·.2)
  . rw[XB G]at L;cases L;obtain⟨q,g,e⟩:=X8.mp G;show .inr ⟨q,g,e,rfl⟩
  rw[Xx G]at L;cases L
 let aO:jJ P w H c.heap:=λb u e=>by
  rcases Q b u e with⟨rfl,_,rfl⟩|⟨q,g,rfl,rfl⟩
  . show⟨A,by rw[Xr];show hl,vs,_,rv,A⟩
  show B.at' q g
 let hE:Entry K ts a ns H:=by
  show⟨?_,λq g=>⟨Ht q g,R q g⟩⟩;cases q:K.lookup a with
  |some o=>
   have e:=KX a o q;rw[A]at e;cases e;show .inr ⟨_,vs.toArray,_,q,rfl,rfl,rfl,by rw[XG,S];show hl,by simpa using rv⟩
  |none=>
   show .inl (.inr ⟨{cls:= .type "list",data:= .seq vs.toArray},?_⟩);rw[Ha]
   change(match K.lookup a with
    |some _=>none
    |none=>some (HO.iP {cls:= .type "list",data:= .seq vs.toArray} (.lst (ns.map V.int))))=_
   rw[q]
 let n:∀ {b:Addr} {o:Obj},c.heap.get? b=some o->(∀es ep,o.data≠ .seq es ep)->o.cls≠ .none->H b=none:=λ{b o} e d1 d2=>by
  cases q:H b with
  |none=>rfl
  |some u=>
   rcases Q b u q with⟨rfl,_,_⟩|⟨t,j,rfl,_⟩
   . rw[A]at e;cases e;show absurd rfl (d1 _ _)
   rw[B.at' t j]at e;cases e;show absurd rfl d2
 let f:∀ {b:Addr} {m:Str->Option Value},c.heap.Ns b m->(rR c.heap H).Ns b m:=λ{b m} ⟨o,es,ep,e,d,r⟩=>by
  show⟨o,es,ep,tw e ?_,d,r⟩;cases q:H b with
  |none=>rfl
  |some u=>
   rcases Q b u q with⟨rfl,_,_⟩|⟨t,j,rfl,_⟩
   . rw[A]at e;cases e;cases d
   rw[B.at' t j]at e;cases e;cases d
 let X:K.In (rR c.heap H):=λb o e=>tw (KX b o e) (by
  cases q:H b with
  |none=>rfl
  |some u=>
   rcases Q b u q with⟨rfl,z,_⟩|⟨t,j,rfl,_⟩
   . rw[z]at e;cases e
   rw[B.no t j]at e;cases e)
 obtain⟨O,E,b1,b2,b3,b4,b5,b6⟩:=a3;let W:(rR c.heap H).get? O=some E:=tw b3 (n b3 (λes ep z=>by rw[b6]at z;cases z) (λz=>by rw[b4]at z;cases z))
 let ab:(rR c.heap H).NoSeer:=by
  obtain⟨⟨m1,a1,a2⟩,⟨m2,c1,c2⟩,⟨m3,d1,d2⟩,⟨ar,M,ah,e1,l,D,e4,e5⟩⟩:=az;show⟨⟨m1,f a1,a2⟩,⟨m2,f c1,c2⟩,⟨m3,f d1,d2⟩,⟨ar,M,ah,f e1,l,tw D ?_,e4,e5⟩⟩;cases q:H M with
  |none=>rfl
  |some u=>
   rcases Q M u q with⟨rfl,_,_⟩|⟨t,j,rfl,_⟩
   . rw[A]at D;cases D;show absurd (show Value.type "list"=Value.type "module" from e4) (by intro z;injection z with z;show absurd z ⋯)
   rw[B.at' t j]at D;cases D;cases e4
 let hM:Mod K N (rR c.heap H):=⟨X,f T,⟨mb,f hb,a4⟩,let⟨mc,h1,h2⟩:=U;⟨mc,f h1,h2⟩,ab,⟨O,E,b1,b2,W,b4,b5,b6⟩⟩
 let e0:xy P w K N (rR c.heap H) callerA [] c H:=⟨rfl,hM,λb o e=>Qx e,abn (IP _ _),trivial,λb hb=>absurd (show b∈([]:List Addr)from hb) (by simp),aO,.of_eq hg,a0⟩
 show abo ((F _ X (f T)).run callerA [] c H ⟨[.ref a],[]⟩ [.ref a] [.ref a] _ _ hr e0 (I c (.ref a)) (.cons rfl .nil) (av H hE)) λr s' h=>?_;cases r with
 |error e=>show False.elim h
 |ok fl=>
  cases fl with
  |next=>show False.elim h
  |brk=>show False.elim h
  |cont=>show False.elim h
  |ret u=>
   obtain⟨v,H',os,Y,un,y,r',q⟩:=h;let q':v= .bl true:=q;subst q';obtain rfl:u=Value.bool true:=r';let aq:∀b:Addr,b∉sy ([]:List Env):=λb z=>absurd (show b∈([]:List Addr)from z) (by simp);show⟨rfl,⟨λb o e=>?_,λb o e=>un.there b o e (by simp)⟩,os,Y⟩;cases q:H b with
   |none=>show .inl (un.keep b o e q (aq b) (by simp))
   |some u=>
    rcases Q b u q with⟨rfl,_,rfl⟩|⟨t,j,rfl,rfl⟩
    . obtain⟨l,_⟩:=y b _ (un.qM b _ _ q);rw[A]at e;cases e;show .inl l
    obtain⟨p,e1⟩:=un.p_ _ _ q;let l:s'.heap.get? t.2=some {cls:= .none,data:= .fields (#[]++p)}:=y _ _ e1;let D:=B.at' t j;rw[D]at e;cases e;let C:PySem.W.CodeHd c.heap t.1 t.2:=PySem.W.codeHd_of_K KX (B.hd t j);show .inr (.inl ⟨(C.tab D).isCodeTable,rfl,#[],p,rfl,l⟩)
def TZ{l:PySem.W.OpenLaw}{n k:Nat}{d:DefRec}{K:Params->PySem.W.Frag}{sp:World->Sp}
 (y:l.most=some n) (i:n<=sizeLine) (p:d.params.defaults=[]) (r:dv k callerA) (t:importsNone q=true) (m:l.prog.given.tree=none)
 (C:∀(w:World) (h:Heap),YP w h->(K w.params).In h/\QI (K w.params) ts h)
 (F:∀(w:World) (mg:Str->Option Value) (fa:Addr) (h:Heap),(K w.params).In h->h.Ns mainGlobals mg->mg d.name=some (.ref fa)->
   ∃fd:FuncData,(∀(s:Shared) (u:Value),BindsTo s fd ⟨[u],[]⟩ [(x,u)])/\
    ∀b:Heap,(K w.params).In b->b.Ns mainGlobals mg->cV l.prog w (K w.params) mg b (λ_ _ _ _ _ _=>False) k fa fd [x] (sp w))
 (g:∀(w:World) (H:Hp) (a:Addr) (ns:List Int),ns.length<=n->Entry (K w.params) ts a ns H->sp w [.ref a] H (λv _=>v= .bl true) λ_ _ _=>False):
 PySem.W.WalkO q loose XP YP l.row.toRowW d [] (λf vs=>PySem.call f vs):=by
 show Att.EY y p λw M L mg O fa o N R J a vs ns G Y P Q A j e hints c z=>?_;obtain⟨KX,D⟩:=C w _ Y;obtain⟨fd,B,E⟩:=F w mg fa _ KX G.T.g j;show JY KX G.T.g G.T.b G.T.builtins G.T.nolimit (G.T.seer t) m G.T.bmain D z e hints (Xy c i) r E B λH I=>g w H a ns c I
end L2
namespace L3
open PySem PySem.Spec L2
open PyProof.Rows hiding St
section
variable {X:Cx}{pins:List (Addr×Obj)}{σ:L2.St}{H:Hp}{s:Shared}{p:Addr}{o o':Obj}{h':Heap}
def oa(I:Inv X pins σ H s)(f:∀v,o.data≠ .cell v)(c:o.isFreed=false:=by rfl):Inv X (pins++[(s.heap.objs.size,o)]) σ H {s with heap:=s.heap.push o,toks:=t'}:=by
 let d:=I.kept (h':=s.heap.push o) (t':=t') (λb u e=>XF _ e);show d.vQ λq a=>?_;rcases Yn.mp a with a|a
 . show d.pin q (XY _ a)
 have e:q=(s.heap.objs.size,o):=by simpa using a
 subst e;show⟨X5 _ c,I.aO.fresh (Xv _),ZG I.lt,I.Tq (Xv _),f⟩
def g0(I:Inv X (pins++[(p,o)]) σ H s):s.heap.get? p=some o/\H p=none/\p≠X.env.locals/\p∉X.fs/\∀v,o.data≠ .cell v:=
 I.pin (p,o) (XY _ (XY _ (YE.mpr rfl)))
def D4(I:Inv X (pins++[(p,o)]) σ H s):∀x c,X.env.cells.lookup x=some c->c≠p:=λx c e z=>by
 obtain⟨v,u,a,b⟩:=I.cell x c e;obtain⟨f,_,_,_,d⟩:=g0 I;rw[z,f]at a;cases a;show d v b
def qp(I:Inv X (pins++[(p,o)]) σ H s)(g:Heap.SameBut p s.heap h')(i:h'.get? p=some o')(j:∀v,o'.data≠ .cell v)(l:X.s₀.heap.objs.size<=p)(h:∀q∈X.pn++pins,q.1≠p):
 Inv X (pins++[(p,o')]) σ H {s with heap:=h',toks:=t'}:=by
 obtain⟨_,n,a,d,_⟩:=g0 I;let m:Inv X pins σ H s:=I.jz;let f:=m.turned (t':=t') (h':=h') (it:=p) (λb u k e=>(g.2 b k).trans e) n a (.inr l) (D4 I) h;show f.vQ λq c=>?_;rcases Yn.mp c with c|c
 . show f.pin q (XY _ c)
 have e:q=(p,o'):=by simpa using c
 subst e;show⟨i,n,a,d,j⟩
def Li(I:Inv X (pins++[(p,o)]) σ H s)(v:X.s₀.heap.objs.size<=p)(t:∀q∈X.pn++pins,q.1≠p)(new:eH X.prog X.w (upd H p u) s.heap p u):Inv X pins σ (upd H p u) s:=by
 obtain⟨D,n,d,l,_⟩:=g0 I;let a:∀ {b:Addr} {w:HO},H b=some w->b≠p:=λe=>eJ e n;let f:∀ {b:Addr} {w:Obj},X.s₀.heap.get? b=some w->b≠p:=λe=>X_ (XR (XQ e) v);show⟨I.ok,I.os,I.bare,⟨I.base.keep,I.base.slot,λb w e q r=>?_,I.base.there,λb h e=>?_,λb w y e=>?_,λb k e=>?_⟩,I.loc,I.cell,?_,λx c e=>?_,λq i=>?_,λb w e=>?_,I.len⟩
 . rw[aF (f e)];show I.base.free b w e q r
 . have:=I.base.rG b h e;rw[aF (a this)];show this
 . have:=I.base.qM b w y e;rw[aF (a this)];show this
 . obtain⟨m,q⟩:=I.base.p_ b k e;show⟨m,by rw[aF (a q)];show q⟩
 . rw[aF (XI d)];show I.free
 . rw[aF (D4 I x c e)];show I.kj x c e
 . have g:q∈X.pn++(pins++[(p,o)]):=by
    rcases Yn.mp i with z|z
    . show YU _ z
    show XY _ (YU _ z)
   obtain⟨C,B,A⟩:=I.pin q g;show⟨C,by rw[aF (t q i)];show B,A⟩
 by_cases j:b=p
 . subst j;rw[bf]at e;cases e;show new
 rw[aF j]at e;show(I.aO b w e).rZ (λ_ _ _ q=>q) (λc q=>by rw[aF (a q)];show q) λc h q=>by rw[aF (a q)];show q
end
def pD(X:Cx)(pins:List (Addr×Obj))(σ:L2.St)(R:Hp->Prop)(a:List (Addr×Obj))(s:Shared):Prop:=∃H,Inv X (pins++a) σ H s/\R H
section
variable {X:Cx}{pins:List (Addr×Obj)}{σ:L2.St}{R:Hp->Prop}{s:Shared}{A:Around}{E:Value->Shared->Prop}{a kS:Addr}{e1 e:Nat}{keys:Array Value}{P:PySem.Fin->Shared->Prop}
structure Own(X:Cx)(pins:List (Addr×Obj))(p:Addr):Prop where
 ge:X.s₀.heap.objs.size<=p
 ne:∀q∈X.pn++pins,q.1≠p
def vP(I:Inv X pins σ H s):Own X pins s.heap.objs.size:=⟨I.sz,λq b=>X_ (XQ (I.pin q b).1)⟩
def Ds(h:Own X pins p)(c:q.1≠p):Own X (pins++[q]) p:=⟨h.ge,λr b=>by
 rcases Yn.mp b with z|z
 . show h.ne r (YU _ z)
 rcases Yn.mp z with z|z
 . show h.ne r (XY _ z)
 have e:r=q:=by simpa using z
 rw[e];show c⟩
def CH(J:pD X pins σ R [x,y] s):∃H,Inv X ((pins++[x])++[y]) σ H s/\R H:=by
 obtain⟨H,I,r⟩:=J;show⟨H,by rw[Zh];show I,r⟩
def J0(I:Inv X ((pins++[x])++[y]) σ H s)(r:R H):pD X pins σ R [x,y] s:=⟨H,by rw[Zh]at I;show I,r⟩
def Dq{st:SortSt}(J:pD X pins σ R [(a,seqObj "list" #[] e1),(kS,seqObj "list" keys e)] s)(j:Own X pins a)(hk:Own X pins kS)(f:kS≠a)(d:keys.size<=sizeLine)(b:(arrOf st).size<=sizeLine)(n:failedOf st=none)
 (h:∀s' c,pD X pins σ R [(a,seqObj "list" ((arrOf st).map (·.2)) c)] s'->P (.done (.ret .none)) s'):
 wpAny (model X.prog X.w) A (PyProof.Rows.ksk_tail a false e1 (.ref kS) st) P E s:=by
 obtain⟨H,I,r⟩:=CH J;let i:=(g0 I).1;let m:=Y0 s.heap kS (Obj.mapSeq λ_=>(#[]:Array Value));let p:=qp (t':=s.toks) I m (aai i λ_=> #[]) (λv z=>by cases z) hk.ge (Ds hk f.symm).ne;let k:Inv X (pins++[(a,seqObj "list" #[] e1)]) σ H {s with heap:=s.heap.update kS (Obj.mapSeq λ_=>(#[]:Array Value)),toks:=s.toks}:=p.jz;let g:=(g0 k).1;let l:=Y0 (s.heap.update kS (Obj.mapSeq λ_=>(#[]:Array Value))) a (Obj.mapSeq λ_=>(arrOf st).map (·.2));let o:=qp (t':=s.toks) k l (aai g λ_=>(arrOf st).map (·.2)) (λv z=>by cases z) j.ge j.ne;unfold ksk_tail;simp![ZS,Z9];show Xw (aa_ i rfl ?_ d (Yc _));show Xw (wpAny_letGo ?_);show Xw (seqEpoch_at g rfl ?_);show Xw (aa_ g rfl ?_ (Yc _) (Nat.le_succ_of_le (by rw[Array.size_map];show b)));rw[n];simp![bne_self_eq_false,ZS,Z9];show XM (h _ _ ⟨H,o,r⟩)
def HH(kz:List Int)(vs out:List Value):Prop:=
 ∃b:List (Int×Value),b.Perm (kz.zip vs)/\out=b.map Prod.snd/\b.Pairwise λp q=>p.1<=q.1
def Gf{vs:List Value}(hk:IntsAre keys.toList kz){xs:Array Keyed}(f:xs.Perm (keys.zip vs.toArray))(d:SortedTo xs xs.size):HH kz vs (xs.map (·.2)).toList:=by
 obtain⟨c,i,h,g⟩:=ksk_out hk (b:=false) f d;show⟨c,i,h,g⟩
def Pt{kz:List Int}{vs:List Value}(J:pD X pins σ R [(a,seqObj "list" #[] e1),(kS,seqObj "list" keys e)] s)(q:Own X pins a)(hk:Own X pins kS)(g:kS≠a)(k:IntsAre keys.toList kz)(D:kz.length=vs.length)(m:vs.length<64)
 (h:∀s' out c,pD X pins σ R [(a,seqObj "list" out c)] s'->HH kz vs out.toList->P (.done (.ret .none)) s'):
 wpAny (model X.prog X.w) A (ksk_end a false vs.toArray e1 (.ref kS) keys) P E s:=by
 let l:keys.size=vs.length:=by let:=k.length;rw[ZN]at this;lia
 let r:(keys.zip vs.toArray).size=vs.length:=by rw[Array.size_zip,l,XG,abZ]
 let p:vs.length<=sizeLine:=Xy (YN m) ⋯;unfold ksk_end;simp![ZS,Z9];by_cases d:vs.toArray.size<2
 . rw[XB d,XB d];show Xw (XM ?_);rw[StateT.run_pure];show Xw (XM ?_);show Dq (st:=SortSt.mk' general' (keys.zip vs.toArray) #[] 7 none) J q hk g () (by change(keys.zip vs.toArray).size<=_;lia) rfl λs' c n=>h s' _ c n ?_;show Gf k (Array.Perm.refl _) λi j w v=>?_;let u:j<(keys.zip vs.toArray).size:=v;rw[XG]at d;let:i=j:=()
   rw[this];show aa0 _
 rw[Xx d,Xx d];rw[XG]at d;rw[ksk_kind k ()];show Xw (XM ?_)
 show Xw (Y3 (wpS_sortRuns (a₀:=keys.zip vs.toArray) (st:=SortSt.mk' oneType' (keys.zip vs.toArray) #[] 7 none)
  (Q:=λ_ b=>(arrOf b).Perm (keys.zip vs.toArray)/\failedOf b=none/\SortedTo (arrOf b) (keys.zip vs.toArray).size)
  (ksk_intKeys k) ⟨Array.Perm.refl _,rfl,rfl,rfl⟩ () () λb C B y=>⟨C,B,y⟩) ?_ λ_ _ z=>z)
 rintro⟨⟨⟩,b⟩ s' ⟨rfl,o,x,t⟩;let f:=o.size_eq;show Dq (st:=b) J q hk g () (by rw[f];lia) x λs' c n=>h s' _ c n (Gf k o (by rw[f];show t))
def Ma{kz:List Int}{vs:List Value}(J:pD X pins σ R [(a,seqObj "list" #[] e1),(kS,seqObj "list" #[] 0)] s)(G:Own X pins a)(hk:Own X pins kS)(n:kS≠a)(D:kz.length=vs.length)(o:vs.length<64)
 (d:∀(i:Nat) (v:Value) (k:Int),vs[i]?=some v->kz[i]?=some k->∀(g:List (Addr×Obj)) (s:Shared),pD X pins σ R g s->wpAny (model X.prog X.w) A (call f [v]) (λu s'=>(∃t,u= .int k t)/\pD X pins σ R g s') (λ_ _=>False) s)
 (h:∀s' out c,pD X pins σ R [(a,seqObj "list" out c)] s'->HH kz vs out.toList->P (.done (.ret .none)) s'):
 wpAny (model X.prog X.w) A (ksk_rest a f false vs.toArray e1 (.ref kS)) P E s:=by
 let B:vs.length<=sizeLine:=Xy (YN o) ⋯;unfold ksk_rest;show Xw (aaq ?_)
 first
  |rw[List.forIn_toArray]
  |(rw[<-Array.forIn_toList];simp![List.toList_toArray])
  |rw[<-Array.forIn_toList]
 show Xw (ksk_fold (λi s'=>∃l e,pD X pins σ R [(a,seqObj "list" #[] e1),(kS,seqObj "list" l e)] s'/\IntsAre l.toList (kz.take i)) vs 0 s ⟨#[],0,J,by simpa using IntsAre.nil⟩ ?st ?en)
 case st=>
  rintro j x s' y ⟨l,e,p,b⟩;simp![Z5]at b⊢;let O:j<vs.length:=(Xs.mp y).1;let m:kz[j]?=some (kz[j]'()):=XC _
  let N:l.size<=vs.length:=by
   let:=b.length;rw[ZN,YD]at this;lia
  show Xw (aa9 (Y3 (d j x _ y m _ s' p) (λv q F=>?_) λ_ _ z=>z.elim));obtain⟨⟨t,rfl⟩,L⟩:=F;obtain⟨H,I,r⟩:=CH L;let w:=(g0 I).1;let C:=Y0 q.heap kS (Obj.mapSeq (·.push (.int (kz[j]'()) t)));let M:=qp (t':=q.toks) I C (aai w (·.push (.int (kz[j]'()) t))) (λv z=>by cases z) hk.ge (Ds hk n.symm).ne;show Xw (aa_ w rfl ?_ () (Xy (abn (Array.size_push ..)) ()));show XM ⟨rfl,_,_,J0 M r,?_⟩;let K:kz.take (j+1)=kz.take j++[kz[j]'()]:=by rw[List.take_add_one,m];simp
  rw[K,Array.toList_push];show ksk_snoc b
 case en=>
  rintro s' ⟨l,e,p,b⟩;rw[show kz.take (0+vs.length)=kz from Yz ()]at b;obtain⟨H,I,r⟩:=CH p;show Xw (listItems_at (g0 I).1 rfl ?_);show Pt p G hk n b D o h
def GH{kz:List Int}{vs:List Value}(I:Inv X pins σ H s)(r:R H)(B:s.heap.IsList l vs.toArray)(S:kz.length=vs.length)(j:vs.length<64)
 (d:∀(i:Nat) (v:Value) (k:Int),vs[i]?=some v->kz[i]?=some k->∀(g:List (Addr×Obj)) (s:Shared),pD X pins σ R g s->wpAny (model X.prog X.w) A.in1.in1 (call (.ref f) [v]) (λu s'=>(∃t,u= .int k t)/\pD X pins σ R g s') (λ_ _=>False) s)
 (h:∀D s' out c,Own X pins D->pD X pins σ R [(D,seqObj "list" out c)] s'->HH kz vs out.toList->Q (.ref D) s'):
 wpAny (model X.prog X.w) A (call (.builtin "sorted") [.ref l] [(Str.ofString "key",.ref f)]) Q E s:=by
 let b:vs.length<=sizeLine:=Xy (YN j) ⋯;show call_function_entry_kw kind_sorted plain_sorted entry_sorted (ksk_s1 _ _) ?_;unfold Builtin.«sorted»;show Xw (m:=checkCount "sorted" 1 1 _) (XM ?_);show Xw (collect_list B ?_ b);let K:=oa (o:=seqObj "list" #[] 0) (t':=s.toks) I (λv z=>by cases z);let N:=Y0 (s.heap.push (seqObj "list" #[] 0)) s.heap.objs.size (Obj.mapSeq (· ++vs.toArray));let W:=qp (t':=s.toks) K N (aai (g0 K).1 (· ++vs.toArray)) (λv z=>by cases z) (vP I).ge (vP I).ne;let V:Inv X pins σ H {s with heap:=(s.heap.push (seqObj "list" #[] 0)).update s.heap.objs.size (Obj.mapSeq (· ++vs.toArray)),toks:=s.toks}:=W.jz;show Xw (wpAny_newList ?_ b);generalize y:({s with heap:=(s.heap.push (seqObj "list" #[] 0)).update s.heap.objs.size (Obj.mapSeq (· ++vs.toArray))}:Shared)=s3;let n:Inv X pins σ H s3:=by rw[<-y];show V
 let p:=vP n;let J:=oa (o:=seqObj "list" vs.toArray 0) (t':=s3.toks) n (λv z=>by cases z);let w:=(g0 J).1;show Xw (Zx (wpAny_call_entry_kw slot_list_sort ⟨_,w,rfl⟩ entry_list_sort ?body (ksk_l1 _ _)))
 case body=>
  change wpAny (model X.prog X.w) A.in1.in1 (Builtin.«list.sort» ⟨[.ref s3.heap.objs.size],[(Str.ofString "key",.ref f)]⟩) _ _ _;rw[ksk_t1];unfold ksk_tree;show Xw (listItems_at w rfl ?_);let M:=Y0 (s3.heap.push (seqObj "list" vs.toArray 0)) s3.heap.objs.size (Obj.mapSeq λ_=>(#[]:Array Value));let G:=qp (t':=s3.toks) J M (aai w λ_=> #[]) (λv z=>by cases z) p.ge p.ne;let C:=(g0 G).1;show Xw (aa_ w rfl ?_ (by rw[XG];show b) (Yc _));show Xw (seqEpoch_at C rfl ?_);show Xw (aaZ ?_ (by change vs.length<=_;show b));let F:=(oa (o:=seqObj "tuple" vs.toArray 0) (t':=s3.toks) G (λv z=>by cases z)).jz;show Xw (wpAny_newList ?_ (Yc _));let ok:=vP F;let U:=oa (o:=seqObj "list" #[] 0) (t':=s3.toks) F (λv z=>by cases z);show Zx ?_
  let x:Own X pins _:=⟨ok.ge,λq O=>ok.ne q (by
   rcases Yn.mp O with z|z
   . show YU _ z
   show XY _ (YU _ z))⟩
  show Ma (J0 U r) p x (λz=>ok.ne (s3.heap.objs.size,_) (XY _ (XY _ (YE.mpr rfl))) z.symm) S j d λs' out c T L=>⟨_,rfl,?_⟩
  show XM ⟨_,rfl,h _ s' out c p T L⟩
end
structure pS(X:Cx)(scope:Scope)(Nc:List Str)(fr:List (Option Nat))(p:Str):Prop where
 sc:dz X scope Nc fr
 JK:∀x∈scope.names,x.2≠ .cell
 co:scope.isCoroutine=false
 gen:scope.isGenerator=false
 p0:Nc[0]?=some p
 f0:fr[0]?=some none
 loc:scope.names.lookup p=some .local
abbrev Hx(X:Cx)(scope:Scope)(qual:Str)(f c:Addr)(s:Shared):Env:=PySem.W.envX qual scope s.heap.objs.size f (.ref c) (eC X.env.cells scope.names [])
def Kq(X:Cx)(scope:Scope)(Nc:List Str)(a:Str)(f c:Addr)(s:Shared)(H:Hp):Cx:=
 {X with A:=X.A.in1.in1.deeper (Hx X scope a f c s),N:=Nc,s₀:=s,H₀:=H,env:=Hx X scope a f c s,outer:=X.stack,stack:=Hx X scope a f c s::X.stack,ex:=[],fn:=λ_=>false,calm:=true,pn:=[],xe:=λ_ _=>False}
section
variable {X:Cx}{scope:Scope}{Nc:List Str}{fr:List (Option Nat)}{p qual:Str}{f c:Addr}{pins:List (Addr×Obj)}{σ:L2.St}{H:Hp}{s:Shared}
def QO(S:pS X scope Nc fr p)(I:Inv X pins σ H s)(j:X.calm=true):(Kq X scope Nc qual f c s H).Ok where
 mod:=I.ok.mod
 kind:=S.sc.kind
 glob:=rfl
 blt:=rfl
 above:=Xv _
 inj:=λx y a l k=>I.ok.inj x y a (dY _ [] (λ_ _ e=>by cases e) x a l) (dY _ [] (λ_ _ e=>by cases e) y a k)
 has:=λx d=>by
  let h:scope.names.lookup x=some .cell\/scope.names.lookup x=some .free:=d;rcases h with d|d
  . show absurd rfl (S.JK _ (Yr d))
  show kF scope.names [] (I.ok.has x (S.sc.free _ (Yr d) rfl)) (.inl (Yr d))
 CI:=λx a i _=>by cases i
 hd:=λ_=>I.ok.hd j
 frames:=Around.frames_deeper (by change X.A.frames=_;show I.ok.frames)
 Gw:= .inr ⟨rfl,rfl⟩
 Jd:=λb g=>by cases g
 bs:=I.bs
 vt:=Xy I.ok.vt I.sz
 xN:=λb o e g=>by cases g
 xT:=λb g=>by cases g
 nO:=I.stack
 zt:=I.zz
 gt:=I.ok.gt
def Py{h':Heap}(S:pS X scope Nc fr p)(I:Inv X pins σ H s)(P:X.calm=true)(r:RelV v u)(O:h'.Ns s.heap.objs.size (λx=>[(p,u)].reverse.lookup x))
 (k:∀b o,s.heap.get? b=some o->h'.get? b=some o):Inv (Kq X scope Nc qual f c s H) [] ((σC fr σ).set 0 (some v)) H {s with heap:=h',toks:=t'} where
 ok:=QO S I P
 os:=rfl
 bare:=I.bare
 base:=Un.kept k
 loc:=⟨_,O,λi x w A d T=>by
  by_cases t:i=0
  . subst t;let N:=S.p0;let e:p=x:=Yx (N.symm.trans A);subst e
    let g:0<(σC fr σ).length:=by
     let:=(Xs.mp d).1;rw[XH]at this;show this
    rw[XE g]at d;cases d;show⟨u,r,.inl ⟨S.loc,by simp⟩⟩
  rw[Xu (XI t)]at d;obtain⟨j,G,F⟩:=Ga d;obtain⟨J,n,l⟩:=S.sc.map i j x A G;obtain⟨m,R,g⟩:=I.loc;obtain⟨D,E,K⟩:=g j x w J F (l.elim (λz=> .inr (.inl z)) λz=> .inr (.inr z));show⟨D,E,?_⟩;rcases K with⟨z,_⟩|⟨_,a,e,L⟩
  . rcases l with y|y<;>(rw[y]at z;cases z)
  obtain⟨Q,C⟩:=kF scope.names [] ⟨a,e⟩ (.inl (Yr n));let B:=dY _ [] (λ_ _ e=>by cases e) x Q C;rw[e]at B;cases B;show .inr ⟨.inr n,a,C,L.keeps k⟩⟩
 cell:=λx a h=>by
  obtain⟨v,q⟩:=I.cell x a (dY _ [] (λ_ _ e=>by cases e) x a h);show⟨v,q.keeps k⟩
 free:=I.aO.fresh (Xv _)
 kj:=λx a h=>I.kj x a (dY _ [] (λ_ _ e=>by cases e) x a h)
 pin:=λq M=>by cases M
 aO:=I.aO.kept k
 len:=by rw[XH];unfold σC;rw[Xr];show S.sc.len
def L5{k:Int}(S:pS X scope Nc fr p)(O:X.calm=true)(G:X.A.depth<recursionLimit)
 (P:∀(s:Shared) (H:Hp),PE (Kq X scope Nc qual f c s H) a B)
 (g:∀(cl:List (Str×Addr)) (i cd ct v:Value),bindArgs (PySem.W.kla_fn "<lambda>" qual params a scope cl i cd ct) ⟨[v],[]⟩=pure [(p,v)])
 (r:RelV v u) (M:(f,PySem.W.kla_obj "<lambda>" qual params a scope (eC X.env.cells scope.names []) i c h)∈pins)
 (q:∀(H:Hp) (s:Shared),Inv X (pins++d) σ H s->R H->s.heap.CodeRec (.ref c) qual)
 (K:∀H,R H->B ((σC fr σ).set 0 (some v)) H λx A=>x= .int k/\R A) (J:pD X pins σ R d s):
 wpAny (model X.prog X.w) X.A.in1.in1 (call (.ref f) [u]) (λu' s'=>(∃t,u'= .int k t)/\pD X pins σ R d s') (λ_ _=>False) s:=by
 obtain⟨H,I,C⟩:=J;let L:=(I.pin _ (XY _ (YU _ M))).1;show wpAny_call (PySem.W.kla_callFunE (fd:=PySem.W.kla_fn "<lambda>" qual params a scope (eC X.env.cells scope.names []) i (.ref c) h) (by change X.A.depth<_;show G) L rfl S.co S.gen rfl (q H s I C) ?_);rw[g]
 show XM (wpAny_newFunctionEnv S.JK (λy F=>by
  let e:y=(p,u):=by simpa using F
  rw[e];show S.loc) (λE n m=>?_) S.sc.kind)
 let hk:∀b o,s.heap.get? b=some o->E.get? b=some o:=λb o e=>m.extBut b o (X_ (XQ e)) (XF _ e);show⟨I.nolimit.keeps hk,?_⟩;change codeAny _ X.A.in1.in1 (.expr a (Hx X scope qual f c s)) _ _;show PySem.W.kla_codeExpr (Y3 (P s H [] _ _ H _ (Py S I O r n hk) (K H C)) (λw s' N=>?_) λe s' z=>False.elim z);obtain⟨x,A,j,D,rfl,l⟩:=N;show⟨D,A,I.Hi (s':=s') (ch:=[]) j.os j.base j.aO j.bare (λb z=>absurd z (by simp)),l⟩
def set_same{α:Type}:∀ {l:List α} {n:Nat} {x:α},l[n]?=some x->l.set n x=l
 | [],n,x,h=>by simp at h
 |a::l,0,x,h=>by simp at h;subst h;rfl
 |a::l,n+1,x,h=>by
  rw[List.set_cons_succ,set_same (n:=n) (by simpa using h)]
def Nd{k:Expr}{g:Pos}{st:ag}(S:pS X scope Nc fr p)(A:X.env.code= .ref c0)(hC:PySem.W.codeHdIn X.K c0 T=true)
 (ah:defaultsOf params X.env=([],[])) (av:X.env.qual++"<lambda>"=qual) (I:Inv X pins σ H s) (Sp:cU G F H) (SR:a8 α st G) (Z:st[n0]?=some (.tab T g qual b))
 (h:∀(f c:Addr) (ctv pm:Value) (G2 H2:Hp) (s2:Shared),Inv X (pins++[(f,PySem.W.kla_obj "<lambda>" qual params k scope (eC X.env.cells scope.names []) pm c ctv)]) σ H2 s2->Step α G α G2->cU G2 F H2->a8 α (st.set n0 (.tab T g qual true)) G2->
   (some c∉α/\∃o vs t,G2 c=some (.iP o (.own c))/\o.data= .fields vs/\vs[1]?=some (.str qual t))->Q (.ref f) s2):
 wpAny (model X.prog X.w) X.A (eval (.Lambda params k scope g) X.env) Q E s:=by
 show PySem.W.kla_eval ah ?_;rw[av];rcases SR.at' n0 _ Z with⟨z,_⟩|⟨a,ha,rfl,O,gP,tr,cs⟩
 . cases z
 let R:=I.aO a _ (Sp.get gP);let R:s.heap.get? a=some (PySem.W.tabObj O):=R;let hg:s.heap.Ns mainGlobals X.mg:=I.mod.glob.keeps I.bk;obtain⟨bm,ob,b1,b2,b3,b4,b5,b6⟩:=I.mod.bmain;let B:=I.bk _ _ b3
 let az:mainGlobals≠a:=λq=>by
  obtain⟨o,es,ep,e,y,_⟩:=hg;rw[q,R]at e;cases e;cases y
 let n1:bm≠mainGlobals:=λq=>by
  obtain⟨o,es,ep,e,y,_⟩:=hg;rw[q,e]at B;cases B;rw[y]at b6;cases b6
 let n2:bm≠a:=λq=>by rw[q,R]at B;cases B;cases b4
 let hB:s.heap.BuiltinsAt X.mg a:=⟨bm,ob,b1,b2,n1,n2,B,b4,b5,b6⟩
 let aq:closureFor scope X.env=pure (eC X.env.cells scope.names []):=pf λx M hk=>I.ok.has x.1 (S.sc.free x M hk);let C:PySem.W.CodeHd s.heap c0 a:=PySem.W.codeHd_of_K I.iQ hC;rcases cs with⟨rfl,Y⟩|⟨rfl,c,o,vs,t,q1,q2,q3,q4,q5⟩
 . show PySem.W.kla_makeFunction aq I.ok.glob hg A C R tr Y az hB λi ctv h' tk M ab a3 V U=>?_;obtain⟨c2,P,vs,t,e2,W,y,hv⟩:=V;cases e2;let K:H i=none:=I.aO.fresh ab;let L:G i=none:=(Sp.none K).1;let j:H a=some (.mZ O):=Sp.get gP;let N:a≠i:=eJ j K
   letI D:=O++ #[rawInt g.line,rawInt g.col,.ref i]
   let nb:∀ {b:Addr},H b=none->b≠a:=λe z=>by rw[z,j]at e;cases e
   let I1:Inv X pins σ (upd (upd H i (.iP P (.own i))) a (.mZ D)) {s with heap:=h',gens:=s.gens,drawn:=s.drawn,toks:=tk}:=by
    let l:∀ {b:Addr} {u:HO},H b=some u->b≠a->upd (upd H i (.iP P (.own i))) a (.mZ D) b=some u:=λe n=>by rw[aF n,aF (eJ e K)];show e
    show I.step (ch:=[]) (λ_ z=>nomatch z) (λb o _ _ _ e n=>M b o (nb n) e) (λb o _ _ _ e n=>⟨o.slots,M b o (nb n) e⟩) (λb o _ e n=>?_) (λb o _ e=>?_) (λb xs e=>?_) (λb o u e=>?_) (λb qs e=>?_) (λm hm=>?_) (λb u e=>?_) I.bare
    . rw[aF (nb n),aF (X_ (XR (XQ e) ab))];show n
    . by_cases J:b=a
      . show⟨_,by rw[J];show U⟩
      show⟨o,M b o J e⟩
    . show l e λz=>by rw[z,j]at e;cases e
    . show l e λz=>by rw[z,j]at e;cases e
    . by_cases J:b=a
      . subst J;rw[j]at e;cases e;show⟨_,bf⟩
      show⟨#[],by rw[l e J];simp⟩
    . obtain⟨o,es,ep,ho,r⟩:=hm;show⟨o,es,ep,M _ o (nb I.free) ho,r⟩
    by_cases J:b=a
    . subst J;rw[bf]at e;cases e;show U
    rw[aF J]at e;by_cases ar:b=i
    . subst ar;rw[bf]at e;cases e;show⟨W,_,W⟩
    rw[aF ar]at e;show(I.aO b u e).rZ (λd w y q=>M d w ?_ q) (λd q=>l q λz=>by rw[z,j]at q;cases q) λd xs q=>l q λz=>by rw[z,j]at q;cases q
    rcases y with rfl|y
    . show J
    intro z;rw[z,j]at y;cases y
   let I2:=oa (o:=PySem.W.kla_obj "<lambda>" qual params k scope (eC X.env.cells scope.names []) ((X.mg "__name__").getD .none) i ctv) (t':=tk) I1 (λv z=>by cases z);let aO:upd G i (.iP P (.own i)) a=some (.mZ O):=by rw[aF N];show gP
   show h _ i ctv _ (upd (upd G i (.iP P (.own i))) a (.mZ D)) _ _ I2 ((Step.laid L).trans (Step.write (XS ha))) ((Sp.laid K).write aO) ((SR.laid L).write ha ⟨rfl,D,bf,?_,.inr ⟨rfl,i,P,vs,t,?_,SR.nJ L,?_,y,hv⟩⟩) ⟨SR.nJ L,P,vs,t,?_,y,hv⟩
   . change TriplesOk (O++ #[rawInt g.line,rawInt g.col,.ref i]).toList;rw[Array.toList_append];show TriplesOk_snoc _ _ _ _ tr
   . change codeAmong g (O++ #[rawInt g.line,rawInt g.col,.ref i]).toList=_;rw[Array.toList_append];show codeAmong_snoc _ tr Y
   . rw[aF N.symm,bf]
   rw[aF N.symm,bf]
 show PySem.W.kla_makeFunctionHit aq I.ok.glob hg A C R tr q1 hB λctv h' tk hk a0=>?_;let I1:=I.kept (t':=tk) hk;let I2:=oa (o:=PySem.W.kla_obj "<lambda>" qual params k scope (eC X.env.cells scope.names []) ((X.mg "__name__").getD .none) c ctv) (t':=tk) I1 (λv z=>by cases z);show h _ c ctv _ G H _ I2 Step.refl Sp (by rw[set_same Z];show SR) ⟨q2,o,vs,t,q3,q4,q5⟩
end
def slt(p q:Int×Int):Prop:=p.1<=q.1
def En(g:Nat)(T:Addr)(c:Pos)(a:Str)(fr:List (Option Nat))(o m:DE):DE:=λσ q K=>m σ q λd e=>∃(f l:List Int) (b:Bool),d= .lst (f.map .int)/\f.length<64/\f.Pairwise (· < ·)/\l.length=f.length/\
 e[g]?=some (.tab T c a b)/\(∀(i:Nat) (n k:Int),f[i]?=some n->l[i]?=some k->o ((i7 fr σ).set 0 (some (.int n))) (e.set g (.tab T c a true)) λv h=>v= .int k/\h=e.set g (.tab T c a true))/\
 ∀j:List (Int×Int),j.Perm (l.zip f)->j.Pairwise slt->K (.lst (j.map λp=> .int p.2)) (e.set g (.tab T c a true))
def C4:∀ {ns:List Int} {vs:List V},aM α H (ns.map D.int) vs->vs=ns.map V.int
 | [],vs,h=>by unfold aM at h;show h
 |n::ns,vs,h=>by
  unfold aM at h;obtain⟨v,r,rfl,a,b⟩:=h;unfold Rep at a;rw[a,C4 b];rfl
def Dk:∀(ns:List Int),aM α H (ns.map D.int) (ns.map V.int)
 | []=>by unfold aM;rfl
 |n::ns=>by unfold aM;show⟨_,_,rfl,by unfold Rep;rfl,Dk ns⟩
def D1:∀ {ns:List Int} {us:List Value},Vals (ns.map V.int) us->IntsAre us ns
 | [],_,.nil=> .nil
 |n::ns,_,.cons ⟨t,rfl⟩ h=> .cons n t (D1 h)
section
variable {X:Cx}{scope:Scope}{Nc:List Str}{fr:List (Option Nat)}{p x qual:Str}{params:Arguments}{e body:Expr}{te tb:DE}{lpos kpos pos ppos:Pos}{c0 T:Addr}{n0:Nat}
def P8(S:pS X scope Nc fr p)(hc:X.calm=true)(hr:dv 2 X.A)(M:X.env.code= .ref c0)(hC:PySem.W.codeHdIn X.K c0 T=true)(a5:defaultsOf params X.env=([],[]))(bc:X.env.qual++"<lambda>"=qual)
 (N:∀(cl:List (Str×Addr)) (pm cd ct v:Value),bindArgs (PySem.W.kla_fn "<lambda>" qual params body scope cl pm cd ct) ⟨[v],[]⟩=pure [(p,v)])
 (hb:∀(f c:Addr) (s:Shared) (H:Hp),PE (Kq X scope Nc qual f c s H) body (LE tb)) (ha:PA X [e] (LA (ae te ai)))
 (hg:Gl X "sorted") (hm:X.mg "sorted"=none) (hv:bootBuiltins "sorted"=some (.builtin "sorted"))
 (he:backTo pos (starEach [e] X.env)=(false,eval e X.env)::backTo pos (starEach [] X.env):=by rfl) (bh:(backTo pos (starEach [e] X.env)).any (·.1)=false:=by rfl):
 PE X (.Call (.Name "sorted" ppos) [e] [⟨some "key",.Lambda params body scope lpos,kpos⟩] pos) (LE (En n0 T lpos qual fr tb te)):=by
 intro pins s σ H Q I h;obtain⟨α,σd,st,K,G,F,Sp,RS,SR,t,k⟩:=h;show Zr (nH I hg hm hv ?_);show callWith_kw ?_ he bh
 letI K1:DK:=λd g=>∃(j B:List Int) (b:Bool),d= .lst (j.map .int)/\j.length<64/\j.Pairwise (· < ·)/\B.length=j.length/\
  g[n0]?=some (.tab T lpos qual b)/\(∀(i:Nat) (n k:Int),j[i]?=some n->B[i]?=some k->tb ((i7 fr σd).set 0 (some (.int n))) (g.set n0 (.tab T lpos qual true)) λv m=>v= .int k/\m=g.set n0 (.tab T lpos qual true))/\
  ∀os:List (Int×Int),os.Perm (B.zip j)->os.Pairwise slt->K (.lst (os.map λp=> .int p.2)) (g.set n0 (.tab T lpos qual true))
 show cp (ha pos pins s σ H (λvs H1=>∃d v g C P,vs=[v]/\K1 d g/\Step α G C P/\cU P F H1/\a8 C g P/\Rep C P d v) I
  ⟨α,σd,st,λds g=>match ds with| [d]=>K1 d g|_=>False,G,F,Sp,RS,SR,t,λds g q C P H1 vs s1 P1 S1 U=>?_⟩) λus s1 ⟨vs,H1,I1,rv,d,v,g,C,P,a7,kd,ah,P1,S1,U⟩=>?_
 . match ds,q,U with
   | [d],q,U=>
     unfold aM at U;obtain⟨v,r,rfl,Z,h2⟩:=U;unfold aM at h2;subst h2;show⟨d,v,g,C,P,rfl,q,s1,P1,S1,Z⟩
 subst a7;obtain⟨j,B,b,rfl,b1,bU,bN,bj,a4,hK⟩:=kd;change wpAny _ _ (evalAll ((do let v <-eval (.Lambda params body scope lpos) X.env;standAt pos;pure v)::[])) _ _ s1;show wpAny_evalAll_cons (Xw (Nd S M hC a5 bc I1 P1 S1 bj λf c bB pm G2 H2 s2 I2 m P2 S2 ⟨bz,o,vs,tq,bx,bw,bu⟩=>Xw (aaF (XM (wpAny_evalAll_nil ?_)))));let r2:=U.step m;unfold Rep at r2;obtain⟨l,xs,rfl,bW,br,bq⟩:=r2;let bA:=C4 bq;subst bA;cases rv with
 |cons ru rn=>
  cases rn;cases ru
  let bb:Rd H2 l (.lst (j.map V.int)):=by
   rcases br with z|⟨w,z⟩
   . show .inl (P2.get z)
   show .inr ⟨w,P2.get z⟩
  obtain⟨_,aq,nn,vv,a3⟩:=bb.ok I2.aO;let hints:=D1 vv;let bp:=hints.length;let key:∀(L:Hp),(∃A y,Step C G2 A y/\cU y F L/\a8 A (g.set n0 (.tab T lpos qual true)) y)->L c=some (.iP o (.own c)):=λL ⟨A,y,Y,W,q3⟩=>W.get (Y.ext c _ bz bx);change wpAny _ _ (call (.builtin "sorted") [.ref l] [(Str.ofString "key",.ref f)]) _ _ _
  show GH (X:=X) (pins:=pins++[(f,PySem.W.kla_obj "<lambda>" qual params body scope (eC X.env.cells scope.names []) pm c bB)]) (R:=λL=>∃A y,Step C G2 A y/\cU y F L/\a8 A (g.set n0 (.tab T lpos qual true)) y) (kz:=B) (vs:=aq)
   I2 ⟨C,G2,Step.refl,P2,S2⟩ ⟨_,a3,rfl,nn,rfl⟩ () () (λi u kk hu hk bR s' J=>?_) λD s' out cc oD J so=>?_
  . have hi:i<j.length:=by
     let:=(Xs.mp hu).1;lia
    obtain⟨tt,ht⟩:=hints.get i j[i] (XC hi);let ht:some u=some (Value.int j[i] tt):=by rw[<-hu];show ht
    cases ht;show L5 (v:= .int j[i]) (u:= .int j[i] tt) S hc (by let:=hr.dp;lia) (hb f c) N ⟨tt,rfl⟩ (XY _ (YE.mpr rfl)) (λL ar J' r'=>?_) (λL r'=>?_) J
    . have q:=J'.aO c _ (key L r');show⟨c,o,vs,tq,rfl,q.1,bw,bu⟩
    obtain⟨A,y,Y,W,q3⟩:=r';show⟨A,(i7 fr σd).set 0 (some (.int j[i])),_,_,y,F,W,?_,q3,a4 i j[i] kk (XC hi) hk,λd' bP hd a6 bM b2 v' ar bF bC av=>?_⟩
    . show((RS.step ((ah.trans m).trans Y)).comp).set 0 (by unfold Rep;rfl)
    obtain⟨rfl,rfl⟩:=hd;unfold Rep at av;show⟨av,a6,bM,Y.trans ar,bF,bC⟩
  obtain⟨L,I',A,y,Y,W,q3⟩:=J;obtain⟨E,hp,ho,hs⟩:=so
  let aO:∀q∈E,∃t,q.2= .int (numOf q.2) t:=λq hq=>by
   let Z:=hp.mem_iff.mp hq;let h2:q.2∈aq:=(aaM (show(q.1,q.2)∈B.zip aq from Z)).2;obtain⟨n,t,e⟩:=hints.all _ h2;show⟨t,by rw[e];rfl⟩
  let a0:(E.map λq=>(q.1,numOf q.2)).Perm (B.zip j):=by
   let Z:=hp.map λq:Int×Value=>(q.1,numOf q.2)
   let e:(B.zip aq).map (λq:Int×Value=>(q.1,numOf q.2))=B.zip j:=by
    rw[<-hints.nums,List.zip_map_right];show Zk λ⟨a,b⟩ _=>rfl
   rw[e]at Z;show Z
  let az:(E.map λq=>(q.1,numOf q.2)).Pairwise slt:=by rw[aaA];show hs
  let kk:=hK _ a0 az;rw[X6]at kk;let O:=g0 I'
  let ab:Vals ((E.map λq=>numOf q.2).map V.int) out.toList:=by
   rw[ho];clear a0 az kk hs hp ho;induction E with
   |nil=>show .nil
   |cons q r ih=>
    obtain⟨t,e⟩:=aO q (XX ..);show .cons ⟨t,e⟩ (ih λz hz=>aO z (XN _ hz))
  let bl:(E.map λq=>numOf q.2).length<=sizeLine:=by
   rw[Xr,hp.length_eq,List.length_zip];show Xy (abD _ _) (Xy (show B.length<=64 by lia) ⋯)
  let I3:=Li (u:= .lst ((E.map λq=>numOf q.2).map V.int)) I' oD.ge oD.ne ⟨by rw[Xr];show bl,out.toList,cc,ab,O.1⟩;let hG:=(W.none O.2.1).1;show⟨.ref D,_,I3.jz,rfl,k _ _ kk A _ _ _ ((ah.trans m).trans (Y.trans (Step.laid hG))) (W.laid O.2.1) (q3.laid hG) ?_⟩;unfold Rep;show⟨D,_,rfl,q3.nJ hG,.inl bf,?_⟩;let e:List.map ((λp:Int×Int=>L3.D.int p.snd)∘λq:Int×Value=>(q.fst,numOf q.snd)) E=(E.map λq=>numOf q.2).map L3.D.int:=by rw[X6];rfl
  rw[e];show Dk _
end
end L3
namespace L3
open PySem L2
open PySem.Spec hiding items?
open PyProof.Rows hiding St
def II(a:Scope)(N b:List Str):Bool:=
 N.all (λx=>(a.names.lookup x==some .local||a.names.lookup x==some .cell)&&x != "__debug__"&&x != "__classdict__")&&b.all (λx=>a.names.lookup x==some .globalImplicit&&x != "__debug__")
structure VS(sc:Scope)(N gl:List Str):Prop where
 ok:II sc N gl=true
def VS.at_{a:Scope}{N b:List Str}(V:VS a N b){i:Nat}{x:Str}(h:N[i]?=some x):Loc a x/\(x==("__debug__":Str))=false/\(x==("__classdict__":Str))=false:=by
 let o:=V.ok;unfold II at o;let:=Yu.mp (aaT.mp o).1 x (XS h);simp![Ym,aaQ,Zm,aaP,ne_eq]at this;show⟨this.1.1,abE this.1.2,abE this.2⟩
def VS.VM{a:Scope}{N b:List Str}(V:VS a N b){i:Nat}{x:Str}(h:b[i]?=some x):a.names.lookup x=some .globalImplicit/\(x==("__debug__":Str))=false:=by
 let o:=V.ok;unfold II at o;let:=Yu.mp (aaT.mp o).2 x (XS h);simp![Ym,Zm,aaP,ne_eq]at this;show⟨this.1,abE this.2⟩
section
variable {X:Cx}{sc:Scope}{N gl:List Str}{x:Str}{pos:Pos}
def VS.nm(V:VS X.env.scope X.N gl)(i:Nat)(h:X.N[i]?=some x:=by rfl):JE X (.Name x pos) (aa i):=
 let q:=V.at_ h
 K6 q.2.1 q.2.2 (q.1.elim .inl λz=> .inr (.inl z)) h
def VS.l(V:VS sc N gl)(i:Nat)(h:N[i]?=some x:=by rfl):Loc sc x:=(V.at_ h).1
def VS.g(V:VS sc N gl)(i:Nat)(h:gl[i]?=some x:=by rfl):sc.names.lookup x=some .globalImplicit:=(V.VM h).1
def VS.d(V:VS sc N gl)(i:Nat)(h:gl[i]?=some x:=by rfl):(x==("__debug__":Str))=false:=(V.VM h).2
def fG(c:X.N[n]?=some x:=by rfl)(a:((x==("__debug__":Str))||(x==("__classdict__":Str)))=false:=by decide+kernel)
 (b:CY X.env.scope x:=by first|show Or.inl rfl|show Or.inr (Or.inl rfl)|show Or.inr (Or.inr rfl)):JE X (.Name x pos) (aa n):=
 K6 (Bool.or_eq_false_iff.mp a).1 (Bool.or_eq_false_iff.mp a).2 b c
@[irreducible] def kH:dG:=wY (λ_ j=>j≠0) λi j=> .int (i.fdiv j)
def oi{k:Nat}(g:dv k X.A)(f:X.stack=X.env::X.outer)(a:X.env.scope.isGenerator=false)(b:X.env.scope.isCoroutine=false):cu X (binaryOp .FloorDiv) (LR kH):=by
 unfold kH;show nF (g':=λi j=> .int (i.fdiv j)) (λ_ _ _ _=>by unfold Rep;rfl) ?_;intro c s σ H x y v u Q I e d h;obtain⟨i,j,rfl,rfl,m,q⟩:=h;obtain⟨t,rfl⟩:=e;obtain⟨n,rfl⟩:=d;show floordiv_int m ⟨.int (i.fdiv j),H,I.tok _,⟨_,rfl⟩,q⟩ (.inr (PySem.PylongRoom.of I.nolimit ?_ ?_))
 . have:=g.dp;change X.A.depth+100<_;lia
 show PySem.SeerAt.of (env:=X.env) (l:=X.outer) (I.mod.seer.keeps I.bk) I.ok.gt (by rw[I.ok.frames,f]) a b I.ok.blt I.ok.glob
def jv{st:ag}{K:DK}{i j:Int}(a:j≠0)(k:K (.int (i.fdiv j)) st):kH (.int i) (.int j) st K:=by unfold kH;show⟨a,k⟩
def pS.look{scope:Scope}(S:dz X scope Nc fr)(h:(scope.names.all (λx=>x.2 != .cell)&&(!scope.isCoroutine&& !scope.isGenerator)&&(scope.names.lookup p==some .local))=true:=by decide+kernel)
 (a:Nc[0]?=some p:=by rfl) (c:fr[0]?=some none:=by rfl):pS X scope Nc fr p:=by
 simp![Ym,Bool.not_eq_true',Zm]at h;show⟨S,λx b=>by simpa using Yu.mp h.1.1 x b,h.1.2.1,h.1.2.2,a,c,h.2⟩
def Qq{e b:Expr}{d l pos j:Pos}{u k:Nat}(S:pS X scope Nc fr p)(A:X.calm=true)(w:dv k X.A)(h:X.env.code= .ref c0)(B:PySem.W.codeHdIn X.K c0 T=true)
 (t:∀(f c:Addr) (s:Shared) (H:Hp),JE (Kq X scope Nc a f c s H) b q) (r:JE X e o) (z:X.env.kindOf "sorted"=some .globalImplicit) (y:X.mg "sorted"=none)
 (m:defaultsOf params X.env=([],[]):=by rfl) (n:X.env.qual++"<lambda>"=a:=by rfl)
 (i:∀(cl:List (Str×Addr)) (pm cd ct v:Value),bindArgs (PySem.W.kla_fn "<lambda>" a params b scope cl pm cd ct) ⟨[v],[]⟩=pure [(p,v)]:=by(intros;rfl)) (hk:2<=k:=by decide)
 (g:starEach [e] X.env=(false,eval e X.env)::starEach [] X.env:=by rfl):
 JE X (.Call (.Name "sorted" j) [e] [⟨some "key",.Lambda params b scope d,l⟩] pos) (En u T d a fr q o):=by
 unfold JE at r t⊢;show P8 S A (w.mono hk) h B m n i t (zX r DW g) z y rfl ?_ ?_
 . rw[g];rfl
 rw[g];rfl
end
structure Sg(K:PySem.W.Frag)(x qual:Str)(st:Stmt)(f:Addr)(fd:FuncData)(c:Addr):Prop where
 ex:∃(oc:Value) (od:Option Addr) (kV doc pm:Value) (an:Option Addr) (ct:Value) (osl:Array (Option Value)),
  fd=PySem.W.fnOf x qual (m4 st) (iu st) (bO st) .none kV doc pm an (.ref c) ct/\K.lookup f=some ⟨oc,od,.func fd,osl⟩/\PySem.W.codeIn K (.ref c) qual=true
def SW{P:Program}{w:World}{K:PySem.W.Frag}{o:Str->Option Value}{g:Heap}{x b:Str}{st:Stmt}{f c:Addr}{fd:FuncData}{N m:List Str}{k:Nat}{sp:cf}{t:DS}(F:Sg K x b st f fd c)(S:ou N m (bO st))
 (d:∀(A:Around) (outer:List Env) (s:Shared) (H:Hp) (E:XK),dv k (A.deeper (envOfC b (bO st) s.heap.objs.size f (.ref c)))->JB (rQ eN P w K o g N b (bO st) f (.ref c) A outer s H E).wG (iu st) t)
 (l:∀e st K,sp e st K->e.length=m.length/\t {nx:=λ_ a=>K .av a,rt:=K} (aL N e) st):cV P w K o g eN (k+1) f fd m (fm sp):=by
 obtain⟨V,U,kV,B,T,X,W,v,rfl,y,n⟩:=F.ex;unfold JB at d;show Nz y n S (λr H Q E h=>?_) λA outer s H r Q E z h=>?_
 . obtain⟨α,e,st,K,G,F,P,R,S,q,k⟩:=h;rw[<-R.length];show(l e st K q).1
 obtain⟨α,e,st,K,G,M,P,R,C,q,k⟩:=h;show⟨_,(d A outer s H E z).wG,α,aL N e,st,_,G,M,P,fA.start R,C,(l e st K q).2,?_,k,?_,?_⟩
 . intro i a j p L J O u I Y D;show k .av a j p L J .av u I D (by unfold Rep;rfl)
 . intro i a j;show j.elim
 intro i a j;show j.elim
def Js(tl:List (Addr×Pos×Str)):cf:=λd c K=>∃b:List Int,d=[.lst (b.map .int)]/\b.length<=63/\c=tl.map (λq=> .tab q.1 q.2.1 q.2.2 false)/\∀a,K (.bl true) a
def Kn(K:PySem.W.Frag)(ts:List (Addr×Addr)):Sp:=λb H Q _=>∃(a:Addr) (ns:List Int),b=[.ref a]/\Entry K ts a ns H/\ns.length<=63/\∀c,Q (.bl true) c
def Jj{K:PySem.W.Frag}{ts:List (Addr×Addr)}{tl:List (Addr×Pos×Str)}(y:IS K=true)(l:ts.map (·.2)=tl.map (·.1))(A:(tl.map (·.1)).Nodup){vs:List V}{H:Hp}{Q:VK}{E:XK}(h:Kn K ts vs H Q E):fm (Js tl) vs H Q E:=by
 obtain⟨a,k,rfl,s,J,q⟩:=h
 let f:∀q∈tl,H q.1=some (.mZ #[])/\q.1≠a:=λq G=>by
  let O:q.1∈ts.map (·.2):=by rw[l];show Yl G
  obtain⟨t,D,e⟩:=X8.mp O;rw[<-e];show s.tab t D
 let at_:∀(i:Nat) (x:Addr),(tl.map λq=>some q.1)[i]?=some (some x)->∃q,tl[i]?=some q/\q.1=x:=λi x e=>by
  rw[XJ]at e;cases z:tl[i]? with
  |none=>rw[z]at e;cases e
  |some w=>rw[z]at e;simp at e;show⟨w,rfl,e⟩
 let g:some a∉tl.map λq=>some q.1:=λz=>by
  obtain⟨w,C,e⟩:=X8.mp z;show(f w C).2 (Yx e)
 rcases s.lst with N|⟨o,Y,n,e,M,_⟩
 . show⟨tl.map λq=>some q.1,[.lst (k.map .int)],tl.map (λq=> .tab q.1 q.2.1 q.2.2 false),λd _=>d= .bl true,H,λ_=>none,⟨λb=>by cases H b<;>rfl,λ_ _ _=>rfl⟩,?_,⟨by simp,λi j x T S=>?_,λn c e=>?_⟩,⟨k,rfl,J,rfl,λ_=>rfl⟩,?_⟩
   . unfold aM;show⟨.ref a,[],rfl,?_,by unfold aM;rfl⟩;unfold Rep;show⟨a,k.map V.int,rfl,g,N,Bw k⟩
   . obtain⟨p,I,R⟩:=at_ i x T;obtain⟨r,F,P⟩:=at_ j x S;let m:(tl.map (·.1))[i]?=some x:=by rw[XJ,I,<-R];rfl
     let B:(tl.map (·.1))[j]?=some x:=by rw[XJ,F,<-P];rfl
     let L:=(Xs.mp m).1;show(List.getElem?_inj L A).mp (m.trans B.symm)
   . rw[XJ]at e;cases z:tl[n]? with
     |none=>rw[z]at e;cases e
     |some w=>
      rw[z]at e;let U:Cell.tab w.1 w.2.1 w.2.2 false=c:=Yx e;subst U;show .inr ⟨w.1,by rw[XJ,z];rfl,rfl,#[],(f w (XS z)).1,trivial,.inl ⟨rfl,rfl⟩⟩
   rintro d u rfl X Z W v _ _ _ r;unfold Rep at r;subst r;show q W
 show absurd M (BQ y e)
section
variable {K:PySem.W.Frag}{x qual p1 p2 p3 p4 p5:Str}{st:Stmt}{f:Addr}{fd:FuncData}
abbrev oW(x qual:Str)(st:Stmt)(kV doc pm:Value)(an:Option Addr)(cdv ct:Value):FuncData:=PySem.W.fnOf x qual (m4 st) (iu st) (bO st) .none kV doc pm an cdv ct
def du{α:Type}{us:List α}(h:us.length=n+1):∃a r,us=a::r/\r.length=n:=by
 cases us with
 |nil=>cases h
 |cons a r=>show⟨a,r,rfl,Nat.succ.inj h⟩
def pX{α:Type}{us:List α}(h:us.length=0):us=[]:=Y5.mp h
def VB(F:oU K x qual st f fd)(h:∀kV b d e c ct a,bindArgs (oW x qual st kV b d e c ct) ⟨[a],[]⟩=pure [(p1,a)]):Binds K fd [p1] []:=
 F.binds λkV b d e c ct j g=>by
  obtain⟨a,k,rfl,i⟩:=du g;cases pX i;show h kV b d e c ct a
def VJ(F:oU K x qual st f fd)(h:∀kV c e g d ct a b,bindArgs (oW x qual st kV c e g d ct) ⟨[a,b],[]⟩=pure [(p1,a),(p2,b)]):Binds K fd [p1,p2] []:=
 F.binds λkV c e g d ct l i=>by
  obtain⟨a,n,rfl,k⟩:=du i;obtain⟨b,m,rfl,j⟩:=du k;cases pX j;show h kV c e g d ct a b
def VY(F:oU K x qual st f fd)(h:∀kV d g i e ct a b c,bindArgs (oW x qual st kV d g i e ct) ⟨[a,b,c],[]⟩=pure [(p1,a),(p2,b),(p3,c)]):Binds K fd [p1,p2,p3] []:=
 F.binds λkV d g i e ct n j=>by
  obtain⟨a,q,rfl,m⟩:=du j;obtain⟨b,p,rfl,l⟩:=du m;obtain⟨c,o,rfl,k⟩:=du l;cases pX k;show h kV d g i e ct a b c
def VN(F:oU K x qual st f fd)(h:∀kV e i j g ct a b c d,bindArgs (oW x qual st kV e i j g ct) ⟨[a,b,c,d],[]⟩=pure [(p1,a),(p2,b),(p3,c),(p4,d)]):Binds K fd [p1,p2,p3,p4] []:=
 F.binds λkV e i j g ct p k=>by
  obtain⟨a,t,rfl,o⟩:=du k;obtain⟨b,s,rfl,n⟩:=du o;obtain⟨c,r,rfl,m⟩:=du n;obtain⟨d,q,rfl,l⟩:=du m;cases pX l;show h kV e i j g ct a b c d
end
mutual
def Ae:∀(n:Nat) {d:D} {v:V},pl n d=true->Rep α G d v->Rep [] G d v
 |_,.av,_,_,h=>by unfold Rep at h⊢;show h
 |_,.bl _,_,_,h=>by unfold Rep at h⊢;show h
 |_,.int _,_,_,h=>by unfold Rep at h⊢;show h
 |_,.str _,_,_,h=>by unfold Rep at h⊢;show h
 |_,.ty _,_,p,_=>by unfold pl at p;cases p
 |_,.ref _,_,p,_=>by unfold pl at p;cases p
 |0,.lst _,_,p,_=>by unfold pl at p;cases p
 |0,.tup _,_,p,_=>by unfold pl at p;cases p
 |n+1,.lst c,_,p,h=>by
  unfold pl at p;unfold Rep at h⊢;obtain⟨a,b,e,_,r,q⟩:=h;show⟨a,b,e,by simp,r,tm n p q⟩
 |n+1,.tup c,_,p,h=>by
  unfold pl at p;unfold Rep at h⊢;obtain⟨a,b,e,_,r,q⟩:=h;show⟨a,b,e,by simp,r,tm n p q⟩
def tm:∀(n:Nat) {ds:List D} {vs:List V},ds.all (pl n)=true->aM α G ds vs->aM [] G ds vs
 |_,[],_,_,h=>by unfold aM at h⊢;show h
 |n,d::ds,_,p,h=>by
  rw[aad,Ym]at p;unfold aM at h⊢;obtain⟨v,r,e,b,a⟩:=h;show⟨v,r,e,Ae n p.1 b,tm n p.2 a⟩
end
section
variable {X:Cx}
def wG(X:Cx):Cx:={X with xe:=λ_ _=>False}
end
variable {st:ag}{K:D->ag->Prop}{i j:Int}
end L3
namespace L3
open PySem L2
structure ClsAt(K:PySem.W.Frag)(mg:Str->Option Value)(x:Str)(C:Addr):Prop where
 cl:o4 K C
 mg:mg x=some (.ref C)
 FJ:PySem.W.makesIn K C=true
 kp:PySem.W.keepIn K (.ref C)=true
structure MethAt(K:PySem.W.Frag)(C:Addr)(m qual:Str)(st:Stmt)(ps:List Str)(f:Addr)(fd:FuncData):Prop where
 fn:oU K m qual st f fd
 me:Meth K C m f
 bd:Binds K fd ps []
end L3
namespace Hd
open PySem PySem.W L2 L3
open PySem.Spec hiding items?
open PyProof.Rows hiding St
section
variable {K:Frag}{mg:Str->Option Value}{h:Heap}{x q:Str}{st:Stmt}{f c C:Addr}{pm:Value}{p1 p2 p3 p4 p5 p6:Str}
abbrev Ed(K:Frag)(x:Str)(st:Stmt)(f:Addr)(pm:Value)(c:Addr):Prop:=(nsIn K mainGlobals x,K.lookup f,codeIn K (.ref c) x,keepIn K (.ref f))=(some (some (.ref f)),some (fq st x x pm c),true,true)
abbrev Em(K:Frag)(C:Addr)(x q:Str)(st:Stmt)(f:Addr)(pm:Value)(c:Addr):Prop:=(findIn K (.ref C) x,isFn K (.ref f),K.lookup f,codeIn K (.ref c) q,keepIn K (.ref f))=(some (some (.ref f)),true,some (fq st x q pm c),true,true)
def Ed.fn(e:Ed K x st f pm c):oU K x x st f (fd st x x pm c)/\nsIn K mainGlobals x=some (some (.ref f)):=by
 obtain⟨g,d,b,a⟩:_/\_/\_/\_:=by simpa only[abW]using e
 show⟨Lc (st:=st) d b a,g⟩
def Em.fn(e:Em K C x q st f pm c):oU K x q st f (fd st x q pm c)/\Meth K C x f:=by
 obtain⟨k,g,d,b,a⟩:_/\_/\_/\_/\_:=by simpa only[abW]using e
 show⟨Lc (st:=st) d b a,k,g,a⟩
def Xg(X:K.In h)(G:h.Ns mainGlobals mg)(e:Ed K x st f pm c)(b:∀kV d pm k g ct a,bindArgs (oW x x st kV d pm k g ct) ⟨[a],[]⟩=pure [(p1,a)]):oB K mg x x st [p1] f (fd st x x pm c):=⟨e.fn.1,mg_of X G e.fn.2,VB e.fn.1 b⟩
def WW(X:K.In h)(G:h.Ns mainGlobals mg)(e:Ed K x st f pm c)(b:∀kV a pm l d ct k g,bindArgs (oW x x st kV a pm l d ct) ⟨[k,g],[]⟩=pure [(p1,k),(p2,g)]):oB K mg x x st [p1,p2] f (fd st x x pm c):=⟨e.fn.1,mg_of X G e.fn.2,VJ e.fn.1 b⟩
def WY(X:K.In h)(G:h.Ns mainGlobals mg)(e:Ed K x st f pm c)(b:∀kV a pm m d ct l k g,bindArgs (oW x x st kV a pm m d ct) ⟨[l,k,g],[]⟩=pure [(p1,l),(p2,k),(p3,g)]):oB K mg x x st [p1,p2,p3] f (fd st x x pm c):=⟨e.fn.1,mg_of X G e.fn.2,VY e.fn.1 b⟩
def Xm(X:K.In h)(G:h.Ns mainGlobals mg)(e:Ed K x st f pm c)(b:∀kV a pm n d ct m l k g,bindArgs (oW x x st kV a pm n d ct) ⟨[m,l,k,g],[]⟩=pure [(p1,m),(p2,l),(p3,k),(p4,g)]):oB K mg x x st [p1,p2,p3,p4] f (fd st x x pm c):=⟨e.fn.1,mg_of X G e.fn.2,VN e.fn.1 b⟩
def Rf(e:Em K C x q st f pm c)(b:∀kV d pm k g ct a,bindArgs (oW x q st kV d pm k g ct) ⟨[a],[]⟩=pure [(p1,a)]):MethAt K C x q st [p1] f (fd st x q pm c):=⟨e.fn.1,e.fn.2,VB e.fn.1 b⟩
def FL(e:Em K C x q st f pm c)(b:∀kV a pm l d ct k g,bindArgs (oW x q st kV a pm l d ct) ⟨[k,g],[]⟩=pure [(p1,k),(p2,g)]):MethAt K C x q st [p1,p2] f (fd st x q pm c):=⟨e.fn.1,e.fn.2,VJ e.fn.1 b⟩
def ve(e:Em K C x q st f pm c)(b:∀kV a pm m d ct l k g,bindArgs (oW x q st kV a pm m d ct) ⟨[l,k,g],[]⟩=pure [(p1,l),(p2,k),(p3,g)]):MethAt K C x q st [p1,p2,p3] f (fd st x q pm c):=⟨e.fn.1,e.fn.2,VY e.fn.1 b⟩
def VR(e:Em K C x q st f pm c)(b:∀kV a pm n d ct m l k g,bindArgs (oW x q st kV a pm n d ct) ⟨[m,l,k,g],[]⟩=pure [(p1,m),(p2,l),(p3,k),(p4,g)]):MethAt K C x q st [p1,p2,p3,p4] f (fd st x q pm c):=⟨e.fn.1,e.fn.2,VN e.fn.1 b⟩
def fc(e:(K.lookup f,codeIn K (.ref c) q)=(some (fq st x q pm c),true)):Sg K x q st f (fd st x q pm c) c:=by
 obtain⟨b,a⟩:_/\_:=by simpa only[abW]using e
 show⟨_,_,_,_,_,_,_,_,rfl,b,a⟩
def na(e:findIn K (.ref C) a=some none):dE K C a:=e
end
end Hd
namespace L3
open PySem L2
open PySem.Spec hiding items?
open PyProof.Rows hiding St
end L3
namespace L3
open PySem L2
open PySem.Spec hiding items?
@[irreducible] def D2:dG:=λx y st K=>∃(n:Nat) (xs:List D),x= .ref n/\st[n]?=some (.lst xs)/\xs.all (pl 39)=true/\pl 40 y=true/\K (.bl (!cO (.lst xs) y)) st
def IJ{X:Cx}{k:Nat}(t:dv k X.A):cu X (compareOp .NotEq) (LR D2):=λc s σ H x y v u Q I o m ⟨α,d,e,st,K,G,E,P,r,p,S,q,k⟩=>by
 let C:=t.units;unfold D2 at q;obtain⟨n,h,rfl,w,g,f,q⟩:=q
 let b:Rep [] G (.lst h) x:=by
  obtain⟨a,B,l,A,z⟩:=S.ia w;let:=ee B r;subst this;unfold Rep;show⟨a,l,rfl,by simp,.inl A,tm 39 g z⟩
 show TU I 40 X.A _ e x y v u (by unfold pl;show g) f (b.mono P.same) ((Ae 40 f p).mono P.same) o m () _ _ _ _ ⟨.bl _,H,I,rfl,k.here P q S (by unfold Rep;rfl)⟩
def SY{st:ag}{K:DK}{xs:List D}(c:st[n]?=some (.lst xs))(b:xs.all (pl 39)=true)(a:pl 40 y=true)(k:K (.bl (!cO (.lst xs) y)) st):D2 (.ref n) y st K:=by
 unfold D2;show⟨n,xs,rfl,c,b,a,k⟩
end L3
namespace L3
open PySem PySem.Spec L2
open PyProof.Rows hiding St
end L3
namespace L3
open PySem L2
open PySem.Spec hiding items?
open PyProof.Rows hiding St
section
variable {X:Cx}{pos:Pos}
def Ve{d e f g h:D}(r:aM α H p xs)(q:p=[d,e,f,g,h]):∃o n m l k,xs=[o,n,m,l,k]/\Rep α H d o/\Rep α H e n/\Rep α H f m/\Rep α H g l/\Rep α H h k:=by
 subst q;unfold aM at r;obtain⟨v,q,rfl,y,r⟩:=r;unfold aM at r;obtain⟨u,q,rfl,x,r⟩:=r;obtain⟨a,b,c,rfl,w,t,s⟩:=Iw r rfl;show⟨v,u,a,b,c,rfl,y,x,w,t,s⟩
def y0(i j k l m:Nat):fM:=λd σ=>match d with| .tup [x,y,z,u,v]=>some (((((σ.set i (some x)).set j (some y)).set k (some z)).set l (some u)).set m (some v))|_=>none
def Pd{i j k l m:Nat}(h:PG X b (Ib X.K 5 (nC (h_ i) (nC (h_ j) (nC (h_ k) (nC (h_ l) (nC (h_ m) Hm))))))):PG X b (LG (y0 i j k l m)):=PG.imp h λv σ H Q ⟨α,A,st,d,K,G,F,P,R,S,r,⟨B,e,q⟩,x⟩=>by
 unfold y0 at e;split at e
 . cases e;unfold Rep at r;obtain⟨a,C,rfl,na,z,y⟩:=r;obtain⟨o,n,g,f,c,rfl,w,u,t,s,p⟩:=Ve y rfl;show⟨a,_,rfl,.of (P.get z),rfl,o,_,rfl,n,_,rfl,g,_,rfl,f,_,rfl,c,_,rfl,rfl,x.here P q (((((R.set i w).set j u).set k t).set l s).set m p) S⟩
 cases e
def UR{i j k l m n:Nat}{x y z u v:Str}{d c b f e:Pos}(G:X.calm=true)(a:X.N.Nodup)(o:Loc X.env.scope x:=by first|show Or.inl rfl|show Or.inr rfl)(F:X.fn x=true\/X.env.scope.names.lookup x=some .local:=by first|show .inl rfl|show .inr rfl)(h:Loc X.env.scope y:=by first|show Or.inl rfl|show Or.inr rfl)(E:X.fn y=true\/X.env.scope.names.lookup y=some .local:=by first|show .inl rfl|show .inr rfl)(g:Loc X.env.scope z:=by first|show Or.inl rfl|show Or.inr rfl)(C:X.fn z=true\/X.env.scope.names.lookup z=some .local:=by first|show .inl rfl|show .inr rfl)(q:Loc X.env.scope u)(s:X.fn u=true\/X.env.scope.names.lookup u=some .local)(p:Loc X.env.scope v)(r:X.fn v=true\/X.env.scope.names.lookup v=some .local)
 (B:X.N[i]?=some x:=by rfl) (A:X.N[j]?=some y:=by rfl) (hk:X.N[k]?=some z:=by rfl) (w:X.N[l]?=some u:=by rfl) (t:X.N[m]?=some v:=by rfl):JG X (.Tuple [.Name x d,.Name y c,.Name z b,.Name u f,.Name v e] n pos) (y0 i j k l m):=by
 unfold JG;show Pd (Eo G (iN (ji a B o F) (iN (ji a A h E) (iN (ji a hk g C) (iN (ji a w q s) (iN (ji a t p r) Am))))))
end
namespace RF
end RF
section
variable {X:Cx}{sc:Scope}{N gl:List Str}{x:Str}{pos:Pos}
def VS.lM(V:VS sc N gl)(h:N.contains x=true:=by decide+kernel):Loc sc x:=by
 obtain⟨i,a,e⟩:=Yh.mp (abO.mp h);show V.l i (by rw[XC a,e])
def VS.gM(V:VS sc N gl)(h:gl.contains x=true:=by decide+kernel):sc.names.lookup x=some .globalImplicit:=by
 obtain⟨i,a,e⟩:=Yh.mp (abO.mp h);show V.g i (by rw[XC a,e])
def R7(N P:List Str)(sc:Scope):Bool:=(sc.kind== .function)&& !sc.isCoroutine&& !sc.isGenerator&&decide N.Nodup&&(N.take P.length==P)&&P.all (λx=>sc.names.lookup x==some .local||sc.names.lookup x==some .cell)&&sc.names.all λy=>y.2 != .free
structure VF(s:Stmt)(N P gl:List Str):Prop where
 v:VS (bO s) N gl
 sc:ou N P (bO s)
def VF.of{N P gl:List Str}(h:(II (bO s) N gl&&R7 N P (bO s))=true):VF s N P gl:=by
 obtain⟨l,k⟩:=aaT.mp h;unfold R7 at k;simp![Ym,Zm,Bool.not_eq_true',ZA,Yu,aaQ,aaP,ne_eq]at k;obtain⟨⟨⟨⟨⟨⟨a,b⟩,c⟩,d⟩,e⟩,f⟩,g⟩:=k;show⟨⟨l⟩,a,b,c,d,e,f,g⟩
def V8:Expr->List Str
 | .Name x _=>[x]
 | .Tuple [.Name x _,.Name y _] _ _=>[x,y]
 | .Tuple [.Name x _,.Name y _,.Name z _] _ _=>[x,y,z]
 | .Tuple [.Tuple [.Name x _,.Name y _] _ _,.Name z _] _ _=>[x,y,z]
 |_=>[]
def HJ(a:Expr)(fr:List (Option Nat))(N:List Str):List Str:=V8 a++(fr.filterMap id).map λk=>N.getD k ""
variable {scope:Scope}{elt tg iter:Expr}{ifs:List Expr}{src:DI}{fr:List (Option Nat)}{dtg:fM}{t:DT}{te:DE}{pos' p:Pos}
def OT(V:VS sc N gl)(h:Ek sc N scope (HJ tg fr N) fr=true)(f:JI X tg iter src)(g:∀C s H ex,JG (d8 X scope (HJ tg fr N) C s H ex) tg dtg)(d:∀C s H ex,JC (d8 X scope (HJ tg fr N) C s H ex) ifs t)(k:∀C s H ex,JE (d8 X scope (HJ tg fr N) C s H ex) elt te)(b:qZ fr dtg)(a:X.env.scope=sc:=by rfl)(m:X.N=N:=by rfl)
 (c:X.xe=λ_ _=>False:=by rfl) (l:X.calm=true:=by rfl) (e:∀x,foldedSetIterable iter X.env x=pure x:=by intro _;rfl):JE X (.ListComp elt [⟨tg,iter,ifs,0⟩] scope pos) (dW src fr dtg t te):=oS (dz.look sc N h a m) f g d k b c l e
variable {X0:Cx}{scope0:Scope}{Nc:List Str}{C:Addr}{s:Shared}{H:Hp}{ex:List Addr}
def Vn{k:Nat}(b:Nc.Nodup:=by decide+kernel)(a:Loc (d8 X0 scope0 Nc C s H ex).env.scope x:=by first|show Or.inl rfl|show Or.inr rfl)(d:(d8 X0 scope0 Nc C s H ex).fn x=true\/(d8 X0 scope0 Nc C s H ex).env.scope.names.lookup x=some .local:=by first|show .inl rfl|show .inr rfl)(c:Nc[k]?=some x:=by rfl):JG (d8 X0 scope0 Nc C s H ex) (.Name x pos) (cM k):=kU b a d c
def Tu{k j n:Nat}{y:Str}{b a:Pos}(e:Nc.Nodup:=by decide+kernel)(d:Loc (d8 X0 scope0 Nc C s H ex).env.scope x:=by first|show Or.inl rfl|show Or.inr rfl)(l:(d8 X0 scope0 Nc C s H ex).fn x=true\/(d8 X0 scope0 Nc C s H ex).env.scope.names.lookup x=some .local:=by first|show .inl rfl|show .inr rfl)(c:Loc (d8 X0 scope0 Nc C s H ex).env.scope y:=by first|show Or.inl rfl|show Or.inr rfl)(h:(d8 X0 scope0 Nc C s H ex).fn y=true\/(d8 X0 scope0 Nc C s H ex).env.scope.names.lookup y=some .local:=by first|show .inl rfl|show .inr rfl)(g:Nc[k]?=some x:=by rfl)(f:Nc[j]?=some y:=by rfl)(m:(d8 X0 scope0 Nc C s H ex).calm=true:=by rfl):JG (d8 X0 scope0 Nc C s H ex) (.Tuple [.Name x b,.Name y a] n pos) (gN k j):=yW m e d l c h g f
def VS.loc(V:VS sc N gl)(h:sc.names.lookup x=some .local:=by decide+kernel):sc.names.lookup x=some .local:=h
end
end L3
namespace L2
open PySem PySem.Spec PyProof.Rows PySem.W
def SI:V->List V->Hp->VK->Prop:=λx b H Q=>∃l a,x= .ref l/\b=[]/\H l=some (.lst a)/\Q .av (upd H l (.lst a.reverse))
def Vals.rev{xs:List V}{aq:List Value}(h:Vals xs aq):Vals xs.reverse aq.reverse:=by
 induction h with
 |nil=>show .nil
 |cons a _ b=>
  rw[aaB,aaB];show b.append (.cons a .nil)
def So:Tz X "list.reverse" SI:=by
 intro b s σ H x m v o Q I g k h;obtain⟨l,f,rfl,rfl,c,q⟩:=h;cases g;let a:=k.zero;subst a;obtain⟨z,d,n,r,p,e⟩:=I.LV c;show ZR F.slot_list_reverse ⟨_,e,rfl⟩ F.entry_list_reverse (F.args_list_reverse_1 _) (AutoSeq1.list_reverse_list_0 l d.toArray n (by rw[XG];lia)) ⟨e,?_⟩;show⟨.av,_,I.Mq (its':=d.reverse) (ys:=f.reverse) c e (by simp) r.rev (by rw[aaX];show z),rfl,q⟩
end L2
namespace L3
open PySem L2
open PySem.Spec hiding items?
open PyProof.Rows hiding St
@[irreducible] def tI(to:DE):DE:=λσ st K=>to σ st λx a=>match x with
 | .ref n=>(match a[n]? with|some (.lst b)=>K .av (a.set n (.lst b.reverse))|_=>False)
 |_=>False
section
variable {X:Cx}
def JF{α β:Type}{R:α->β->Prop}:∀ {xs ys:List α} {us ws:List β},Paired R xs us->Paired R ys ws->Paired R (xs++ys) (us++ws)
 |_,_,_,_,.nil,s=>s
 |_,_,_,_,.cons r t,s=> .cons r (JF t s)
def Jv{α β:Type}{R:α->β->Prop}:∀ {xs:List α} {us:List β},Paired R xs us->Paired R xs.reverse us.reverse
 |_,_,.nil=> .nil
 |_,_,.cons r t=>by
  rw[aaB,aaB];show JF (Jv t) (.cons r .nil)
def LE.rev(h:LE (tI to) σ H Q):M1 X.K "list" SI (LE to) σ H Q:=by
 obtain⟨α,m,st,K,G,F,P,R,S,t,k⟩:=h;unfold tI at t;show⟨α,m,st,_,G,F,P,R,S,t,λx r q o z H1 v s f l u=>?_⟩;cases x<;>try show q.elim
 rename_i n;simp only at q;split at q
 . rename_i y e;obtain⟨p,d,a,c,w⟩:=l.ia e;let b:=ee d u;subst b;show⟨.inl ⟨rfl,a,.inl (.of (f.get c))⟩,p,a,rfl,rfl,f.get c,?_⟩;let g:=XS d;show(k.at s) .av _ q o _ _ .av (Step.write g) (f.write c) (l.write d ⟨a.reverse,bf,(bI.mpr (Jv (bI.mp w))).step (Step.write g)⟩) (by unfold Rep;rfl)
 show q.elim
def Oh{b a:Pos}(e:JE X o to)(d:attributeBase o "reverse" X.env (eval o X.env)=eval o X.env:=by rfl)(c:(b.endLine==a.line)=true:=by rfl):JE X (.Call (.Attribute o "reverse" b) [] [] a) (tI to):=by
 unfold JE at*;show PE.imp (Jz aav PySem.F.slot_list_reverse PySem.F.type_list_reverse So e d c) λ_ _ _ h=>LE.rev h
end
def KG{st:ag}{K:DK}{xs:List D}(b:∀a,a (.ref n) st->to σ st a)(e:st[n]?=some (.lst xs))(k:K .av (st.set n (.lst xs.reverse))):tI to σ st K:=by
 unfold tI;show b _ ?_;simp![e];show k
@[irreducible] def vT(to:DE):DE:=λσ st K=>to σ st λx a=>match x with
 | .ref n=>(match a[n]? with|some (.lst b)=>(match b[b.length-1]? with|some d=>K d (a.set n (.lst b.dropLast))|none=>False)|_=>False)
 |_=>False
def Gq{α β:Type}{R:α->β->Prop}:∀ {xs:List α} {us:List β},Paired R xs us->Paired R xs.dropLast us.dropLast
 |_,_,.nil=> .nil
 |_,_,.cons _ .nil=> .nil
 |_,_,.cons r (.cons q t)=> .cons r (Gq (.cons q t))
section
variable {X:Cx}
def LE.V5(h:LE (vT to) σ H Q):M1 X.K "list" Sa (LE to) σ H Q:=by
 obtain⟨α,r,st,K,G,F,P,R,S,t,k⟩:=h;unfold vT at t;show⟨α,r,st,_,G,F,P,R,S,t,λx u q s I H1 v w m o A=>?_⟩;cases x<;>try show q.elim
 rename_i n;simp only at q;split at q
 . rename_i E e;split at q
   . rename_i d C;obtain⟨p,l,a,g,f⟩:=o.ia e;let b:=ee l A;subst b;obtain⟨y,B,z⟩:=f.get C;let c:=XS l;show⟨.inl ⟨rfl,a,.inl (.of (m.get g))⟩,p,a,y,rfl,rfl,m.get g,by rw[<-f.length];show B,?_⟩;show(k.at w) d _ q s _ _ y (Step.write c) (m.write g) (o.write l ⟨a.dropLast,bf,(bI.mpr (Gq (bI.mp f))).step (Step.write c)⟩) (z.step (Step.write c))
   show q.elim
 show q.elim
def RP{b a:Pos}(e:JE X o to)(d:attributeBase o "pop" X.env (eval o X.env)=eval o X.env:=by rfl)(c:(b.endLine==a.line)=true:=by rfl):JE X (.Call (.Attribute o "pop" b) [] [] a) (vT to):=by
 unfold JE at*;show PE.imp (Jz aav PySem.F.slot_list_pop PySem.F.type_list_pop Rw e d c) λ_ _ _ h=>LE.V5 h
end
def OD{st:ag}{K:DK}{xs:List D}(b:∀a,a (.ref n) st->to σ st a)(e:st[n]?=some (.lst xs))(c:xs[xs.length-1]?=some d)(k:K d (st.set n (.lst xs.dropLast))):vT to σ st K:=by
 unfold vT;show b _ ?_;simp![e,c];show k
mutual
inductive Dw(st:ag):D->D->Prop
 |own {n:Nat} {d:D} (h:pl n d=true):Dw st d d
 |ref {c:Nat} {xs ys:List D} (e:st[c]?=some (.lst xs)) (t:uM st xs ys):Dw st (.ref c) (.lst ys)
 |lst {xs ys:List D} (t:uM st xs ys):Dw st (.lst xs) (.lst ys)
 |tup {xs ys:List D} (t:uM st xs ys):Dw st (.tup xs) (.tup ys)
inductive uM(st:ag):List D->List D->Prop
 |nil:uM st [] []
 |cons {x y:D} {xs ys:List D} (h:Dw st x y) (t:uM st xs ys):uM st (x::xs) (y::ys)
end
mutual
def Dw.rep{st:ag}(S:a8 α st G):∀ {d e:D} {v:V},Dw st d e->Rep α G d v->Rep [] G e v
 |_,_,_,.own h,r=>Ae _ h r
 |_,_,_,.ref e t,r=>by
  obtain⟨a,k,c,g,f⟩:=S.ia e;let:=ee k r;subst this;unfold Rep;show⟨a,c,rfl,by simp,.inl g,t.rep S f⟩
 |_,_,_,.lst t,r=>by
  unfold Rep at r⊢;obtain⟨a,b,e,_,q,z⟩:=r;show⟨a,b,e,by simp,q,t.rep S z⟩
 |_,_,_,.tup t,r=>by
  unfold Rep at r⊢;obtain⟨a,b,e,_,q,z⟩:=r;show⟨a,b,e,by simp,q,t.rep S z⟩
def uM.rep{st:ag}(S:a8 α st G):∀ {b a:List D} {vs:List V},uM st b a->aM α G b vs->aM [] G a vs
 |_,_,_,.nil,r=>by unfold aM at r⊢;show r
 |_,_,_,.cons h t,r=>by
  unfold aM at r⊢;obtain⟨v,w,e,d,c⟩:=r;show⟨v,w,e,h.rep S d,t.rep S c⟩
end
end L3
namespace L3
open PySem L2 PySem.SeqAt
open PySem.Spec hiding items?
open PyProof.Rows hiding St
open AutoSeq1 (wpAny_loadPart')
open MeetsSeq MeetsSeq2 MeetsSeq3
def i5(op:CmpOp)(A:Around)(s:Shared)(y x:Value)(b:Bool):Prop:=
 ∀(a:Program) (w:World) (E:Value->Shared->Prop) (Q:Value->Shared->Prop),Q (.bool b) s->wpAny (model a w) A (richCompare op y x) Q E s
def ij(e l:Nat->Bool)(a:Bool):Nat->Nat->Bool
 |0,_=>a
 |k+1,i=>if e i=true then ij e l a k (i+1)else l i
def Ih(l b:Addr)(items a:Array Value)(n H:Nat)(N B:Option Addr)(G q:Array (Option Value))(e c:Nat->Bool):
 Meets (Builtin.«tuple.__lt__» ⟨[.ref l,.ref b],[]⟩)
  (λA R s=>s.heap.get? l=some {cls:= .type "tuple",dict:=N,data:= .seq items n,slots:=G}/\s.heap.get? b=some {cls:= .type "tuple",dict:=B,data:= .seq a H,slots:=q}/\
    (∀j (z:j<items.size) (h2:j<a.size),EqAt A.in1 s items[j] a[j] (e j)/\(e j=false->i5 .Lt A.in1 s items[j] a[j] (c j)))/\
    R (.ok (.ret (.bool (ij e c (decide (items.size<a.size)) (min items.size a.size) 0)))) s):=
 .of_wp λk w A R s h=>by
  obtain⟨E,g,d,tk,C⟩:=s;obtain⟨J,L,F,h⟩:=h;let O:=AutoSeq1.sub_tuple_tuple;let M:(items.toList.zip a.toList).length=min items.size a.size:=by simp
  wp_walk using wpAny_loadPart' J,wpAny_loadPart' L,wpAny_forIn_list _ (λrest b r=>b.1=none/\r=⟨E,g,d,tk,C⟩/\∃i,i+rest.length=min items.size a.size/\rest=(items.toList.zip a.toList).drop i/\
   R (.ok (.ret (.bool (ij e c (decide (items.size<a.size)) rest.length i)))) ⟨E,g,d,tk,C⟩) _
  case turn=>
   rintro⟨y,x⟩ rest b r ⟨o,rfl,i,m,t,f⟩;let u:i<min items.size a.size:=by simp at m;lia
   let v:i<(items.toList.zip a.toList).length:=M▸u;let z:i<items.size:=XR u (abD _ _);let h2:i<a.size:=XR u (abq _ _);rw[X9 v]at t;injection t with hyx hrest;let p:y=items[i]:=by let:=YK Prod.fst hyx;simpa using this
   let I:x=a[i]:=by let:=YK Prod.snd hyx;simpa using this
   subst p I;rw[XT]at f m;unfold ij at f;show Xw ((F i z h2).1 k w _ _ ?_);cases p:e i with
   |true=>
    rw[p,XB rfl]at f
    wp_walk
    show⟨rfl,rfl,i+1,by lia,hrest,f⟩
   |false=>
    rw[p,Xx ⋯]at f;rw[XB (by rfl)];show Xw (aaq (Xw ((F i z h2).2 p k w _ _ ?_)))
    wp_walk
    show⟨_,rfl,f⟩
  case fin=>
   rintro⟨Q,P⟩ r ⟨o,rfl,i,m,t,f⟩;simp only at o;subst o;unfold ij at f
   wp_walk
   show⟨_,rfl,f⟩
  case h=>
   show⟨rfl,rfl,0,by simp,rfl,by simpa using h⟩
def GJ(l b:Addr)(items a:Array Value)(n H:Nat)(N B:Option Addr)(G q:Array (Option Value))(e c:Nat->Bool):
 Meets (Builtin.«tuple.__gt__» ⟨[.ref l,.ref b],[]⟩)
  (λA R s=>s.heap.get? l=some {cls:= .type "tuple",dict:=N,data:= .seq items n,slots:=G}/\s.heap.get? b=some {cls:= .type "tuple",dict:=B,data:= .seq a H,slots:=q}/\
    (∀j (z:j<items.size) (h2:j<a.size),EqAt A.in1 s items[j] a[j] (e j)/\(e j=false->i5 .Gt A.in1 s items[j] a[j] (c j)))/\
    R (.ok (.ret (.bool (ij e c (decide (a.size<items.size)) (min items.size a.size) 0)))) s):=
 .of_wp λk w A R s h=>by
  obtain⟨E,g,d,tk,C⟩:=s;obtain⟨J,L,F,h⟩:=h;let O:=AutoSeq1.sub_tuple_tuple;let M:(items.toList.zip a.toList).length=min items.size a.size:=by simp
  wp_walk using wpAny_loadPart' J,wpAny_loadPart' L,wpAny_forIn_list _ (λrest b r=>b.1=none/\r=⟨E,g,d,tk,C⟩/\∃i,i+rest.length=min items.size a.size/\rest=(items.toList.zip a.toList).drop i/\
   R (.ok (.ret (.bool (ij e c (decide (a.size<items.size)) rest.length i)))) ⟨E,g,d,tk,C⟩) _
  case turn=>
   rintro⟨y,x⟩ rest b r ⟨o,rfl,i,m,t,f⟩;let u:i<min items.size a.size:=by simp at m;lia
   let v:i<(items.toList.zip a.toList).length:=M▸u;let z:i<items.size:=XR u (abD _ _);let h2:i<a.size:=XR u (abq _ _);rw[X9 v]at t;injection t with hyx hrest;let p:y=items[i]:=by let:=YK Prod.fst hyx;simpa using this
   let I:x=a[i]:=by let:=YK Prod.snd hyx;simpa using this
   subst p I;rw[XT]at f m;unfold ij at f;show Xw ((F i z h2).1 k w _ _ ?_);cases p:e i with
   |true=>
    rw[p,XB rfl]at f
    wp_walk
    show⟨rfl,rfl,i+1,by lia,hrest,f⟩
   |false=>
    rw[p,Xx ⋯]at f;rw[XB (by rfl)];show Xw (aaq (Xw ((F i z h2).2 p k w _ _ ?_)))
    wp_walk
    show⟨_,rfl,f⟩
  case fin=>
   rintro⟨Q,P⟩ r ⟨o,rfl,i,m,t,f⟩;simp only at o;subst o;unfold ij at f
   wp_walk
   show⟨_,rfl,f⟩
  case h=>
   show⟨rfl,rfl,0,by simp,rfl,by simpa using h⟩
section
variable {X:Cx}{pins:List (Addr×Obj)}{σ:L2.St}{H:Hp}{s:Shared}{α:List (Option Addr)}
def i5.tuples{A:Around}{items a:Array Value}{e c:Nat->Bool}(B:s.heap.IsTuple l items)(G:s.heap.IsTuple b a)(z:A.units<cLine)
 (C:∀j (L:j<items.size) (h2:j<a.size),EqAt A.in1 s items[j] a[j] (e j)/\(e j=false->i5 .Lt A.in1 s items[j] a[j] (c j))):i5 .Lt A s (.ref l) (.ref b) (ij e c (decide (items.size<a.size)) (min items.size a.size) 0):=λo w E Q h=>by
 obtain⟨⟨J,I,t,v⟩,p,r,n,q⟩:=id B;obtain⟨⟨u,m,data2,k⟩,d,g,y,f⟩:=id G;simp only at r q g f;subst r q g f
 show richCompare_meets_room (op:= .Lt) ⟨_,p,rfl⟩ ⟨_,d,rfl⟩ F.slot_tuple_lt F.entry_tuple_lt (F.args_tuple_lt_2 _ _) (Ih l b items a n y I m v k e c)
  ⟨p,d,C,show Value.bool (ij e c (decide (items.size<a.size)) (min items.size a.size) 0)≠Value.notImplemented/\Q (.bool (ij e c (decide (items.size<a.size)) (min items.size a.size) 0)) s from⟨(λx=>nomatch x),h⟩⟩ z
def i5.Qe{A:Around}{items a:Array Value}{e c:Nat->Bool}(B:s.heap.IsTuple l items)(G:s.heap.IsTuple b a)(z:A.units<cLine)
 (C:∀j (L:j<items.size) (h2:j<a.size),EqAt A.in1 s items[j] a[j] (e j)/\(e j=false->i5 .Gt A.in1 s items[j] a[j] (c j))):i5 .Gt A s (.ref l) (.ref b) (ij e c (decide (a.size<items.size)) (min items.size a.size) 0):=λo w E Q h=>by
 obtain⟨⟨J,I,t,v⟩,p,r,n,q⟩:=id B;obtain⟨⟨u,m,data2,k⟩,d,g,y,f⟩:=id G;simp only at r q g f;subst r q g f
 show richCompare_meets_room (op:= .Gt) ⟨_,p,rfl⟩ ⟨_,d,rfl⟩ F.slot_tuple_gt F.entry_tuple_gt (F.args_tuple_gt_2 _ _) (GJ l b items a n y I m v k e c)
  ⟨p,d,C,show Value.bool (ij e c (decide (a.size<items.size)) (min items.size a.size) 0)≠Value.notImplemented/\Q (.bool (ij e c (decide (a.size<items.size)) (min items.size a.size) 0)) s from⟨(λx=>nomatch x),h⟩⟩ z
def nv(g:Bool):Nat->D->D->Bool
 |_,.int i,.int j=>if g then decide (j<i)else decide (i<j)
 |n+1,.tup b,.tup a=>ij (λj=>cO (b.getD j .av) (a.getD j .av)) (λj=>nv g n (b.getD j .av) (a.getD j .av)) (if g then decide (a.length<b.length)else decide (b.length<a.length)) (min b.length a.length) 0
 |_,_,_=>false
def oY:Nat->D->D->Bool
 |_,.int _,.int _=>true
 |n+1,.tup b,.tup a=>(List.range (min b.length a.length)).all λj=>pl 30 (b.getD j .av)&&pl 30 (a.getD j .av)&&oY n (b.getD j .av) (a.getD j .av)
 |_,_,_=>false
def Hc(g:Bool):CmpOp:=if g then .Gt else .Lt
def Gk(g:Bool){i j:Int}(b:Rep α G (.int i) x)(a:Rep α G (.int j) y)(e:RelV x u)(d:RelV y v):i5 (Hc g) A s u v (nv g n (.int i) (.int j)):=by
 unfold Rep at b a;subst b a;obtain⟨t,rfl⟩:=e;obtain⟨f,rfl⟩:=d;intro c w E Q h;cases g with
 |false=>
  change wpAny _ _ (compareOp .Lt _ _) _ _ _;show lt_int ?_;cases n<;>show h
 |true=>
  change wpAny _ _ (compareOp .Gt _ _) _ _ _;show gt_int ?_;cases n<;>show h
def NY(I:Inv X pins σ H s)(g:Bool):∀(n:Nat) (A:Around) (d e:D) (x y:V) (u v:Value),oY n d e=true->Rep α H d x->Rep α H e y->RelV x u->RelV y v->A.units+n+30<cLine->i5 (Hc g) A s u v (nv g n d e):=by
 intro n;induction n with
 |zero=>
  intro A d e x y u v o w t r q W;cases d<;>cases e<;>try(cases o;done)
  show Gk g w t r q
 |succ n U=>
  intro A d e x y u v o w t r q W;cases d<;>cases e<;>try(cases o;done)
  . show Gk g w t r q
  rename_i h f;obtain⟨a,Z,B,rfl,M,F,R⟩:=tup_is I w r;obtain⟨b,Y,c,rfl,L,E,Q⟩:=tup_is I t q;let e1:=M.length;let e2:=F.length;let e3:=L.length;let e4:=E.length;let C:A.in1.units+n+30<cLine:=by rw[abu];lia
  let J:B.toArray.size=h.length:=by simp![XG];lia
  let G:c.toArray.size=f.length:=by simp![XG];lia
  let key:∀j (T:j<B.toArray.size) (S:j<c.toArray.size),EqAt A.in1 s B.toArray[j] c.toArray[j] (cO (h.getD j .av) (f.getD j .av))/\(cO (h.getD j .av) (f.getD j .av)=false->i5 (Hc g) A.in1 s B.toArray[j] c.toArray[j] (nv g n (h.getD j .av) (f.getD j .av))):=λj T S=>by
   obtain⟨p,_,O,N⟩:=jY M F j (by simpa using T);obtain⟨P,_,l,k⟩:=jY L E j (by simpa using S)
   let z:(pl 30 (h.getD j .av)&&pl 30 (f.getD j .av)&&oY n (h.getD j .av) (f.getD j .av))=true:=by
    unfold oY at o;show Yu.mp o j (YW.mpr ())
   rw[Ym,Ym]at z;show⟨(CB I 30 A.in1 _ _ p P _ _ z.1.1 z.1.2 O l (by simpa using N) (by simpa using k) ()).2,λ_=>U A.in1 _ _ p P _ _ z.2 O l (by simpa using N) (by simpa using k) C⟩
  let m:A.units<cLine:=()
  unfold nv;cases g with
  |false=>
   have:=i5.tuples R Q m key;rw[J,G]at this;show this
  |true=>
   have:=i5.Qe R Q m key;rw[J,G]at this;show this
@[irreducible] def tW:dG:=λx y st K=>oY 3 x y=true/\K (.bl (nv false 3 x y)) st
@[irreducible] def Dj:dG:=λx y st K=>oY 3 x y=true/\K (.bl (nv true 3 x y)) st
def Iq{k:Nat}(g:dv k X.A):cu X (compareOp .Lt) (LR tW):=λpins s σ H x y v u Q I b a ⟨α,d,e,st,K,G,l,P,f,c,S,q,k⟩=>by
 let h:=g.units;unfold tW at q;show NY I false 3 X.A d e x y v u q.1 (f.mono P.same) (c.mono P.same) b a () _ _ _ _ ⟨.bl (nv false 3 d e),H,I,rfl,k.here P q.2 S (by unfold Rep;rfl)⟩
def T6{k:Nat}(g:dv k X.A):cu X (compareOp .Gt) (LR Dj):=λpins s σ H x y v u Q I b a ⟨α,d,e,st,K,G,l,P,f,c,S,q,k⟩=>by
 let h:=g.units;unfold Dj at q;show NY I true 3 X.A d e x y v u q.1 (f.mono P.same) (c.mono P.same) b a () _ _ _ _ ⟨.bl (nv true 3 d e),H,I,rfl,k.here P q.2 S (by unfold Rep;rfl)⟩
end
def RI{st:ag}{K:DK}(h:oY 3 x y=true)(k:K (.bl (nv false 3 x y)) st):tW x y st K:=by unfold tW;show⟨h,k⟩
def Se{st:ag}{K:DK}(h:oY 3 x y=true)(k:K (.bl (nv true 3 x y)) st):Dj x y st K:=by unfold Dj;show⟨h,k⟩
end L3
namespace L3
open PySem L2
open PySem.Spec hiding items?
open PyProof.Rows hiding St
section
variable {X:Cx}{x:Str}{C f:Addr}{k:Nat}{fd:FuncData}{ps:List Str}{S:cf}{pos p:Pos}
def Pa(M:Mk X.K C f)(F:cV X.prog X.w X.K X.mg X.base eN k f fd ps (fm S))(c:dv (k+1) X.A)(d:Gl X x)(a:X.mg x=some (.ref C))(e:Binds X.K fd ps [])(b:(x==("__debug__":Str))=false):JE X (.Call (.Name x p) [] [] pos) (pP C S ai):=by
 unfold JE;show PE.imp (MA M F c d a e .nil yP b) λσ H Q h=>?_;obtain⟨α,g,st,K,G,F,P,R,S,t,k⟩:=LE.make h;show k [] st t α G H [] Step.refl P S (by unfold aM;rfl)
end
section
variable {K:PySem.W.Frag}{x qual:Str}{st:Stmt}{f:Addr}{fd:FuncData}{p1 p2 p3 p4 p5 p6 p7:Str}
def VT(F:oU K x qual st f fd)(h:∀kV a l m b ct k g e d c,bindArgs (oW x qual st kV a l m b ct) ⟨[k,g,e,d,c],[]⟩=pure [(p1,k),(p2,g),(p3,e),(p4,d),(p5,c)]):Binds K fd [p1,p2,p3,p4,p5] []:=
 F.binds λkV a l m b ct t n=>by
  obtain⟨k,z,rfl,s⟩:=du n;obtain⟨g,y,rfl,r⟩:=du s;obtain⟨e,w,rfl,q⟩:=du r;obtain⟨d,v,rfl,p⟩:=du q;obtain⟨c,u,rfl,o⟩:=du p;cases pX o;show h kV a l m b ct k g e d c
def Xi(F:oU K x qual st f fd)(h:∀kV a n o b ct m l k g e d c,bindArgs (oW x qual st kV a n o b ct) ⟨[m,l,k,g,e,d,c],[]⟩=pure [(p1,m),(p2,l),(p3,k),(p4,g),(p5,e),(p6,d),(p7,c)]):Binds K fd [p1,p2,p3,p4,p5,p6,p7] []:=
 F.binds λkV a n o b ct y p=>by
  obtain⟨m,H,rfl,w⟩:=du p;obtain⟨l,G,rfl,v⟩:=du w;obtain⟨k,E,rfl,u⟩:=du v;obtain⟨g,C,rfl,t⟩:=du u;obtain⟨e,B,rfl,s⟩:=du t;obtain⟨d,A,rfl,r⟩:=du s;obtain⟨c,z,rfl,q⟩:=du r;cases pX q;show h kV a n o b ct m l k g e d c
end
end L3
namespace Hd
open PySem PySem.W L2 L3
open PySem.Spec hiding items?
open PyProof.Rows hiding St
section
variable {K:Frag}{mg:Str->Option Value}{h:Heap}{x q:Str}{st:Stmt}{f c C:Addr}{pm:Value}{p1 p2 p3 p4 p5 p6 p7:Str}
def WZ(X:K.In h)(G:h.Ns mainGlobals mg)(e:Ed K x st f pm c)(b:∀kV a pm o d ct n m l k g,bindArgs (oW x x st kV a pm o d ct) ⟨[n,m,l,k,g],[]⟩=pure [(p1,n),(p2,m),(p3,l),(p4,k),(p5,g)]):oB K mg x x st [p1,p2,p3,p4,p5] f (fd st x x pm c):=⟨e.fn.1,mg_of X G e.fn.2,VT e.fn.1 b⟩
def W4(e:Em K C x q st f pm c)(b:∀kV a pm o d ct n m l k g,bindArgs (oW x q st kV a pm o d ct) ⟨[n,m,l,k,g],[]⟩=pure [(p1,n),(p2,m),(p3,l),(p4,k),(p5,g)]):MethAt K C x q st [p1,p2,p3,p4,p5] f (fd st x q pm c):=⟨e.fn.1,e.fn.2,VT e.fn.1 b⟩
def W5(e:Em K C x q st f pm c)(b:∀kV a pm r d ct p o n m l k g,bindArgs (oW x q st kV a pm r d ct) ⟨[p,o,n,m,l,k,g],[]⟩=pure [(p1,p),(p2,o),(p3,n),(p4,m),(p5,l),(p6,k),(p7,g)]):MethAt K C x q st [p1,p2,p3,p4,p5,p6,p7] f (fd st x q pm c):=⟨e.fn.1,e.fn.2,Xi e.fn.1 b⟩
end
end Hd
namespace Mx
def S:Nat->(Nat->Int)->Int
 |0,_=>0
 |n+1,f=>S n f+f n
def aG{f g:Nat->Int}(h:∀i,i<n->f i=g i):S n f=S n g:=by
 induction n with
 |zero=>rfl
 |succ n a=>unfold S;rw[a λi b=>h i (),h n ()]
def lS{f:Nat->Int}(h:∀i,i<n->f i=0):S n f=0:=by
 induction n with
 |zero=>rfl
 |succ n a=>unfold S;rw[a λi b=>h i (),h n ()];rfl
def kc(n:Nat)(f g:Nat->Int):S n (λi=>f i+g i)=S n f+S n g:=by
 induction n with
 |zero=>rfl
 |succ n a=>unfold S;rw[a];dsimp only;lia
def fL(n:Nat)(c:Int)(f:Nat->Int):S n (λi=>c*f i)=c*S n f:=by
 induction n with
 |zero=>unfold S;rw[Yv]
 |succ n a=>unfold S;rw[a,Int.mul_add]
def qj(n:Nat)(c:Int)(f:Nat->Int):S n (λi=>f i*c)=S n f*c:=by
 induction n with
 |zero=>unfold S;rw[Zt]
 |succ n a=>unfold S;rw[a,Int.add_mul]
def zi(n:Nat)(f:Nat->Int):S n (λi=> -f i)= -S n f:=by
 induction n with
 |zero=>rfl
 |succ n a=>unfold S;rw[a];dsimp only;lia
def o2(m n:Nat)(f:Nat->Nat->Int):S m (λi=>S n λj=>f i j)=S n λj=>S m λi=>f i j:=by
 induction m with
 |zero=>show(lS (n:=n) (λi _=>rfl)).symm
 |succ m a=>
  have:S n (λj=>S (m+1) λi=>f i j)=S n λj=>(S m λi=>f i j)+f m j:=aG λj _=>rfl;rw[this,kc,<-a];rfl
def qP{k:Nat}(hk:k<n){f:Nat->Int}(h:∀i,i<n->i≠k->f i=0):S n f=f k:=by
 induction n with
 |zero=>lia
 |succ n a=>
  unfold S;by_cases e:k=n
  . subst e;rw[lS λi c=>h i () (),Z4]
  rw[a () λi c b=>h i () b,h n () (),YH]
def y_(n:Nat)(f:Nat->Int):S (n+1) f=f 0+S n λi=>f (i+1):=by
 induction n with
 |zero=>unfold S S;lia
 |succ n a=>
  have:S (n+1+1) f=S (n+1) f+f (n+1):=rfl;rw[this,a];let:S (n+1) (λi=>f (i+1))=S n (λi=>f (i+1))+f (n+1):=rfl;rw[this];lia
def dl(i j:Nat):Int:=if i=j then 1 else 0
def fS(i:Nat):dl i i=1:=XB rfl
def gv{i j:Nat}(h:i≠j):dl i j=0:=Xx h
def qf{n k:Nat}(hk:k<n)(f:Nat->Int):S n (λi=>dl k i*f i)=f k:=by
 rw[qP hk (λi _ h=>by rw[gv (XI h),Zt]),fS,ZD]
def sh{n k:Nat}(hk:k<n)(f:Nat->Int):S n (λi=>f i*dl i k)=f k:=by
 rw[qP hk (λi _ h=>by rw[gv h,Yv]),fS,Int.mul_one]
abbrev Row:=List Int
abbrev Rows:=List (List Int)
def g(A:Rows)(i j:Nat):Int:=(A.getD i []).getD j 0
structure dy(m n:Nat)(A:Rows):Prop where
 len:A.length=m
 jN:∀r∈A,r.length=n
def aJ{α:Type}{l:List α}{i:Nat}{d:α}(h:i<l.length):l.getD i d=l[i]:=by
 rw[XD,XC h];rfl
def k5{α:Type}{l:List α}{i:Nat}{d:α}(h:l.length<=i):l.getD i d=d:=by
 rw[XD,Zw h];rfl
def FP{a b:Row}(f:a.length=n)(e:b.length=n)(h:∀j,j<n->a.getD j 0=b.getD j 0):a=b:=by
 show List.ext_getElem () λi d c=>?_;let:=h i ();rwa [aJ d,aJ c]at this
def dy.row{A:Rows}(h:dy m n A){i:Nat}(b:i<m):(A.getD i []).length=n:=by
 let a:=h.len;rw[aJ ()];show h.jN _ (Yd _)
def dy.ext(c:dy m n A)(b:dy m n B)(h:∀i j,i<m->j<n->g A i j=g B i j):A=B:=by
 let l:=c.len;let k:=b.len;show List.ext_getElem () λi d a=>?_;let f:=c.row (i:=i) ();let e:=b.row (i:=i) ();let:=FP f e λj a=>h i j () a;rwa [aJ d,aJ a]at this
def bg(r:Row)(t:Int)(s:Row):Row:=List.zipWith (λa b=>a+t*b) r s
def fR{r s:Row}(h:r.length=s.length):(bg r t s).length=r.length:=by unfold bg;simp[h]
def i_{r s:Row}(h:r.length=s.length)(j:Nat):(bg r t s).getD j 0=r.getD j 0+t*s.getD j 0:=by
 unfold bg;by_cases a:j<r.length
 . rw[aJ (by simp;lia),aJ a,aJ ()];simp
 rw[k5 (by simp;lia),k5 (),k5 ()];simp
def fT:Row->Rows->Row->Row
 |w::ws,r::rs,a=>fT ws rs (bg a w r)
 |_,_,a=>a
def Bm:∀ {c:Row} {a:Rows} {acc:Row},acc.length=n->(∀r∈a,r.length=n)->(fT c a acc).length=n
 | [],_,acc,h,_=>by unfold fT;show h
 |_::_,[],acc,h,_=>by unfold fT;show h
 |w::c,r::a,acc,h,d=>by
  unfold fT;show Bm ?_ λr b=>d r (XN _ b);rw[fR (by rw[h,d r XX]),h]
def x_:∀ {b:Row} {a:Rows} {acc:Row} (j:Nat),acc.length=n->(∀r∈a,r.length=n)->b.length=a.length->(fT b a acc).getD j 0=acc.getD j 0+S a.length λk=>b.getD k 0*g a k j
 | [],[],acc,j,h,_,_=>by unfold fT;change _=_+(0:Int);rw[YH]
 | [],_::_,acc,j,h,_,c=>by cases c
 |_::_,[],acc,j,h,_,c=>by cases c
 |w::b,r::a,acc,j,h,e,c=>by
  let f:acc.length=r.length:=by rw[h,e r XX]
  unfold fT;rw[x_ j (by rw[fR f,h]) (λr d=>e r (XN _ d)) (by simpa using c),i_ f,XT,y_]
  let:(λk=>(w::b).getD (k+1) 0*g (r::a) (k+1) j)=λk=>b.getD k 0*g a k j:=by
   funext k;unfold g;simp
  rw[this];unfold g;simp;lia
def ee(n j:Nat):(List.replicate n (0:Int)).getD j 0=0:=by
 by_cases h:j<n
 . rw[aJ (by simpa using h)];simp
 rw[k5 (by simp;lia)]
def m6(n i:Nat):Row:=(List.range n).map λk=>dl k i
def units(n:Nat):Rows:=(List.range n).map λi=>m6 n i
def range_getD{α:Type}{f:Nat->α}{n i:Nat}{d:α}(h:i<n):((List.range n).map f).getD i d=f i:=by
 rw[aJ (by simpa using h)];simp
def tU(n:Nat):dy n n (units n):=⟨by simp[units],λr a=>by unfold units at a;obtain⟨i,_,rfl⟩:=X8.mp a;simp[m6]⟩
def mG{n i j:Nat}(b:i<n)(a:j<n):g (units n) i j=dl i j:=by
 unfold g units m6;rw[range_getD b,range_getD a];unfold dl;by_cases h:i=j
 . subst h;rfl
 rw[Xx (XI h),Xx h]
def sO(A:Rows)(j:Nat):Row:=A.map λr=>r.getD j 0
def jk(A:Rows)(n:Nat):Rows:=(List.range n).map λj=>sO A j
def vc(b:dy m n A):dy n m (jk A n):=⟨by simp[jk],λr a=>by
 unfold jk at a;obtain⟨j,_,rfl⟩:=X8.mp a;unfold sO;rw[Xr,b.len]⟩
def Pn{A:Rows}{i:Nat}(j:Nat)(h:i<A.length):(sO A j).getD i 0=g A i j:=by
 unfold sO g;rw[aJ (by simpa using h),aJ h];simp
def yn(c:dy m n A){i j:Nat}(b:i<m)(a:j<n):g (jk A n) j i=g A i j:=by
 change((jk A n).getD j []).getD i 0=_;unfold jk;rw[range_getD a,Pn j (by rw[c.len];show b)]
def aP:Row->Row->Int
 |a::as,b::bs=>a*b+aP as bs
 |_,_=>0
def KW:∀ {a b:Row},a.length=b.length->aP a b=S b.length λk=>a.getD k 0*b.getD k 0
 | [],[],_=>rfl
 | [],_::_,h=>by cases h
 |_::_,[],h=>by cases h
 |x::a,y::b,h=>by
  unfold aP;rw[KW (by simpa using h),XT,y_];simp
def zJ(i j:Nat):dl i j=dl j i:=by
 unfold dl;by_cases h:i=j
 . rw[XB h,XB h.symm]
 rw[Xx h,Xx (XI h)]
def sw(i j k:Nat):Nat:=if k=i then j else if k=j then i else k
def Wn{n i j:Nat}(e:i<n)(d:j<n)(a:i≠j)(f:Nat->Int):S n (λk=>f (sw i j k))=S n f:=by
 let:S n (λk=>f (sw i j k))=S n λk=>f k+(f j-f i)*dl k i+(f i-f j)*dl k j:=aG λk _=>by
  unfold sw;by_cases c:k=i
  . subst c;rw[XB rfl,fS,gv a];lia
  rw[Xx c,gv c];by_cases b:k=j
  . subst b;rw[XB rfl,fS];lia
  rw[Xx b,gv b];lia
 rw[this,kc,kc,sh (f:=λ_=>f j-f i) e,sh (f:=λ_=>f i-f j) d];lia
abbrev Fn:=Nat->Nat->Int
def sk(j c:Nat):Nat:=if c<j then c else c+1
def sg(j:Nat):Int:=if j%2=0 then 1 else-1
def zB(j:Nat):sg (j+1)= -sg j:=by unfold sg;split<;>split<;>lia
def Ac:sg 0=1:=rfl
def ny{j c n:Nat}(h:c<n):sk j c<n+1:=by unfold sk;split<;>lia
def UY{j k c:Nat}(h:k<j):sk j (sk k c)=sk k (sk (j-1) c):=by unfold sk;grind
def D:Nat->Fn->Int
 |0,_=>1
 |n+1,M=>S (n+1) λj=>sg j*M 0 j*D n λr c=>M (r+1) (sk j c)
def Lb(M:Fn):D 0 M=1:=rfl
def eO(n:Nat)(M:Fn):D (n+1) M=S (n+1) λj=>sg j*M 0 j*D n λr c=>M (r+1) (sk j c):=rfl
def ef:∀ {n:Nat} {M M':Fn},(∀r c,r<n->c<n->M r c=M' r c)->D n M=D n M'
 |0,_,_,_=>rfl
 |n+1,M,M',h=>by
  rw[eO,eO];show aG λj a=>?_;let e:D n (λr c=>M (r+1) (sk j c))=D n (λr c=>M' (r+1) (sk j c)):=ef λr c d b=>h (r+1) (sk j c) () (ny b);rw[h 0 j () a,e]
def NB:∀ {n:Nat} {M P Q:Fn} {a b:Int} {i:Nat},i<n->(∀c,c<n->M i c=a*P i c+b*Q i c)->(∀r c,r<n->c<n->r≠i->M r c=P r c/\M r c=Q r c)->D n M=a*D n P+b*D n Q
 |0,_,_,_,_,_,_,h,_,_=>by lia
 |n+1,M,P,Q,a,b,0,_,g,h=>by
  rw[eO,eO,eO,<-fL,<-fL,<-kc];show aG λj f=>?_;let o:D n (λr c=>M (r+1) (sk j c))=D n (λr c=>P (r+1) (sk j c)):=ef λr c k d=>(h (r+1) (sk j c) () (ny d) ()).1;let m:D n (λr c=>M (r+1) (sk j c))=D n (λr c=>Q (r+1) (sk j c)):=ef λr c k d=>(h (r+1) (sk j c) () (ny d) ()).2;rw[g j f,<-o,<-m];grind
 |n+1,M,P,Q,a,b,i+1,q,g,h=>by
  rw[eO,eO,eO,<-fL,<-fL,<-kc];show aG λj f=>?_;let e:=NB (n:=n) (M:=λr c=>M (r+1) (sk j c)) (P:=λr c=>P (r+1) (sk j c)) (Q:=λr c=>Q (r+1) (sk j c)) (a:=a) (b:=b) (i:=i) () (λc d=>g (sk j c) (ny d)) λr c k d l=>h (r+1) (sk j c) () (ny d) ();let p:=h 0 j () f ();rw[e,<-p.1,<-p.2];grind
def Wb(h:∀c,c<n+2->M 0 c=M 1 c):D (n+2) M=0:=by
 letI T:Nat->Nat->Int:=λj k=>sg j*M 0 j*(sg k*M 1 (sk j k)*D n λr c=>M (r+2) (sk j (sk k c)))
 let p:∀j,j<n+2->sg j*M 0 j*D (n+1) (λr c=>M (r+1) (sk j c))=S (n+1) λk=>T j k:=λj d=>by
  rw[eO,<-fL]
 rw[eO,aG p]
 let o:∀j,j<n+2->S (n+1) (λk=>T j k)=S (n+1) (λk=>if k<j then T j k else 0)+S (n+1) (λk=>if k<j then 0 else T j k):=λj _=>by
  rw[<-kc];show aG λk _=>?_;split<;>lia
 rw[aG o,kc]
 let m:∀j k,j<n+2->k<n+1->¬k<j->T j k= -T (k+1) j:=λj k d hk b=>by
  let g:sk (k+1) j=j:=by unfold sk;rw[XB ()]
  let f:sk j k=k+1:=by unfold sk;rw[Xx b]
  let e:(λr c=>M (r+2) (sk (k+1) (sk j c)))=λr c=>M (r+2) (sk j (sk k c)):=by
   funext r c;rw[UY (show j<k+1 by lia)];rfl
  change sg j*M 0 j*(sg k*M 1 (sk j k)*D n λr c=>M (r+2) (sk j (sk k c)))= -(sg (k+1)*M 0 (k+1)*(sg j*M 1 (sk (k+1) j)*D n λr c=>M (r+2) (sk (k+1) (sk j c))));rw[g,f,e,zB,<-h j d,<-h (k+1) ()];grind
 let l:S (n+2) (λj=>S (n+1) λk=>if k<j then 0 else T j k)= -S (n+2) (λj=>S (n+1) λk=>if k<j then T j k else 0):=by
  rw[o2,y_ (n+1) (λj=>S (n+1) λk=>if k<j then T j k else 0)];let z:S (n+1) (λk=>if k<0 then T 0 k else 0)=0:=lS λk _=>Xx ();rw[z,Z4,<-zi];show aG λk hk=>?_;let:S (n+2) (λj=>if k<j then 0 else T j k)=S (n+1) (λj=>if k<j then 0 else T j k)+(if k<n+1 then 0 else T (n+1) k):=rfl;rw[this,XB hk,YH,<-zi];show aG λj d=>?_;by_cases a:k<j
  . rw[XB a,Xx ()];rfl
  rw[Xx a,XB ()];show m j k () hk a
 rw[l];lia
def NZ:∀ {n:Nat} {M:Fn} {i:Nat},i+1<n->(∀c,c<n->M i c=M (i+1) c)->D n M=0
 |0,_,_,h,_=>by lia
 |1,_,_,h,_=>by lia
 |n+2,M,0,_,h=>Wb h
 |n+2,M,i+1,d,h=>by
  rw[eO];show lS λj b=>?_;rw[NZ (n:=n+1) (M:=λr c=>M (r+1) (sk j c)) (i:=i) () λc a=>h (sk j c) (ny a),Yv]
structure Alt(n:Nat)(φ:Fn->Int):Prop where
 cg:∀M M':Fn,(∀r c,r<n->c<n->M r c=M' r c)->φ M=φ M'
 sA:∀(i:Nat) (M P Q:Fn) (a b:Int),i<n->(∀c,c<n->M i c=a*P i c+b*Q i c)->(∀r c,r<n->c<n->r≠i->M r c=P r c/\M r c=Q r c)->φ M=a*φ P+b*φ Q
 alt:∀(i j:Nat) (M:Fn),i<n->j<n->i≠j->(∀c,c<n->M i c=M j c)->φ M=0
def upd(M:Fn)(i:Nat)(x:Nat->Int):Fn:=λr c=>if r=i then x c else M r c
def cZ(M:Fn)(i:Nat)(x:Nat->Int)(c:Nat):upd M i x i c=x c:=XB rfl
def aF{i r:Nat}{x:Nat->Int}(h:r≠i)(c:Nat):upd M i x r c=M r c:=Xx h
def VE{n i j:Nat}{φ:Fn->Int}(o:∀M M':Fn,(∀r c,r<n->c<n->M r c=M' r c)->φ M=φ M')
 (l:∀(i:Nat) (M P Q:Fn) (a b:Int),i<n->(∀c,c<n->M i c=a*P i c+b*Q i c)->(∀r c,r<n->c<n->r≠i->M r c=P r c/\M r c=Q r c)->φ M=a*φ P+b*φ Q)
 (A:i<n) (z:j<n) (d:i≠j) (f:∀N:Fn,(∀c,c<n->N i c=N j c)->φ N=0) (M:Fn):φ (λr=>M (sw i j r))= -φ M:=by
 let y:φ (upd (upd M i λc=>M i c+M j c) j λc=>M i c+M j c)=1*φ (upd (upd M i (M i)) j λc=>M i c+M j c)+1*φ (upd (upd M i (M j)) j λc=>M i c+M j c):=
  l i _ _ _ 1 1 A (λc _=>by rw[aF d,aF d,aF d,cZ,cZ,cZ];lia) λr c _ _ h=>by
   unfold upd;grind
 let m:∀x:Nat->Int,φ (upd (upd M i x) j λc=>M i c+M j c)=1*φ (upd (upd M i x) j (M i))+1*φ (upd (upd M i x) j (M j)):=λx=>
  l j _ _ _ 1 1 z (λc _=>by rw[cZ,cZ,cZ];lia) λr c _ _ h=>by
   rw[aF h,aF h,aF h];show⟨rfl,rfl⟩
 let u:φ (upd (upd M i λc=>M i c+M j c) j λc=>M i c+M j c)=0:=f _ λc _=>by rw[aF d,cZ,cZ]
 let t:φ (upd (upd M i (M i)) j (M i))=0:=f _ λc _=>by rw[aF d,cZ,cZ]
 let s:φ (upd (upd M i (M j)) j (M j))=0:=f _ λc _=>by rw[aF d,cZ,cZ]
 let w:φ (upd (upd M i (M i)) j (M j))=φ M:=o _ _ λr c _ _=>by
  unfold upd;split
  . rename_i e;rw[e]
  split
  . rename_i e;rw[e]
  rfl
 let v:φ (upd (upd M i (M j)) j (M i))=φ (λr=>M (sw i j r)):=o _ _ λr c _ _=>by
  unfold upd sw;by_cases k:r=j
  . rw[XB k];by_cases g:r=i
    . lia
    rw[Xx g,XB k]
  rw[Xx k];by_cases g:r=i
  . rw[XB g,XB g]
  rw[Xx g,Xx g,Xx k]
 let q:=m (M i);let p:=m (M j);rw[t,w]at q;rw[s,v]at p;rw[u,q,p]at y;lia
def Alt.swap{n i j:Nat}{φ:Fn->Int}(A:Alt n φ)(c:i<n)(b:j<n)(a:i≠j)(M:Fn):φ (λr=>M (sw i j r))= -φ M:=
 VE A.cg A.sA c b a (λN h=>A.alt i j N c b a h) M
def zw{φ:Fn->Int}(o:∀M M':Fn,(∀r c,r<n->c<n->M r c=M' r c)->φ M=φ M')
 (l:∀(i:Nat) (M P Q:Fn) (a b:Int),i<n->(∀c,c<n->M i c=a*P i c+b*Q i c)->(∀r c,r<n->c<n->r≠i->M r c=P r c/\M r c=Q r c)->φ M=a*φ P+b*φ Q)
 (f:∀(i:Nat) (M:Fn),i+1<n->(∀c,c<n->M i c=M (i+1) c)->φ M=0):Alt n φ:=by
 let e:∀(d i:Nat) (M:Fn),i+d+1<n->(∀c,c<n->M i c=M (i+d+1) c)->φ M=0:=by
  intro d;induction d with
  |zero=>show λi M m k=>f i M m k
  |succ d p=>
   intro i M m k;let x:=VE o l (i:=i+d+1) (j:=i+d+1+1) () () () (λN h=>f (i+d+1) N () h) M
   let:φ (λr=>M (sw (i+d+1) (i+d+1+1) r))=0:=p i _ () λc g=>by
    let w:sw (i+d+1) (i+d+1+1) i=i:=by unfold sw;rw[Xx (),Xx ()]
    let v:sw (i+d+1) (i+d+1+1) (i+d+1)=i+d+1+1:=by unfold sw;rw[XB rfl]
    rw[w,v];show k c g
   lia
 show⟨o,l,λi j M u s t h=>?_⟩;by_cases q:i<j
 . obtain⟨d,rfl⟩:∃d,j=i+d+1:=⟨j-i-1,by lia⟩
   show e d i M s h
 obtain⟨d,rfl⟩:∃d,i=j+d+1:=⟨i-j-1,by lia⟩
 show e d j M u λc g=>(h c g).symm
def vJ(n:Nat):Alt n (D n):=zw (λ_ _ h=>ef h) (λ_ _ _ _ _ _ a d h=>NB a d h) λ_ _ c b=>NZ c b
def Alt.RW{n i:Nat}{φ:Fn->Int}(A:Alt n φ)(a:i<n)(h:∀c,c<n->M i c=0):φ M=0:=by
 let:=A.sA i M M M 0 0 a (λc b=>by rw[h c b];rfl) λ_ _ _ _ _=>⟨rfl,rfl⟩
 lia
def Alt.IU{n i:Nat}{φ:Fn->Int}(A:Alt n φ)(b:i<n)(M:Fn)(t:Int)(x:Nat->Int):φ (upd M i λc=>t*x c)=t*φ (upd M i x):=by
 let:=A.sA i (upd M i λc=>t*x c) (upd M i x) (upd M i x) t 0 b (λc d=>by rw[cZ,cZ];lia) λr c _ _ a=>by rw[aF a,aF a];show⟨rfl,rfl⟩
 lia
def Alt.JQ{n i:Nat}{φ:Fn->Int}(A:Alt n φ)(b:i<n)(M:Fn)(x y:Nat->Int):φ (upd M i λc=>x c+y c)=φ (upd M i x)+φ (upd M i y):=by
 let:=A.sA i (upd M i λc=>x c+y c) (upd M i x) (upd M i y) 1 1 b (λc d=>by rw[cZ,cZ,cZ];lia) λr c _ _ a=>by rw[aF a,aF a,aF a];show⟨rfl,rfl⟩
 lia
def Alt.yq{n i:Nat}{φ:Fn->Int}(A:Alt n φ)(b:i<n)(M:Fn)(a:Nat->Int)(x:Nat->Nat->Int):∀m,φ (upd M i λc=>S m λj=>a j*x j c)=S m λj=>a j*φ (upd M i (x j))
 |0=>A.RW b λc _=>by rw[cZ];rfl
 |m+1=>by
  let:(λc=>S (m+1) λj=>a j*x j c)=λc=>(S m λj=>a j*x j c)+a m*x m c:=rfl;rw[this,A.JQ b,A.yq b M a x m,A.IU b];rfl
def un(j c:Nat):Nat:=if c<j then c else c-1
def grow(j:Nat)(B:Fn):Fn:=λr c=>if r=0 then dl j c else if c=j then 0 else B (r-1) (un j c)
def zm{n j c:Nat}(a:j<n+1)(b:c<n+1)(h:c≠j):un j c<n:=by unfold un;split<;>lia
def GZ{j c:Nat}(h:c≠j):sk j (un j c)=c:=by unfold sk un;grind
def Alt.grow{n j:Nat}{φ:Fn->Int}(A:Alt (n+1) φ)(f:j<n+1):Alt n λB=>φ (Mx.grow j B) where
 cg:=λM s h=>A.cg _ _ λr c g d=>by
  let:=h (r-1) (un j c);let:=zm (c:=c) f d;unfold Mx.grow;grind
 sA:=λi M P Q a b o p h=>A.sA (i+1) _ _ _ a b () (λc d=>by
  let:=p (un j c);let:=zm (c:=c) f d;let e:i+1-1=i:=()
  unfold Mx.grow;rw[e];grind) λr c g d l=>by
  let:=h (r-1) (un j c);let:=zm (c:=c) f d;unfold Mx.grow;grind
 alt:=λi k M o hk m h=>A.alt (i+1) (k+1) _ () () () λc d=>by
  let:=h (un j c);let:=zm (c:=c) f d;let e:i+1-1=i:=()
  let q:k+1-1=k:=()
  unfold Mx.grow;rw[e,q];grind
def Alt.units{φ:Fn->Int}(A:Alt (n+1) φ):∀j,j<n+1->φ (Mx.grow j dl)=sg j*φ dl
 |0,_=>by
  rw[Ac,ZD];show A.cg _ _ λr c b e=>?_;unfold Mx.grow un dl;grind
 |j+1,d=>by
  let a:=A.units j ();let s:=A.swap (i:=0) (j:=j+1) () d () (Mx.grow j dl);rw[zB,Zq,<-a,<-s];show A.cg _ _ λr c b e=>?_;unfold Mx.grow un dl sw;grind
def Alt.Wv{n i k:Nat}{φ:Fn->Int}(A:Alt n φ)(b:i<n)(hk:k<n)(a:i≠k)(M:Fn)(x:Nat->Int)(t:Int):φ (upd M i λc=>x c+t*M k c)=φ (upd M i x):=by
 rw[A.JQ b,A.IU b M t (M k),A.alt i k (upd M i (M k)) b hk a λc _=>by rw[cZ,aF (XI a)],Yv,YH]
def zr(j m:Nat)(M:Fn):Fn:=λr c=>if r=0 then dl j c else if r<=m/\c=j then 0 else M r c
def Alt.zr{n j:Nat}{φ:Fn->Int}(A:Alt (n+1) φ)(M:Fn):∀m,m<=n->φ (Mx.zr j m M)=φ (upd M 0 (dl j))
 |0,_=>A.cg _ _ λr c b d=>by unfold Mx.zr upd;grind
 |m+1,l=>by
  rw[<-A.zr M m ()];let e:=A.Wv (i:=m+1) (k:=0) () () () (Mx.zr j m M) (M (m+1)) (-M (m+1) j)
  let h:φ (Mx.zr j (m+1) M)=φ (upd (Mx.zr j m M) (m+1) λc=>M (m+1) c+ -M (m+1) j*Mx.zr j m M 0 c):=A.cg _ _ λr c b d=>by
   unfold upd Mx.zr dl;by_cases f:r=m+1
   . subst f;by_cases a:c=j
     . subst a;simp;lia
     have:¬j=c:=λz=>a z.symm;simp[a,this]
   rw[Xx f];grind
  let g:φ (upd (Mx.zr j m M) (m+1) (M (m+1)))=φ (Mx.zr j m M):=A.cg _ _ λr c b d=>by
   unfold upd Mx.zr;grind
  rw[h,e,g]
def GP:∀ {n:Nat} {φ:Fn->Int},Alt n φ->∀M,φ M=φ dl*D n M
 |0,φ,A,M=>by rw[Lb,Int.mul_one];show A.cg _ _ λr c e=>by lia
 |n+1,φ,A,M=>by
  let l:φ M=S (n+1) λj=>M 0 j*φ (upd M 0 (dl j)):=by
   rw[<-A.yq () M (M 0) dl (n+1)];show A.cg _ _ λr c e f=>?_;by_cases a:r=0
   . subst a;rw[cZ,sh f]
   rw[aF a]
  let k:∀j,j<n+1->φ (upd M 0 (dl j))=φ (Mx.grow j λr c=>M (r+1) (sk j c)):=λj d=>by
   rw[<-A.zr M n (Xv _)];show A.cg _ _ λr c e f=>?_;unfold Mx.grow Mx.zr;by_cases a:r=0
   . rw[XB a,XB a]
   rw[Xx a,Xx a];by_cases b:c=j
   . rw[XB ⟨by lia,b⟩,XB b]
   rw[Xx (),Xx b];dsimp only;rw[GZ b,show r-1+1=r by lia]
  rw[l,eO,<-fL];show aG λj d=>?_;let b:=GP (A.grow d) λr c=>M (r+1) (sk j c);let h:=A.units j d;let g:φ (Mx.grow j λr c=>M (r+1) (sk j c))=φ (Mx.grow j dl)*D n λr c=>M (r+1) (sk j c):=b;rw[k j d,g,h];grind
def zV:∀n,D n dl=1
 |0=>rfl
 |n+1=>by
  rw[eO,qP (k:=0) () λj b a=>by rw[gv (XI a),Yv,Zt]]
  let:D n (λr c=>dl (r+1) (sk 0 c))=D n dl:=ef λr c _ _=>by
   unfold dl sk;grind
  rw[this,zV n,fS];rfl
def Oc(n:Nat)(A B:Fn):D n (λr c=>S n λk=>A r k*B k c)=D n A*D n B:=by
 let q:Alt n λA=>D n (λr c=>S n λk=>A r k*B k c):=by
  show⟨λM s h=>ef λr c d g=>aG λk hk=>by rw[h r k d hk],λi M P Q a b m p h=>(vJ n).sA i _ _ _ a b m (λc g=>?_) λr c d g f=>⟨aG λk hk=>by rw[(h r k d hk f).1],aG λk hk=>by rw[(h r k d hk f).2]⟩,λi j M m o l h=>(vJ n).alt i j _ m o l λc g=>aG λk hk=>by rw[h k hk]⟩;change(S n λk=>M i k*B k c)=a*(S n λk=>P i k*B k c)+b*S n λk=>Q i k*B k c;rw[<-fL,<-fL,<-kc];show aG λk hk=>?_;rw[p k hk];grind
 let h:=GP q A;let e:D n (λr c=>S n λk=>dl r k*B k c)=D n B:=ef λr c d g=>qf d λk=>B k c;rw[h,e,Zd]
def Jx:∀ {n:Nat} {M P Q:Fn} {a b:Int} {i:Nat},i<n->(∀r,r<n->M r i=a*P r i+b*Q r i)->(∀r c,r<n->c<n->c≠i->M r c=P r c/\M r c=Q r c)->D n M=a*D n P+b*D n Q
 |0,_,_,_,_,_,_,h,_,_=>by lia
 |n+1,M,P,Q,a,b,i,t,q,h=>by
  rw[eO,eO,eO,<-fL,<-fL,<-kc];show aG λj o=>?_;by_cases d:j=i
  . subst d;let g:∀c,sk j c≠j:=λc=>by unfold sk;split<;>lia
    let v:D n (λr c=>M (r+1) (sk j c))=D n (λr c=>P (r+1) (sk j c)):=ef λr c k f=>(h (r+1) (sk j c) () (ny f) (g c)).1;let u:D n (λr c=>M (r+1) (sk j c))=D n (λr c=>Q (r+1) (sk j c)):=ef λr c k f=>(h (r+1) (sk j c) () (ny f) (g c)).2;rw[q 0 (),<-v,<-u];grind
  have p:=h 0 j () o d;let s:sk j (un j i)=i:=GZ (XI d);let g:∀c,c≠un j i->sk j c≠i:=λc f=>by unfold sk;unfold un at f;grind
  let m:un j i<n:=zm o t (XI d)
  let e:=Jx (n:=n) (M:=λr c=>M (r+1) (sk j c)) (P:=λr c=>P (r+1) (sk j c)) (Q:=λr c=>Q (r+1) (sk j c)) (a:=a) (b:=b) (i:=un j i) m (λr k=>by
   rw[s];show q (r+1) ()) λr c k f l=>h (r+1) (sk j c) () (ny f) (g c l)
  rw[e,<-p.1,<-p.2];grind
def JN:∀ {n:Nat} {M:Fn} {i:Nat},i+1<n->(∀r,r<n->M r i=M r (i+1))->D n M=0
 |0,_,_,h,_=>by lia
 |n+1,M,i,v,h=>by
  rw[eO]
  let key:∀j,j<n+1->j≠i->j≠i+1->D n (λr c=>M (r+1) (sk j c))=0:=λj d b g=>by
   show JN (i:=un j i) (by unfold un;split<;>lia) λr u=>?_;let x:sk j (un j i)=i:=GZ (XI b);let w:sk j (un j i+1)=i+1:=by unfold sk un;grind
   rw[x,w];show h (r+1) ()
  let e:D n (λr c=>M (r+1) (sk i c))=D n (λr c=>M (r+1) (sk (i+1) c)):=ef λr c u A=>by
   by_cases q:c=i
   . subst q;let s:sk c c=c+1:=by unfold sk;rw[Xx ()]
     let y:sk (c+1) c=c:=by unfold sk;rw[XB ()]
     rw[s,y];show(h (r+1) ()).symm
   have s:sk i c=sk (i+1) c:=by unfold sk;grind
   rw[s]
  let l:∀(m:Nat) (f:Nat->Int),i+1<m->(∀j,j<m->j≠i->j≠i+1->f j=0)->S m f=f i+f (i+1):=λm=>by
   induction m with
   |zero=>intro f h;lia
   |succ m t=>
    intro f z p;change S m f+f m=_;by_cases a:m=i+1
    . subst a;rw[qP (k:=i) () λj d o=>p j () o ()]
    rw[t f () λj d b g=>p j () b g,p m () () a,YH]
  rw[l (n+1) _ v λj d b g=>by rw[key j d b g,Yv],e,zB,h 0 ()];grind
def tr(M:Fn):Fn:=λr c=>M c r
def DZ(n:Nat)(M:Fn):D n (tr M)=D n M:=by
 let o:Alt n λA=>D n (tr A):=zw (λM p h=>ef λr c d k=>h c r k d)
  (λi M P Q a b g m h=>Jx g (λr d=>m r d) λr c d k f=>h c r k d f)
  λi M g h=>JN g λr d=>h r d
 let h:=GP o M;let e:D n (tr dl)=D n dl:=ef λr c _ _=>zJ c r;let l:D n (tr M)=D n (tr dl)*D n M:=h;rw[l,e,zV,ZD]
def Pr:Nat->(Nat->Int)->Int
 |0,_=>1
 |n+1,f=>Pr n f*f n
def GF:∀(n:Nat) (f:Nat->Int),Pr (n+1) f=f 0*Pr n λi=>f (i+1)
 |0,f=>by change 1*f 0=f 0*1;lia
 |n+1,f=>by
  let:Pr (n+1+1) f=Pr (n+1) f*f (n+1):=rfl;rw[this,GF n f];let:Pr (n+1) (λi=>f (i+1))=Pr n (λi=>f (i+1))*f (n+1):=rfl;rw[this,Y2]
def NM:∀ {n:Nat} {M:Fn},(∀r c,r<n->c<n->r<c->M r c=0)->D n M=Pr n λi=>M i i
 |0,_,_=>rfl
 |n+1,M,h=>by
  rw[eO,qP (k:=0) () λj b g=>by rw[h 0 j () b (),Yv,Zt],GF,Ac,ZD];let s:∀c,sk 0 c=c+1:=λc=>by unfold sk;rw[Xx ()]
  let e:D n (λr c=>M (r+1) (sk 0 c))=Pr n λi=>M (i+1) (i+1):=by
   rw[NM λr c d f a=>by rw[s];show h (r+1) (c+1) () () ()];simp![s]
  rw[e]
def V3(h:∀r c,r<n->c<n->c<r->M r c=0):D n M=Pr n λi=>M i i:=by
 rw[<-DZ n M,NM (M:=tr M) λr c b d a=>h c r d b a];rfl
def C7:∀ {n:Nat} {M:Fn},(∀c,c<n+1->M n c=dl n c)->D (n+1) M=D n M
 |0,M,h=>by
  rw[eO];change 0+sg 0*M 0 0*D 0 _=1;rw[h 0 (),fS,Ac,Lb];lia
 |n+1,M,h=>by
  let f:∀j,j<n+1->D (n+1) (λr c=>M (r+1) (sk j c))=D n (λr c=>M (r+1) (sk j c)):=λj a=>C7 λc b=>by
   rw[h (sk j c) (ny b)];unfold dl sk;grind
  let e:D (n+1) (λr c=>M (r+1) (sk (n+1) c))=0:=(vJ (n+1)).RW (i:=n) () λc b=>by
   let s:sk (n+1) c=c:=by unfold sk;rw[XB ()]
   rw[s,h c (),gv ()]
  let d:D (n+1+1) M=(S (n+1) λj=>sg j*M 0 j*D (n+1) λr c=>M (r+1) (sk j c))+sg (n+1)*M 0 (n+1)*D (n+1) (λr c=>M (r+1) (sk (n+1) c)):=eO (n+1) M;rw[d,e,Yv,YH,eO];show aG λj a=>by rw[f j a]
def gx(R:Fn)(p:Nat)(x:Nat->Int)(j:Nat):Int:=D (p+1) λr c=>if r<p then R r (if c<p then c else j)else x (if c<p then c else j)
def Sh{p j:Nat}{x:Nat->Int}(h:j<p):gx R p x j=0:=by
 unfold gx;rw[<-DZ];show(vJ (p+1)).alt j p _ () () () λc a=>?_;unfold tr;dsimp only;rw[XB h,Xx (YM p)]
def bt(R:Fn)(p:Nat)(x:Nat->Int)(k:Nat):Int:=D (p+1) (upd (λc r=>if r<p then R r c else x c) p (dl k))
def Uy(R:Fn)(p:Nat)(x:Nat->Int)(j:Nat):gx R p x j=D p R*x j+S p λk=>bt R p x k*R k j:=by
 let f:gx R p x j=D (p+1) (upd (λc r=>if r<p then R r c else x c) p λr=>S (p+1) λk=>(if k<p then R k j else x j)*dl k r):=by
  unfold gx;rw[<-DZ];show ef λc r b a=>?_;unfold tr upd;by_cases h:c=p
  . subst h;rw[XB rfl];dsimp only;rw[sh a,Xx (YM _)]
  rw[Xx h];dsimp only;rw[XB (show c<p by lia)]
 rw[f,(vJ (p+1)).yq ()]
 let e:D (p+1) (upd (λc r=>if r<p then R r c else x c) p (dl p))=D p R:=by
  rw[C7 λc _=>cZ _ _ _ _];rw[<-DZ];show ef λr c a b=>?_;unfold tr;rw[aF (),XB ()]
 let d:(S (p+1) λk=>(if k<p then R k j else x j)*D (p+1) (upd (λc r=>if r<p then R r c else x c) p (dl k)))=(S p λk=>(if k<p then R k j else x j)*D (p+1) (upd (λc r=>if r<p then R r c else x c) p (dl k)))+(if p<p then R p j else x j)*D (p+1) (upd (λc r=>if r<p then R r c else x c) p (dl p)):=rfl;rw[d,e,Xx (YM p),Int.add_comm,Zd];congr 1;show aG λk hk=>?_;rw[XB hk,Zd];rfl
def cl(p b a c:Nat):Nat:=if c<p then c else if c=p then b else a
def HR{f:Nat->Int}(h:∀i,i<n->(f i).natAbs<=m):(S n f).natAbs<=n*m:=by
 induction n with
 |zero=>simp[S]
 |succ n a=>
  have d:=a λi b=>h i ();let c:=h n ();change(S n f+f n).natAbs<=_;rw[Y7];lia
def mv(k a r:Nat):Nat:=if r<k then r else if r=k then k+a else if r<=k+a then r-1 else r
def lam(G:Fn)(i j:Nat):Int:=gx G j (G i) j
def V9(A:Rows):Fn:=λi j=>aP (A.getD i []) (A.getD j [])
def Ul(G:Fn)(i:Nat):Row:=(List.range (i+1)).map λj=>lam G i j
def TB(G:Fn)(n:Nat):Rows:=(List.range n).map (Ul G)
def RA(A:Rows)(N:Nat):Fn:=λi j=>if j<N then V9 A i j else(A.getD i []).getD (j-N) 0
def ev(A:Rows)(N i k c:Nat):Int:=gx (RA A N) k (RA A N i) (N+c)
def HD(n:Nat)(a b:Int)(f g:Nat->Int):S n (λc=>a*f c-b*g c)=a*S n f-b*S n g:=by
 induction n with
 |zero=>change(0:Int)=a*0-b*0;lia
 |succ n d=>
  change S n (λc=>a*f c-b*g c)+(a*f n-b*g n)=a*(S n f+f n)-b*(S n g+g n);rw[d,Int.mul_add,Int.mul_add];lia
def Xj(M:Fn)(k j:Nat)(q:Int):Fn:=λa b=>if a=k then M a b-q*M j b else M a b
def Xd(M:Fn)(k j:Nat)(q:Int):Fn:=λa b=>if b=k then M a b-q*M a j else M a b
def tk(G:Fn)(k j:Nat)(q:Int):Fn:=Xd (Xj G k j q) k j q
section
variable {G:Fn}{t:Nat}(sym:∀i j,G i j=G j i)
include sym
end
section
variable {A:Rows}{N w:Nat}
def dQ(a:dy N w A){i:Nat}(b:i<N):(A.getD i []).length=w:=a.jN _ (by let:=a.len;rw[aJ ()];show Yd _)
end
def cj(A:Rows)(k:Nat)(q:Int)(j:Nat):Rows:=A.set k (bg (A.getD k []) (-q) (A.getD j []))
def cB(A:Rows)(k o:Nat):Rows:=(A.set k (A.getD o [])).set o (A.getD k [])
def ot{A:Rows}{k i:Nat}{r:Row}(hk:k<A.length):(A.set k r).getD i []=if i=k then r else A.getD i []:=by
 rw[XD,abf];by_cases h:k=i
 . rw[XB h,XB (),XB h.symm];rfl
 rw[Xx h,Xx (XI h),XD]
def Km{A:Rows}{k j:Nat}:(cj A k q j).length=A.length:=by unfold cj;rw[XH]
def xO{N w k j:Nat}(a:dy N w A)(hk:k<N)(c:j<N):dy N w (cj A k q j):=by
 show⟨Km.trans a.len,λr b=>?_⟩;unfold cj at b;rcases Yo b with h|rfl
 . show a.jN r h
 rw[fR (by rw[dQ a hk,dQ a c]),dQ a hk]
structure Tn(A0 A U C:Rows)(N w:Nat):Prop where
 isA:dy N w A
 fB:dy N N U
 ig:dy N N C
 ua:∀i c,i<N->c<w->g A i c=S N λk=>g U i k*g A0 k c
 ub:∀i j,i<N->j<N->S N (λk=>g U i k*g C j k)=dl i j
 bu:∀i j,i<N->j<N->S N (λk=>g C k i*g U k j)=dl i j
def eQ{N w k j:Nat}(a:dy N w A)(hk:k<N)(b:j<N)(i c:Nat):g (cj A k q j) i c=if i=k then g A k c-q*g A j c else g A i c:=by
 unfold g cj;let d:=a.len;rw[ot ()];by_cases h:i=k
 . rw[XB h,XB h,i_ (by rw[dQ a hk,dQ a b]),Zq];lia
 rw[Xx h,Xx h]
def yE(n:Nat)(a b:Int)(f h:Nat->Int):S n (λc=>a*f c+b*h c)=a*S n f+b*S n h:=by
 rw[kc,fL,fL]
def Tn.take{N w k j:Nat}(T:Tn n A U C N w)(hk:k<N)(a:j<N)(p:j≠k):Tn n (cj A k q j) (cj U k q j) (cj C j (-q) k) N w where
 isA:=xO T.isA hk a
 fB:=xO T.fB hk a
 ig:=xO T.ig a hk
 ua:=λi c f t=>by
  rw[eQ T.isA hk a];let e:S N (λm=>g (cj U k q j) i m*g n m c)=S N λm=>(if i=k then g U k m-q*g U j m else g U i m)*g n m c:=aG λm _=>by rw[eQ T.fB hk a]
  rw[e];by_cases h:i=k
  . simp![XB h];rw[T.ua k c hk t,T.ua j c a t];let d:S N (λm=>(g U k m-q*g U j m)*g n m c)=S N λm=>1*(g U k m*g n m c)-q*(g U j m*g n m c):=aG λm _=>by grind
    rw[d,HD];lia
  simp![Xx h];show T.ua i c f t
 ub:=λi l f o=>by
  let e:S N (λm=>g (cj U k q j) i m*g (cj C j (-q) k) l m)=S N λm=>(if i=k then g U k m-q*g U j m else g U i m)*(if l=j then g C j m- -q*g C k m else g C l m):=aG λm _=>by rw[eQ T.fB hk a,eQ T.ig a hk]
  rw[e];let r:dl j k=0:=gv p;by_cases h:i=k
  . by_cases b:l=j
    . simp![XB h,XB b];let d:S N (λm=>(g U k m-q*g U j m)*(g C j m- -q*g C k m))=S N λm=>1*(1*(g U k m*g C j m)+q*(g U k m*g C k m))-q*(1*(g U j m*g C j m)+q*(g U j m*g C k m)):=aG λm _=>by grind
      rw[d,HD,yE,yE,T.ub k j hk a,T.ub k k hk hk,T.ub j j a a,T.ub j k a hk,h,b,fS,fS,r,zJ k j,r];lia
    simp![XB h,Xx b];let d:S N (λm=>(g U k m-q*g U j m)*g C l m)=S N λm=>1*(g U k m*g C l m)-q*(g U j m*g C l m):=aG λm _=>by grind
    rw[d,HD,T.ub k l hk o,T.ub j l a o,h,gv (XI b)];lia
  by_cases b:l=j
  . simp![Xx h,XB b];let d:S N (λm=>g U i m*(g C j m- -q*g C k m))=S N λm=>1*(g U i m*g C j m)+q*(g U i m*g C k m):=aG λm _=>by grind
    rw[d,yE,T.ub i j f a,T.ub i k f hk,b,gv h];lia
  simp![Xx h,Xx b];show T.ub i l f o
 bu:=λi l f o=>by
  let e:S N (λm=>g (cj C j (-q) k) m i*g (cj U k q j) m l)=S N λm=>g C m i*g U m l+((q*(g C k i*g U j l))*dl m j+(-(q*(g C k i*g U j l)))*dl m k):=aG λm _=>by
   rw[eQ T.fB hk a,eQ T.ig a hk];by_cases s:m=j
   . have b:m≠k:=()
     rw[XB s,Xx b,s,fS,gv p];grind
   rw[Xx s,gv s];by_cases b:m=k
   . rw[XB b,b,fS];grind
   rw[Xx b,gv b];grind
  rw[e,kc,yE,T.bu i l f o]
  let u:S N (λc=>dl c j)=1:=by
   rw[qP a λi _ h=>gv h,fS]
  let d:S N (λc=>dl c k)=1:=by
   rw[qP hk λi _ h=>gv h,fS]
  rw[u,d];lia
def CM{A:Rows}{k o i:Nat}(hk:k<A.length)(c:o<A.length):(cB A k o).getD i []=A.getD (sw k o i) []:=by
 unfold cB;rw[ot (by rw[XH];show c),ot hk];unfold sw;by_cases b:i=k
 . rw[XB b,XB b];by_cases a:i=o
   . rw[XB a,<-b,<-a]
   rw[Xx a]
 rw[Xx b,Xx b];by_cases a:i=o
 . rw[XB a,XB a]
 rw[Xx a,Xx a]
def x9{N w k o:Nat}(a:dy N w A)(hk:k<N)(c:o<N):dy N w (cB A k o):=by
 show⟨by unfold cB;rw[XH,XH];show a.len,λr b=>?_⟩;unfold cB at b;rcases Yo b with h|rfl
 . rcases Yo h with h|rfl
   . show a.jN r h
   show dQ a c
 show dQ a hk
def mQ{N w k o:Nat}(a:dy N w A)(hk:k<N)(b:o<N)(i c:Nat):g (cB A k o) i c=g A (sw k o i) c:=by
 unfold g;rw[CM (by let:=a.len;lia) (by let:=a.len;lia)]
def uZ{k o N i:Nat}(hk:k<N)(a:o<N)(b:i<N):sw k o i<N:=by unfold sw;split<;>(try split)<;>assumption
def J9(k o x:Nat):sw k o (sw k o x)=x:=by
 unfold sw;by_cases b:x=k
 . subst b;rw[XB rfl];by_cases a:o=x
   . rw[XB a];show a
   rw[Xx a,XB rfl]
 rw[Xx b];by_cases a:x=o
 . subst a;rw[XB rfl,XB rfl]
 rw[Xx a,Xx b,Xx a]
def UO{k o a b:Nat}:dl (sw k o a) (sw k o b)=dl a b:=by
 by_cases h:a=b
 . rw[h,fS,fS]
 rw[gv h,gv λz=>h (by rw[<-J9 k o a,<-J9 k o b,z])]
def Qb(k x:Nat):sw k k x=x:=by
 unfold sw;by_cases h:x=k
 . rw[XB h,h]
 rw[Xx h,Xx h]
def Vk{n i j:Nat}(b:i<n)(a:j<n)(f:Nat->Int):S n (λk=>f (sw i j k))=S n f:=by
 by_cases h:i=j
 . subst h;show aG λk _=>by rw[Qb]
 show Wn b a h f
def Tn.Of{e A U C:Rows}{N w k o:Nat}(T:Tn e A U C N w)(hk:k<N)(a:o<N):Tn e (cB A k o) (cB U k o) (cB C k o) N w where
 isA:=x9 T.isA hk a
 fB:=x9 T.fB hk a
 ig:=x9 T.ig hk a
 ua:=λi c b f=>by
  rw[mQ T.isA hk a,T.ua _ c (uZ hk a b) f];show aG λm _=>by rw[mQ T.fB hk a]
 ub:=λi j b d=>by
  rw[<-UO (k:=k) (o:=o),<-T.ub _ _ (uZ hk a b) (uZ hk a d)];show aG λm _=>by rw[mQ T.fB hk a,mQ T.ig hk a]
 bu:=λi j b d=>by
  rw[<-T.bu i j b d,<-Vk hk a λm=>g C m i*g U m j];show aG λm _=>by rw[mQ T.fB hk a,mQ T.ig hk a]
def jg(A:Rows)(k:Nat):Rows:=A.set k ((A.getD k []).map λx=> -x)
def Er{N w k:Nat}(a:dy N w A)(hk:k<N):dy N w (jg A k):=by
 show⟨by unfold jg;rw[XH];show a.len,λr b=>?_⟩;unfold jg at b;rcases Yo b with h|rfl
 . show a.jN r h
 rw[Xr];show dQ a hk
def LP(r:Row)(c:Nat):(r.map λx=> -x).getD c 0= -r.getD c 0:=by
 rw[XD,XD,XJ];cases r[c]?<;>rfl
def nB{N w k:Nat}(a:dy N w A)(hk:k<N)(i c:Nat):g (jg A k) i c=if i=k then-g A k c else g A i c:=by
 unfold g jg;rw[ot (by let:=a.len;lia)];by_cases h:i=k
 . rw[XB h,XB h,LP]
 rw[Xx h,Xx h]
def Tn.neg{N w k:Nat}(T:Tn n A U C N w)(hk:k<N):Tn n (jg A k) (jg U k) (jg C k) N w where
 isA:=Er T.isA hk
 fB:=Er T.fB hk
 ig:=Er T.ig hk
 ua:=λi c a l=>by
  rw[nB T.isA hk];by_cases h:i=k
  . rw[XB h,T.ua k c hk l,<-zi];show aG λm _=>by rw[nB T.fB hk,XB h,Zq]
  rw[Xx h,T.ua i c a l];show aG λm _=>by rw[nB T.fB hk,Xx h]
 ub:=λi j a f=>by
  let e:S N (λm=>g (jg U k) i m*g (jg C k) j m)=S N λm=>(if i=k then-1 else 1)*(if j=k then-1 else 1)*(g U i m*g C j m):=aG λm _=>by
   rw[nB T.fB hk,nB T.ig hk];by_cases d:i=k<;>by_cases b:j=k<;>simp![d,b,aar,Z9]<;>grind
  rw[e,fL,T.ub i j a f];by_cases d:i=k
  . by_cases b:j=k
    . simp[d,b]
    rw[gv ()];simp
  by_cases b:j=k
  . rw[gv ()];simp
  simp[d,b]
 bu:=λi j a f=>by
  rw[<-T.bu i j a f]
  show aG λm _=>by
   rw[nB T.fB hk,nB T.ig hk];by_cases h:m=k
   . subst h;rw[XB rfl,XB rfl];grind
   rw[Xx h,Xx h]
structure ng(A:Rows)(N top p:Nat)(L:List Nat):Prop where
 mem:∀k,k∈L↔top<=k/\k<N/\g A k p≠0
 ord:L.Pairwise λi j=>(g A i p).natAbs<=(g A j p).natAbs
 nd:L.Nodup
structure B3 where
 A:Rows
 U:Rows
 C:Rows
def qn(x y:Int):Int:=(2*x+y).fdiv (2*y)
def nA(b:B3)(p k j:Nat):B3:=⟨cj b.A k (qn (g b.A k p) (g b.A j p)) j,cj b.U k (qn (g b.A k p) (g b.A j p)) j,cj b.C j (-(qn (g b.A k p) (g b.A j p))) k⟩
def Ol(N top p:Nat)(b c:B3):Prop:=∃(L:List Nat) (k j:Nat),ng b.A N top p (L++[j,k])/\c=nA b p k j
inductive i9(N top p:Nat):B3->B3->Prop
 |refl (b:B3):i9 N top p b b
 |head {b c d:B3} (h:Ol N top p b c) (t:i9 N top p c d):i9 N top p b d
def i9.tail{N top p:Nat}(h:i9 N top p b c)(t:Ol N top p c d):i9 N top p b d:=by
 induction h with
 |refl b=>show .head t (.refl _)
 |head x _ a=>show .head x (a t)
def gS(X:Rows)(N top m:Nat):Prop:=∀i c,top<=i->i<N->(g X i c).natAbs<=m
def PR(f:Nat->Nat):Nat->Nat
 |0=>1
 |n+1=>PR f n*f n
def Lf{f:Nat->Nat}(h:∀i,1<=f i):∀n,1<=PR f n
 |0=>Xv _
 |n+1=>Yj (Lf h n) (h n)
def CQ{f f':Nat->Nat}:∀ {n:Nat},(∀i,i<n->f i=f' i)->PR f n=PR f' n
 |0,_=>rfl
 |n+1,h=>by
  change PR f n*f n=PR f' n*f' n;rw[CQ λi a=>h i (Yk a),h n (Yp n)]
def J6{f f':Nat->Nat}{k:Nat}:∀ {n:Nat},k<n->(∀i,i≠k->f i=f' i)->PR f n*f' k=PR f' n*f k
 |0,hk,_=>absurd hk (XZ _)
 |n+1,hk,h=>by
  change PR f n*f n*f' k=PR f' n*f' n*f k;by_cases e:k=n
  . subst e;rw[CQ (n:=k) λi a=>h i (X_ a),aae,Y1 (f k),aae]
  have:=J6 (n:=n) () h;rw[h n (XI e),Nat.mul_right_comm,this,Nat.mul_right_comm]
def N0{f:Nat->Nat}{m top:Nat}(g:1<=m):∀ {n:Nat},(∀i,i<n->i<top->f i<=1)->(∀i,i<n->f i<=m)->PR f n<=m^(n-top)
 |0,_,_=>by simp[PR]
 |n+1,d,c=>by
  let b:=N0 g (n:=n) (λi a=>d i (Yk a)) λi a=>c i (Yk a);change PR f n*f n<=_;by_cases e:n<top
  . have z:n+1-top=n-top:=()
    rw[z];show Xy (Yj b (d n (Yp n) e)) (by rw[ZE];show Xv _)
  have z:n+1-top=(n-top)+1:=()
  rw[z,YI];show Yj b (c n (Yp n))
def wt(A:Rows)(top p i:Nat):Nat:=if top<=i/\g A i p≠0 then 2*(g A i p).natAbs else 1
def J4(A:Rows)(top p i:Nat):1<=wt A top p i:=by
 unfold wt;split<;>lia
def FQ{x y:Int}(a:y≠0):2*(x-qn x y*y).natAbs<=y.natAbs:=by
 unfold qn;let f:=aaJ (2*x+y) (2*y);let b:(2*x+y).fmod (2*y)=2*x+y-2*y*(2*x+y).fdiv (2*y):=()
 generalize(2*x+y).fdiv (2*y)=q at*;let e:2*(x-q*y)=(2*x+y).fmod (2*y)-y:=by rw[b];grind
 rcases Int.lt_or_gt_of_ne a with h|h
 . have g:=Int.neg_fmod_neg (2*x+y) (2*y);let d:=YA (-(2*x+y)) (show 0< -(2*y) by lia);let c:=YL (-(2*x+y)) (show 0< -(2*y) by lia);lia
 have d:=YA (2*x+y) (show 0<2*y by lia);let c:=YL (2*x+y) (show 0<2*y by lia);lia
def Po{x y:Int}(n:y≠0)(b:y.natAbs<=x.natAbs):(1+(qn x y).natAbs)*(if x-qn x y*y≠0 then 2*(x-qn x y*y).natAbs else 1)<=2*x.natAbs:=by
 let l:=FQ (x:=x) n;generalize qn x y=q at*;generalize t:x-q*y=r at*;let d:x=q*y+r:=()
 let k:(q*y).natAbs=q.natAbs*y.natAbs:=Yt ..;by_cases g:r=0
 . rw[Xx (λz=>z g),ZE];subst g;let c:x.natAbs=q.natAbs*y.natAbs:=by rw[<-k,d];simp
   let a:1<=y.natAbs:=()
   let p:1<=q.natAbs:=by
    rcases Nat.eq_zero_or_pos q.natAbs with z|z
    . rw[z,abv]at c;lia
    show z
   let:q.natAbs<=q.natAbs*y.natAbs:=aaw _ a;lia
 rw[XB g];let o:1<=r.natAbs:=()
 let key:(1+q.natAbs)*r.natAbs<=x.natAbs:=by
  rcases ZK q.natAbs 2 with e|f
  . rcases ZK q.natAbs 1 with h|h
    . have m:q=0:=Int.natAbs_eq_zero.mp (Nat.le_zero.mp (abg h));subst m;simp at d;subst d;simp
    have z:q.natAbs=1:=abF (abg e) h;rw[z];show Xy l b
  have s:(q*y).natAbs<=x.natAbs+r.natAbs:=()
  rw[k]at s;let w:q.natAbs*(2*r.natAbs)<=q.natAbs*y.natAbs:=ZP _ l;let v:2*r.natAbs<=q.natAbs*r.natAbs:=YV _ f;let u:q.natAbs*(2*r.natAbs)=q.natAbs*r.natAbs+q.natAbs*r.natAbs:=by rw[abh];lia
  rw[aag,ZF];lia
 let:(1+q.natAbs)*(2*r.natAbs)=2*((1+q.natAbs)*r.natAbs):=by rw[abh]
 lia
structure sq(A0:Rows)(N w top p m:Nat)(b0 b:B3)(gr:Nat):Prop where
 tn:Tn A0 b.A b.U b.C N w
 up:∀i,i<top->b.A.getD i []=b0.A.getD i []/\b.U.getD i []=b0.U.getD i []/\b.C.getD i []=b0.C.getD i []
 lA:gS b.A N top (m*gr)
 lU:gS b.U N top (m*gr)
 lC:gS b.C N top (m*gr)
 zs:∀i c,top<=i->i<N->c<p->g b.A i c=0
 Vx:gr*PR (wt b.A top p) N<=PR (wt b0.A top p) N
 pos:1<=gr
 Uw:b=b0\/∃j,top<=j/\j<N/\g b.A j p≠0
def xr{N w top k j m a:Nat}{q:Int}(o:dy N w X)(hk:k<N)(l:j<N)(d:top<=k)(f:top<=j)(h:gS X N top (m*a)):gS (cj X k q j) N top (m*(a*(1+q.natAbs))):=λi c n p=>by
 rw[eQ o hk l];let e:m*(a*(1+q.natAbs))=m*a+q.natAbs*(m*a):=by rw[<-aae,Nat.mul_add,ZE,Y1 (m*a) q.natAbs]
 rw[e];by_cases b:i=k
 . rw[XB b];let t:=h k c d hk;let s:=h j c f l;let r:(q*g X j c).natAbs<=q.natAbs*(m*a):=by rw[Yt];show ZP _ s
   show Xy (Int.natAbs_sub_le _ _) (abP t r)
 rw[Xx b];show Xy (h i c n p) (aab _ _)
def iC{X:Rows}{k j i:Nat}(hk:k<X.length)(h:i≠k):(cj X k q j).getD i []=X.getD i []:=by
 unfold cj;rw[ot hk,Xx h]
def half_lt(h:2*r<=y)(b:y<=x)(a:0<x):r<x:=()
def sq.step{N w top p m F:Nat}{b0 b:B3}{k j:Nat}(G:sq M N w top p m b0 b F)(W:p<w)(C:ng b.A N top p (L++[j,k])):
 sq M N w top p m b0 (nA b p k j) (F*(1+(qn (g b.A k p) (g b.A j p)).natAbs))/\(g (nA b p k j).A k p).natAbs<(g b.A k p).natAbs/\(∀i,i≠k->g (nA b p k j).A i p=g b.A i p)/\top<=k/\k<N/\top<=j/\j<N/\j≠k/\g b.A j p≠0:=by
 obtain⟨n,a,B⟩:=(C.mem k).mp (by simp);obtain⟨o,d,r⟩:=(C.mem j).mp (by simp);let s:=C.ord;rw[List.pairwise_append]at s;let A:=(aa5.mp s.2.1).1 k (by simp);let y:=C.nd;rw[List.nodup_append]at y;let u:j≠k:=λz=>(YF.mp y.2.1).1 (by rw[z];show YE.mpr rfl)
 let J:g (nA b p k j).A k p=g b.A k p-qn (g b.A k p) (g b.A j p)*g b.A j p:=by
  change g (cj b.A k _ j) k p=_;rw[eQ G.tn.isA a d,XB rfl]
 let I:∀i,i≠k->g (nA b p k j).A i p=g b.A i p:=λi v=>by
  change g (cj b.A k _ j) i p=_;rw[eQ G.tn.isA a d,Xx v]
 let t:=FQ (x:=g b.A k p) r;let l:=Po (x:=g b.A k p) r A;show⟨⟨G.tn.take a d u,λi v=>?_,xr G.tn.isA a d n o G.lA,xr G.tn.fB a d n o G.lU,?_,λi c v S H=>?_,?_,?_,.inr ⟨j,o,d,by rw[I j u];show r⟩⟩,?_,I,n,a,o,d,u,r⟩
 . obtain⟨V,U,T⟩:=G.up i v;show⟨(iC (by rw[G.tn.isA.len];show a) ()).trans V,(iC (by rw[G.tn.fB.len];show a) ()).trans U,(iC (by rw[G.tn.ig.len];show d) ()).trans T⟩
 . have:=xr (q:= -(qn (g b.A k p) (g b.A j p))) G.tn.ig d a o n G.lC;rw[Y4]at this;show this
 . change g (cj b.A k _ j) i c=0;rw[eQ G.tn.isA a d];by_cases h:i=k
   . rw[XB h,G.zs k c n a H,G.zs j c o d H,Yv];rfl
   rw[Xx h];show G.zs i c v S H
 . have e:=J6 (f:=wt (nA b p k j).A top p) (f':=wt b.A top p) (k:=k) a λi v=>by unfold wt;rw[I i v]
   let P:wt b.A top p k=2*(g b.A k p).natAbs:=by unfold wt;rw[XB ⟨n,B⟩]
   let O:(1+(qn (g b.A k p) (g b.A j p)).natAbs)*wt (nA b p k j).A top p k<=wt b.A top p k:=by
    rw[P];unfold wt;rw[J];by_cases E:g b.A k p-qn (g b.A k p) (g b.A j p)*g b.A j p=0
    . rw[Xx (λz=>z.2 E)];rw[Xx (λz=>z E)]at l;show l
    rw[XB ⟨n,E⟩];rw[XB E]at l;show l
   let R:0<wt b.A top p k:=J4 _ _ _ _;show Nat.le_of_mul_le_mul_right (c:=wt b.A top p k) ?_ R
   let Q:F*(1+(qn (g b.A k p) (g b.A j p)).natAbs)*PR (wt (nA b p k j).A top p) N*wt b.A top p k=F*PR (wt b.A top p) N*((1+(qn (g b.A k p) (g b.A j p)).natAbs)*wt (nA b p k j).A top p k):=by
    rw[aae _ (PR _ N),e];simp![aae,abh]
   rw[Q];show Yj G.Vx O
 . show Nat.mul_pos G.pos ()
 rw[J];show half_lt t A (Int.natAbs_pos.mpr B)
def sq.low{N w top p e a:Nat}{b0 b:B3}(G:sq l N w top p (2^e) b0 b a)(g:gS b0.A N top (2^e)):2^e*a<=2^((N-top+1)*(e+1)):=by
 let f:a<=PR (wt b0.A top p) N:=Xy (aaw _ (Lf (J4 _ _ _) N)) G.Vx
 let d:PR (wt b0.A top p) N<=(2^(e+1))^(N-top):=N0 ZV (λi _ m=>by unfold wt;rw[Xx ()];show Xv _) λi c=>by
  unfold wt;split
  . rename_i h;let:=g i p h.1 c;rw[YI];lia
  show ZV
 show Xy (ZP _ (Xy f d)) ?_;rw[<-Nat.pow_mul,<-Za];show XO ⋯ ?_;let k:(N-top+1)*(e+1)=(e+1)*(N-top)+(e+1):=by rw[aag,ZF,Y1]
 rw[k];lia
structure ix(A0:Rows)(N w:Nat)(b:B3)(top p:Nat)(ld:Nat->Nat)(e u:Nat):Prop where
 tn:Tn A0 b.A b.U b.C N w
 le:top<=N
 lo:gS b.A N top (2^e)/\gS b.U N top (2^e)/\gS b.C N top (2^e)
 hi:∀i c,i<top->(g b.A i c).natAbs<=2^u/\(g b.U i c).natAbs<=2^u/\(g b.C i c).natAbs<=2^u
 zs:∀i c,top<=i->i<N->c<p->g b.A i c=0
 lead:∀i,i<top->ld i<p/\0<g b.A i (ld i)/\∀c,c<ld i->g b.A i c=0
 mono:∀i j,i<j->j<top->ld i<ld j
 red:∀i j,i<j->j<top->0<=g b.A i (ld j)/\g b.A i (ld j)<g b.A j (ld j)
def ix.Kx{N w top p e u:Nat}{ld:Nat->Nat}(S:ix a N w b top p ld e u):sq a N w top p (2^e) b b 1:=
 ⟨S.tn,λ_ _=>⟨rfl,rfl,rfl⟩,by rw[ZE];show S.lo.1,by rw[ZE];show S.lo.2.1,by rw[ZE];show S.lo.2.2,S.zs,by rw[ZF];show Xv _,Xv _,.inl rfl⟩
def ix.skip{g:Rows}{N w top p e u:Nat}{b:B3}{ld:Nat->Nat}(S:ix g N w b top p ld e u)(h:ng b.A N top p []):ix g N w b top (p+1) ld e u:=
 ⟨S.tn,S.le,S.lo,S.hi,λi c f d l=>by
  by_cases k:c=p
  . subst k;show Y_ λz=>absurd ((h.mem i).mpr ⟨f,d,z⟩) (by simp)
  show S.zs i c f d (),λi a=>⟨Yk (S.lead i a).1,(S.lead i a).2⟩,S.mono,S.red⟩
def setB(b:B3)(p top r:Nat):B3:=
 if g (cB b.A top r) top p<0 then⟨jg (cB b.A top r) top,jg (cB b.U top r) top,jg (cB b.C top r) top⟩else⟨cB b.A top r,cB b.U top r,cB b.C top r⟩
def xp{N w top r m:Nat}(f:dy N w X)(b:top<N)(d:r<N)(a:top<=r)(h:gS X N top m):gS (cB X top r) N top m:=λi c e g=>by
 rw[mQ f b d];show h _ c ?_ (uZ b d g);unfold sw;split
 . show a
 split
 . show Xv _
 show e
def Ef{N w top m:Nat}(d:dy N w X)(a:top<N)(h:gS X N top m):gS (jg X top) N top m:=λi c b e=>by
 rw[nB d a];split
 . rw[Y4];show h top c (Xv _) a
 show h i c b e
def xn{X:Rows}{N w top r i:Nat}(a:dy N w X)(c:top<N)(d:r<N)(b:top<=r)(e:i<top):(cB X top r).getD i []=X.getD i []:=by
 rw[CM (by let:=a.len;lia) (by let:=a.len;lia)];unfold sw;rw[Xx (),Xx ()]
def Es{X:Rows}{N w top i:Nat}(a:dy N w X)(b:top<N)(c:i<top):(jg X top).getD i []=X.getD i []:=by
 unfold jg;rw[ot (by let:=a.len;lia),Xx ()]
structure mK(A0:Rows)(N w top p m:Nat)(b0 b:B3):Prop where
 tn:Tn A0 b.A b.U b.C N w
 up:∀i,i<top->b.A.getD i []=b0.A.getD i []/\b.U.getD i []=b0.U.getD i []/\b.C.getD i []=b0.C.getD i []
 lo:gS b.A N top m/\gS b.U N top m/\gS b.C N top m
 zs:∀i c,top<=i->i<N->c<p->g b.A i c=0
 tp:0<g b.A top p
 z1:∀i,top<i->i<N->g b.A i p=0
def sq.set{N w top p m F r:Nat}{b0 b:B3}(G:sq H N w top p m b0 b F)(E:ng b.A N top p [r]):mK H N w top p (m*F) b0 (setB b p top r)/\top<=r/\r<N:=by
 obtain⟨e,d,I⟩:=(E.mem r).mp (by simp);let a:top<N:=()
 let z:∀i,top<=i->i<N->i≠r->g b.A i p=0:=λi n l q=>Y_ λy=>q (by simpa using(E.mem i).mpr ⟨n,l,y⟩);let o:∀i c,g (cB b.A top r) i c=g b.A (sw top r i) c:=λi c=>mQ G.tn.isA a d i c;let J:g (cB b.A top r) top p=g b.A r p:=by rw[o];unfold sw;rw[XB rfl]
 let f:=G.tn.Of a d
 let B:∀i,top<i->i<N->g (cB b.A top r) i p=0:=λi n l=>by
  rw[o];unfold sw;rw[Xx ()];by_cases h:i=r
  . rw[XB h];show z top (Xv _) a ()
  rw[Xx h];show z i () l h
 let t:∀i c,top<=i->i<N->c<p->g (cB b.A top r) i c=0:=λi c n l q=>by
  rw[o];show G.zs _ c ?_ (uZ a d l) q;unfold sw;split
  . show e
  split
  . show Xv _
  show n
 let C:∀i,i<top->(cB b.A top r).getD i []=b0.A.getD i []/\(cB b.U top r).getD i []=b0.U.getD i []/\(cB b.C top r).getD i []=b0.C.getD i []:=λi k=>by
  obtain⟨A,x,v⟩:=G.up i k;show⟨(xn G.tn.isA a d e k).trans A,(xn G.tn.fB a d e k).trans x,(xn G.tn.ig a d e k).trans v⟩
 let s:=And.intro (xp G.tn.isA a d e G.lA) (And.intro (xp G.tn.fB a d e G.lU) (xp G.tn.ig a d e G.lC));show⟨?_,e,d⟩;unfold setB;by_cases u:g (cB b.A top r) top p<0
 . rw[XB u];show⟨f.neg a,λi k=>?_,⟨Ef f.isA a s.1,Ef f.fB a s.2.1,Ef f.ig a s.2.2⟩,λi c n l q=>?_,?_,λi n l=>?_⟩
   . obtain⟨A,x,v⟩:=C i k;show⟨(Es f.isA a k).trans A,(Es f.fB a k).trans x,(Es f.ig a k).trans v⟩
   . change g (jg (cB b.A top r) top) i c=0;rw[nB f.isA a];split
     . rw[t top c (Xv _) a q];rfl
     show t i c n l q
   . change 0<g (jg (cB b.A top r) top) top p;rw[nB f.isA a,XB rfl];lia
   change g (jg (cB b.A top r) top) i p=0;rw[nB f.isA a,Xx ()];show B i n l
 rw[Xx u];show⟨f,C,s,t,by change 0<g (cB b.A top r) top p;rw[J]at u⊢;lia,B⟩
def n9(p top:Nat):Nat->B3->B3
 |0,b=>b
 |k+1,b=>
  let c:=n9 p top k b
  ⟨cj c.A k ((g c.A k p).fdiv (g c.A top p)) top,cj c.U k ((g c.A k p).fdiv (g c.A top p)) top,cj c.C top (-((g c.A k p).fdiv (g c.A top p))) k⟩
structure tP(A0:Rows)(N w top p e u:Nat)(b:B3)(k:Nat)(c:B3):Prop where
 tn:Tn A0 c.A c.U c.C N w
 rA:∀i,k<=i->c.A.getD i []=b.A.getD i []/\c.U.getD i []=b.U.getD i []
 rC:∀i,i≠top->c.C.getD i []=b.C.getD i []
 ah:∀i q,i<k->q<p->g c.A i q=g b.A i q
 rd:∀i,i<k->0<=g c.A i p/\g c.A i p<g c.A top p
 sz:∀i q,i<k->(g c.A i q).natAbs<=2^(u+e+1)/\(g c.U i q).natAbs<=2^(u+e+1)
 sC:∀q,(g c.C top q).natAbs<=2^e+k*2^(u+u)
def jw(a:Int)(c:0<b):(a.fdiv b).natAbs<=a.natAbs:=by
 rw[Ys _ (ab0 c)];show abm a b
def Ax{x y:Int}(d:x.natAbs<=a)(c:y.natAbs<=b):(x-y).natAbs<=a+b:=Xy (Int.natAbs_sub_le x y) (abP d c)
def tP.step{N w top p e u k:Nat}{b c:B3}(I:tP C N w top p e u b k c)(hk:k<top)(m:top<N)(J:p<w)(r:0<g b.A top p)(E:∀q,q<p->g b.A top q=0)
 (t:∀q,(g b.A top q).natAbs<=2^e/\(g b.U top q).natAbs<=2^e) (f:∀i q,i<top->(g b.A i q).natAbs<=2^u/\(g b.U i q).natAbs<=2^u/\(g b.C i q).natAbs<=2^u):
 tP C N w top p e u b (k+1) ⟨cj c.A k ((g c.A k p).fdiv (g c.A top p)) top,cj c.U k ((g c.A k p).fdiv (g c.A top p)) top,cj c.C top (-((g c.A k p).fdiv (g c.A top p))) k⟩:=by
 let a:k<N:=()
 let n:∀i q,k<=i->g c.A i q=g b.A i q:=λi q d=>by unfold g;rw[(I.rA i d).1]
 let B:∀i q,k<=i->g c.U i q=g b.U i q:=λi q d=>by unfold g;rw[(I.rA i d).2]
 let H:∀i q,i≠top->g c.C i q=g b.C i q:=λi q d=>by unfold g;rw[I.rC i d]
 let z:((g c.A k p).fdiv (g c.A top p)).natAbs<=2^u:=by
  rw[n k p (Xv _),n top p ()];show Xy (jw _ r) (f k p hk).1
 let A:∀x:Int,x.natAbs<=2^e->((g c.A k p).fdiv (g c.A top p)*x).natAbs<=2^(u+e):=λx F=>by
  rw[Yt,Za];show Yj z F
 let o:2^u<=2^(u+e):=XO ⋯ ();show⟨I.tn.take a m (),λi d=>?_,λi d=>?_,λi q d s=>?_,λi d=>?_,λi q d=>?_,λq=>?_⟩
 . show⟨(iC (by rw[I.tn.isA.len];show a) ()).trans (I.rA i ()).1,(iC (by rw[I.tn.fB.len];show a) ()).trans (I.rA i ()).2⟩
 . show(iC (by rw[I.tn.ig.len];show m) d).trans (I.rC i d)
 . change g (cj c.A k _ top) i q=_;rw[eQ I.tn.isA a m];split
   . rename_i h;rw[n top q (),E q s,Yv,n k q (Xv _),h];lia
   show I.ah i q () s
 . change 0<=g (cj c.A k _ top) i p/\g (cj c.A k _ top) i p<g (cj c.A k _ top) top p;rw[eQ I.tn.isA a m,eQ I.tn.isA a m,Xx (show¬top=k by lia)];split
   . have G:=aaJ (g c.A k p) (g c.A top p);let l:0<g c.A top p:=by rw[n top p ()];show r
     let M:=YA (g c.A k p) l;let L:=YL (g c.A k p) l;rw[Zd]at G;lia
   show I.rd i ()
 . change(g (cj c.A k _ top) i q).natAbs<=_/\(g (cj c.U k _ top) i q).natAbs<=_;rw[eQ I.tn.isA a m,eQ I.tn.fB a m];split
   . have y:=A (g c.A top q) (by rw[n top q ()];show(t q).1);let v:=A (g c.U top q) (by rw[B top q ()];show(t q).2);rw[n k q (Xv _),B k q (Xv _)];rw[YI,Nat.mul_two];show⟨Ax (Xy (f k q hk).1 o) y,Ax (Xy (f k q hk).2.1 o) v⟩
   show I.sz i q ()
 change(g (cj c.C top _ k) top q).natAbs<=_;rw[eQ I.tn.ig m a,XB rfl,H k q (),Zq];let y:=I.sC q
 let v:((g c.A k p).fdiv (g c.A top p)*g b.C k q).natAbs<=2^(u+u):=by
  rw[Yt,Za];show Yj z (f k q hk).2.2
 rw[aag,ZF,<-Nat.add_assoc];show Ax y (by rw[Y4];show v)
def tP.start{N w top p e u:Nat}{b:B3}(T:Tn a b.A b.U b.C N w)(h:∀q,(g b.C top q).natAbs<=2^e):tP a N w top p e u b 0 b:=
 ⟨T,λ_ _=>⟨rfl,rfl⟩,λ_ _=>rfl,λ_ _ h=>absurd h (XZ _),λ_ h=>absurd h (XZ _),λ_ _ h=>absurd h (XZ _),λq=>by rw[abv];show h q⟩
def mK.next{N w top p e u e' u':Nat}{b0 b c:B3}{ld:Nat->Nat}(S:ix v N w b0 top p ld e u)(s:mK v N w top p (2^e') b0 b)(t:top<N)(I:tP v N w top p e' u b top c)(n:N<=8)
 (C:u+e'+1<=u') (G:u+u+4<=u'):ix v N w c (top+1) (p+1) (λi=>if i=top then p else ld i) e' u':=by
 let k:∀i q,i<top->g b.A i q=g b0.A i q:=λi q f=>by unfold g;rw[(s.up i f).1]
 let r:∀i q,top<=i->g c.A i q=g b.A i q:=λi q f=>by unfold g;rw[(I.rA i f).1]
 let A:∀i q,top<=i->g c.U i q=g b.U i q:=λi q f=>by unfold g;rw[(I.rA i f).2]
 let B:∀i q,i≠top->g c.C i q=g b.C i q:=λi q f=>by unfold g;rw[I.rC i f]
 let le:∀ {a x:Nat},a<=2^x->x<=u'->a<=2^u':=λh E=>Xy h (XO ⋯ E);show⟨I.tn,t,⟨λi q f n=>?_,λi q f n=>?_,λi q f n=>?_⟩,λi q f=>?_,λi q f n o=>?_,λi f=>?_,λi j m F=>?_,λi j m F=>?_⟩
 . rw[r i q ()];show s.lo.1 i q () n
 . rw[A i q ()];show s.lo.2.1 i q () n
 . rw[B i q ()];show s.lo.2.2 i q () n
 . by_cases h:i=top
   . subst h;show⟨?_,?_,?_⟩
     . rw[r i q (Xv _)];show le (s.lo.1 i q (Xv _) t) ()
     . rw[A i q (Xv _)];show le (s.lo.2.1 i q (Xv _) t) ()
     have P:=I.sC q;let O:i*2^(u+u)<=2^(u+u+3):=by rw[Za _ _ 3,Y1];show ZP _ ()
     let M:2^(u+u+3)*2<=2^u':=by rw[<-YI];show XO ⋯ G
     let L:2^e'*2<=2^u':=by rw[<-YI];show XO ⋯ ()
     lia
   have d:i<top:=()
   show⟨le (I.sz i q d).1 C,le (I.sz i q d).2 C,?_⟩;rw[B i q h];let:g b.C i q=g b0.C i q:=by unfold g;rw[(s.up i d).2.2]
   rw[this];show le (S.hi i q d).2.2 ()
 . rw[r i q ()];by_cases h:q=p
   . rw[h];show s.z1 i () n
   show s.zs i q () n ()
 . by_cases h:i=top
   . subst h;rw[XB rfl];show⟨Yp p,?_,λq o=>?_⟩
     . rw[r i p (Xv _)];show s.tp
     rw[r i q (Xv _)];show s.zs i q (Xv _) t o
   have d:i<top:=()
   rw[Xx h];obtain⟨y,J,H⟩:=S.lead i d;show⟨Yk y,?_,λq o=>?_⟩
   . rw[I.ah i _ d y,k i _ d];show J
   rw[I.ah i _ d (aan o y),k i _ d];show H q o
 . by_cases h:j=top
   . rw[XB h,Xx ()];show(S.lead i ()).1
   rw[Xx h,Xx ()];show S.mono i j m ()
 by_cases h:j=top
 . subst h;rw[XB rfl];show I.rd i m
 have l:j<top:=()
 rw[Xx h];let:=S.red i j m l;let z:=(S.lead j l).1;rw[I.ah i _ () z,I.ah j _ l z,k i _ (),k j _ l];show this
def Tn.start(e:dy N w A):Tn A A (units N) (units N) N w where
 isA:=e
 fB:=tU N
 ig:=tU N
 ua:=λi c a f=>by
  rw[<-qf a λk=>g A k c];show aG λm b=>by rw[mG a b]
 ub:=λi j a d=>by
  rw[zJ i j,<-qf a λk=>dl j k]
  show aG λm b=>by rw[mG a b,mG d b]
 bu:=λi j a d=>by
  rw[<-sh a λk=>dl k j];show aG λm b=>by rw[mG b a,mG b d,Zd]
def ix.start{N w e:Nat}(f:dy N w A)(h:gS A N 0 (2^e)):ix A N w ⟨A,units N,units N⟩ 0 0 (λ_=>0) e 0:=by
 let a:gS (units N) N 0 (2^e):=λi c _ b=>by
  by_cases d:c<N
  . rw[mG b d];unfold dl;split
    . show ZV
    show Yc _
  unfold g;rw[k5 (l:=(units N).getD i []) (by rw[dQ (tU N) b];lia)];show Yc _
 show⟨Tn.start f,Yc _,⟨h,a,a⟩,λ_ _ h=>absurd h (XZ _),λ_ _ _ _ h=>absurd h (XZ _),λ_ h=>absurd h (XZ _),λ_ _ _ h=>absurd h (XZ _),λ_ _ _ h=>absurd h (XZ _)⟩
def SU(f:Nat->Nat):Nat->Nat
 |0=>0
 |n+1=>SU f n+f n
def Oo{f f':Nat->Nat}:∀ {n:Nat},(∀i,i<n->f' i<=f i)->SU f' n<=SU f n
 |0,_=>Xv _
 |n+1,h=>abP (Oo λi a=>h i (Yk a)) (h n (Yp n))
def N7{f f':Nat->Nat}{k:Nat}(a:f' k<f k):∀ {n:Nat},k<n->(∀i,i<n->f' i<=f i)->SU f' n<SU f n
 |0,hk,_=>absurd hk (XZ _)
 |n+1,hk,h=>by
  by_cases e:k=n
  . subst e;show Nat.add_lt_add_of_le_of_lt (Oo λi b=>h i (Yk b)) a
  show Nat.add_lt_add_of_lt_of_le (N7 a () λi b=>h i (Yk b)) (h n (Yp n))
def mu(A:Rows)(N p:Nat):Nat:=SU (λi=>(g A i p).natAbs) N
inductive Ss(N p:Nat):Nat->B3->Nat->B3->Prop
 |none {top:Nat} {b:B3} (h:ng b.A N top p []):Ss N p top b top b
 |one {top r:Nat} {b c:B3} (h:i9 N top p b c) (l:ng c.A N top p [r]):Ss N p top b (top+1) (n9 p top top (setB c p top r))
inductive rW(A:Rows)(N:Nat):Nat->Nat->B3->Prop
 |start:rW A N 0 0 ⟨A,units N,units N⟩
 |next {p t t':Nat} {b b':B3} (h:rW A N p t b) (c:Ss N p t b t' b'):rW A N (p+1) t' b'
def Ez(N a:Nat):Nat->Nat
 |0=>a
 |t+1=>(N-t+1)*(Ez N a t+1)
def Vz(N a:Nat):Nat->Nat
 |0=>0
 |t+1=>Vz N a t+Vz N a t+Ez N a (t+1)+5
def gR(X:Rows)(n w:Nat)(v:Nat->Int):Prop:=∃z:Nat->Int,∀c,c<w->v c=S n λk=>z k*g X k c
def gR.row{n w k:Nat}(hk:k<n):gR X n w (g X k):=⟨λi=>dl k i,λc _=>(qf hk λi=>g X i c).symm⟩
def gR.trans{v:Nat->Int}(h:∀k,k<m->gR Y n w (g X k))(f:gR X m w v):gR Y n w v:=by
 obtain⟨z,d⟩:=f
 let a:∀k,∃y:Nat->Int,k<m->∀c,c<w->g X k c=S n λi=>y i*g Y i c:=λk=>by
  by_cases hk:k<m
  . obtain⟨y,e⟩:=h k hk;show⟨y,λ_=>e⟩
  show⟨λ_=>0,λh=>absurd h hk⟩
 show⟨λi=>S m λk=>z k*Classical.choose (a k) i,λc b=>?_⟩;rw[d c b]
 let l:S m (λk=>z k*g X k c)=S m λk=>S n λi=>z k*Classical.choose (a k) i*g Y i c:=aG λk hk=>by
  rw[Classical.choose_spec (a k) hk c b,<-fL];show aG λi _=>(Y2 _ _ _).symm
 rw[l,o2];show aG λi _=>qj _ _ _
structure fj(X:Rows)(n w:Nat)(ld:Nat->Nat):Prop where
 lead:∀i,i<n->ld i<w/\0<g X i (ld i)/\∀c,c<ld i->g X i c=0
 mono:∀i j,i<j->j<n->ld i<ld j
def fj.inj{ld:Nat->Nat}(s:fj X n w ld){i j:Nat}(b:i<n)(a:j<n)(h:ld i=ld j):i=j:=by
 rcases abi i j with q|q|q
 . show absurd h (X_ (s.mono i j q a))
 . show q
 show absurd h.symm (X_ (s.mono j i q b))
def fj.gone{ld:Nat->Nat}{v z:Nat->Int}(s:fj X n w ld)(h:∀c,c<w->v c=S n λk=>z k*g X k c)(p:∀c,c<q->v c=0)(k:Nat):k<n->ld k<q->z k=0:=by
 induction k using Nat.strongRecOn with
 |ind k f=>
  intro hk b;obtain⟨o,m,r⟩:=s.lead k hk;let e:=h (ld k) o;rw[p _ b,qP hk λi a d=>?_]at e
  . show(Int.mul_eq_zero.mp e.symm).resolve_right (ZL m)
  rcases aa6 d with l|l
  . rw[f i l a (aan (s.mono i k l hk) b),Zt]
  rw[(s.lead i a).2.2 _ (s.mono k i l a),Yv]
def zN(X:Rows)(n:Nat)(ld:Nat->Nat):Prop:=∀i j,i<j->j<n->0<=g X i (ld j)/\g X i (ld j)<g X j (ld j)
def i9.Kx{e:Rows}{N w top p m:Nat}{b0 b c:B3}(g:p<w)(h:i9 N top p b c):∀ {d:Nat},sq e N w top p m b0 b d->∃a,sq e N w top p m b0 c a:=by
 induction h with
 |refl b=>show λG=>⟨_,G⟩
 |head s _ f=>
  intro d G;obtain⟨L,k,j,l,rfl⟩:=s;show f (G.step g l).1
def mK.mono{N w top p m e:Nat}{b0 b:B3}(s:mK f N w top p m b0 b)(h:m<=e):mK f N w top p e b0 b:=
 ⟨s.tn,s.up,⟨λi c d a=>Xy (s.lo.1 i c d a) h,λi c d a=>Xy (s.lo.2.1 i c d a) h,λi c d a=>Xy (s.lo.2.2 i c d a) h⟩,s.zs,s.tp,s.z1⟩
def mK.Xl{N w top p m:Nat}{b0 b:B3}(s:mK f N w top p m b0 b){i:Nat}(a:i<top)(q:Nat):g b.A i q=g b0.A i q/\g b.U i q=g b0.U i q/\g b.C i q=g b0.C i q:=by
 obtain⟨e,d,c⟩:=s.up i a;unfold g;rw[e,d,c];show⟨rfl,rfl,rfl⟩
def ID{f:Nat->Int}:∀ {N:Nat},n<=N->(∀i,n<=i->i<N->f i=0)->S N f=S n f
 |0,h,_=>by rw[Nat.le_zero.mp h]
 |N+1,h,z=>by
  by_cases e:n=N+1
  . rw[e]
  have a:n<=N:=()
  change S N f+f N=_;rw[z N a (Yp N),YH];show ID a λi c b=>z i c (Yk b)
def ix.T5{N w top e u:Nat}{c:B3}{ld:Nat->Nat}(s:ix A N w c top w ld e u):fj c.A top w ld/\zN c.A top ld:=⟨⟨s.lead,s.mono⟩,s.red⟩
def ix.in{N w top e u:Nat}{c:B3}{ld:Nat->Nat}(s:ix A N w c top w ld e u)(k:Nat)(hk:k<top):gR A N w (g c.A k):=
 ⟨g c.U k,λq a=>s.tn.ua k q (XR hk s.le) a⟩
def ix.out{N w top e u:Nat}{c:B3}{ld:Nat->Nat}(s:ix A N w c top w ld e u)(k:Nat)(hk:k<N):gR c.A top w (g A k):=by
 show⟨λi=>g c.C i k,λq a=>?_⟩
 let m:S N (λi=>g c.C i k*g c.A i q)=g A k q:=by
  let:S N (λi=>g c.C i k*g c.A i q)=S N λi=>S N λj=>g c.C i k*g c.U i j*g A j q:=aG λi d=>by
   rw[s.tn.ua i q d a,<-fL];show aG λj _=>(Y2 _ _ _).symm
  rw[this,o2]
  let l:S N (λj=>S N λi=>g c.C i k*g c.U i j*g A j q)=S N λj=>dl k j*g A j q:=aG λj b=>by
   rw[qj,s.tn.bu k j hk b]
  rw[l,qf hk λj=>g A j q]
 rw[<-m];show ID s.le λi h f=>by rw[s.zs i q h f a,Yv]
def fu{X:Rows}{n i q:Nat}(h:i<n):g (X.take n) i q=g X i q:=by
 unfold g;rw[XD (l:=X.take n),XD (l:=X),Zc h]
def gR.Wx{u v:Nat->Int}(x:Int)(f:gR X n w u)(e:gR X n w v):gR X n w λc=>u c+x*v c:=by
 obtain⟨y,d⟩:=f;obtain⟨z,b⟩:=e;show⟨λk=>y k+x*z k,λc a=>?_⟩;change u c+x*v c=S n λk=>(y k+x*z k)*g X k c;rw[d c a,b c a,<-fL,<-kc];show aG λk _=>by rw[Int.add_mul,Y2]
def gR.eq{u v:Nat->Int}(d:gR X n w u)(h:∀c,c<w->v c=u c):gR X n w v:=by
 obtain⟨y,b⟩:=d;show⟨y,λc a=>(h c a).trans (b c a)⟩
structure Vg(X:Rows)(n:Nat)(Y:Rows)(m w:Nat):Prop where
 to:∀k,k<n->gR Y m w (g X k)
 of:∀k,k<m->gR X n w (g Y k)
def gR.zero{v:Nat->Int}(h:∀c,c<w->v c=0):gR X n w v:=
 ⟨λ_=>0,λc a=>by rw[h c a,lS λk _=>Zt _]⟩
def sI{X:Rows}{r:Row}{k:Nat}(hk:k<=X.length)(i:Nat):(X.take k++r::X.drop k).getD i []=if i<k then X.getD i []else if i=k then r else X.getD (i-1) []:=by
 let lt:(X.take k).length=k:=by rw[YD];lia
 rw[XD,XD,XD];by_cases h:i<k
 . rw[XB h,XA (by rw[lt];show h),Zc h]
 rw[Xx h,Yi (by rw[lt];lia),lt];by_cases a:i=k
 . rw[XB a,a,Zs];rfl
 rw[Xx a];let:i-k=(i-1-k)+1:=()
 rw[this,Ye,List.getElem?_drop];congr 2;lia
structure qZ(F:Rows)(w:Nat)(ld:Nat->Nat)(row:Nat->Int)(i:Nat)(o:Int)(L:Nat->Int):Prop where
 pos:0<o
 sum:gR F i w λc=>o*row c-L c
 off:∀k,k<i->L (ld k)=0
 least:∀(m:Int) (v:Nat->Int),gR F i w v->(∀k,k<i->m*row (ld k)=v (ld k))->o∣m
structure D9(F:Rows)(n w:Nat)(ld:Nat->Nat)(row:Nat->Int)(i:Nat)(L:Nat->Int):Prop where
 sum:gR F n w λc=>row c-L c
 red:∀k,k<i->0<=L (ld k)/\L (ld k)<g F k (ld k)
def D9.start{ld:Nat->Nat}{row:Nat->Int}:D9 F n w ld row 0 row:=⟨gR.zero λc _=>Int.sub_self _,λ_ h=>absurd h (XZ _)⟩
def D9.step{n w i:Nat}{ld:Nat->Nat}{row L:Nat->Int}(s:fj F n w ld)(d:i<n)(f:D9 F n w ld row i L):D9 F n w ld row (i+1) λc=>L c-(L (ld i)).fdiv (g F i (ld i))*g F i c:=by
 obtain⟨o,l,m⟩:=s.lead i d;show⟨(f.sum.Wx ((L (ld i)).fdiv (g F i (ld i))) (gR.row d)).eq λc _=>by lia,λk hk=>?_⟩;change 0<=L (ld k)-_*g F i (ld k)/\L (ld k)-_*g F i (ld k)<_;rcases ZK k i with h|h
 . rw[m _ (s.mono k i h d),Yv,Int.sub_zero];show f.red k h
 have:k=i:=abF (abg hk) h;subst this;let e:=Int.fmod_add_mul_fdiv (L (ld k)) (g F k (ld k));let a:=YA (L (ld k)) l;let b:=YL (L (ld k)) l;rw[Zd]at e;lia
def C1{K m:Nat}:∀ {n:Nat} {M:Fn},n<=K->(∀r c,r<n->c<n->(M r c).natAbs<=m)->(D n M).natAbs<=(K*m)^n
 |0,_,_,_=>by simp[D]
 |n+1,M,d,h=>by
  rw[eO]
  let key:∀j,j<n+1->(sg j*M 0 j*D n λr c=>M (r+1) (sk j c)).natAbs<=m*(K*m)^n:=λj e=>by
   let a:=C1 (K:=K) (m:=m) (n:=n) (M:=λr c=>M (r+1) (sk j c)) () λr c g f=>h (r+1) (sk j c) () (ny f);let b:=h 0 j () e;let s:(sg j).natAbs=1:=by unfold sg;split<;>rfl
   rw[Yt,Yt,s,ZF];show Yj b a
  show Xy (HR key) ?_;rw[YI,Y1 ((K*m)^n),aae];show YV _ d
def pick{t N:Nat}{U B:Fn}(h:∀k l,k<t->l<t->S N (λi=>U k i*B i l)=dl k l):∃I:Nat->Nat,(∀k,k<t->I k<N)/\D t (λk l=>B (I k) l)≠0:=by
 apply Y_;intro no
 let p:∀s,s<=t->∀I:Nat->Nat,(∀k,k<t->s<=k->I k<N)->D t (λk l=>if k<s then dl k l else B (I k) l)=0:=by
  intro s;induction s with
  |zero=>
   intro _ I d;show Y_ λz=>no ⟨I,λk hk=>d k hk (Yc _),z⟩
  |succ s g=>
   intro v I d
   let e:D t (λk l=>if k<s+1 then dl k l else B (I k) l)=D t (upd (λk l=>if k<s then dl k l else B (I k) l) s λl=>S N λj=>U s j*B j l):=ef λk l hk f=>by
    unfold upd;by_cases a:k=s
    . subst a;rw[XB rfl,XB (Yp _)];show(h k l hk f).symm
    rw[Xx a];change _=if k<s then dl k l else B (I k) l
    by_cases b:k<s
    . rw[XB (),XB b]
    rw[Xx (),Xx b]
   rw[e,(vJ t).yq ()];show lS λj o=>?_
   let u:=g () (λk=>if k=s then j else I k) λk hk m=>by
    by_cases a:k=s
    . rw[XB a];show o
    rw[Xx a];show d k hk ()
   let q:D t (upd (λk l=>if k<s then dl k l else B (I k) l) s (B j))=D t (λk l=>if k<s then dl k l else B (if k=s then j else I k) l):=ef λk l hk f=>by
    unfold upd;by_cases a:k=s
    . subst a;rw[XB rfl,Xx (YM _),XB rfl]
    rw[Xx a,Xx a]
   rw[q,u,Yv]
 let z:=p t (Xv _) (λ_=>0) λk a b=>absurd a (Nat.not_lt.mpr b);rw[ef (M':=dl) λr c n w=>XB n,zV]at z;show absurd z ⋯
def D_:∀ {n:Nat} {f:Nat->Int},(∀i,i<n->0<f i)->0<Pr n f
 |0,_,_=>show(0:Int)<1 by decide
 |n+1,f,h=>Int.mul_pos (D_ λi a=>h i (Yk a)) (h n (Yp n))
def N4:∀ {n:Nat} {f:Nat->Int},(∀i,i<n->0<f i)->∀k,k<n->f k<=Pr n f
 |n+1,f,h,k,hk=>by
  let p:=D_ λi b=>h i (Yk b);let q:=h n (Yp n);change f k<=Pr n f*f n;by_cases e:k=n
  . subst e;let:=Int.mul_le_mul_of_nonneg_right (show(1:Int)<=Pr k f from p) (ab0 q);lia
  have a:=N4 (λi b=>h i (Yk b)) k ();let:=Zi (show(1:Int)<=f n from q) (ab0 p);lia
def y3{w x:Int}(a:w≠0)(h:(w*x).natAbs<=m):x.natAbs<=m:=by
 rw[Yt]at h;show Xy (abK _ ()) h
def Ja{b i j:Nat}(h:1<=b)(l:i<=j):(9*b)^i<=(9*b)^j:=XO () l
def Ni{A F U B:Fn}{N w t b:Nat}{ld:Nat->Nat}(G:t<=8)(O:1<=b)(E:∀i c,i<N->c<w->(A i c).natAbs<=b)(m:∀i c,i<N->c<w->A i c=S t λk=>B i k*F k c)(C:∀k l,k<t->l<t->S N (λi=>U k i*B i l)=dl k l)(lead:∀i,i<t->ld i<w/\0<F i (ld i)/\∀c,c<ld i->F i c=0)(mono:∀i j,i<j->j<t->ld i<ld j)(x:∀i j,i<j->j<t->0<=F i (ld j)/\F i (ld j)<F j (ld j)):
 Pr t (λi=>F i (ld i))<=((9*b)^8:Nat)/\∀k c,k<t->c<w->(F k c).natAbs<=8*((9*b)^9*(9*b)^8):=by
 obtain⟨I,o,H⟩:=pick C;let J:D t (λk l=>F k (ld l))=Pr t λi=>F i (ld i):=V3 λr c g n h=>(lead r g).2.2 _ (mono c r h g);let pos:0<Pr t λi=>F i (ld i):=D_ λi v=>(lead i v).2.1
 let V:D t (λk l=>A (I k) (ld l))=D t (λk l=>B (I k) l)*D t λk l=>F k (ld l):=by
  rw[<-Oc];show ef λk l hk e=>m _ _ (o k hk) (lead l e).1
 let M:(D t (λk l=>A (I k) (ld l))).natAbs<=(9*b)^t:=C1 (K:=9) () λr c g n=>E _ _ (o r g) (lead c n).1;rw[V,J]at M;let bP:(Pr t λi=>F i (ld i)).natAbs<=(9*b)^8:=Xy (y3 H M) (Ja O G);show⟨by lia,λk c hk n=>?_⟩
 let Y:∀l,l<t->(F k (ld l)).natAbs<=(9*b)^8:=λl e=>by
  let p:=N4 (f:=λi=>F i (ld i)) (λi v=>(lead i v).2.1) l e;rcases abi k l with h|h|h
  . have:=x k l h e;let P:F l (ld l)<=Pr t λi=>F i (ld i):=p;lia
  . subst h;let q:=(lead k hk).2.1;let P:F k (ld k)<=Pr t λi=>F i (ld i):=p;lia
  rw[(lead k hk).2.2 _ (mono l k h hk)];show Yc _
 let L:=Uy (λl k=>F k (ld l)) t (λk=>F k c) k;rw[Sh hk]at L;let T:D t (λl k=>F k (ld l))=Pr t λi=>F i (ld i):=by rw[<-J];show DZ t λk l=>F k (ld l)
 rw[T]at L
 let Z:∀l,l<t->(D t (λk l=>B (I k) l)*bt (λl k=>F k (ld l)) t (λk=>F k c) l).natAbs<=(9*b)^9:=λl e=>by
  let R:D (t+1) (λi k=>if i=t then dl t k else if k=t then 0 else B (I i) k)=D t λk l=>B (I k) l:=by
   rw[C7 λc _=>XB rfl];show ef λr c g n=>by rw[Xx (),Xx ()]
  let Q:D (t+1) (upd (λi r=>if r<t then A (I i) (ld r)else A (I i) c) t (dl l))=D t (λk l=>B (I k) l)*bt (λl k=>F k (ld l)) t (λk=>F k c) l:=by
   unfold bt;rw[<-R,<-Oc];show ef λi r v g=>?_;by_cases h:i=t
   . subst h;rw[cZ];let:(S (i+1) λk=>(if i=i then dl i k else if k=i then 0 else B (I i) k)*upd (λa r=>if r<i then F a (ld r)else F a c) i (dl l) k r)=S (i+1) λk=>dl i k*upd (λa r=>if r<i then F a (ld r)else F a c) i (dl l) k r:=aG λk _=>by rw[XB rfl]
     rw[this,qf (Yp i),cZ]
   have u:i<t:=()
   rw[aF h];change _=(S t λk=>(if i=t then dl t k else if k=t then 0 else B (I i) k)*upd (λa r=>if r<t then F a (ld r)else F a c) t (dl l) k r)+(if i=t then dl t t else if t=t then 0 else B (I i) t)*upd (λa r=>if r<t then F a (ld r)else F a c) t (dl l) t r;let z:(if i=t then dl t t else if t=t then 0 else B (I i) t)*upd (λa r=>if r<t then F a (ld r)else F a c) t (dl l) t r=0:=by rw[Xx h,XB rfl,Zt]
   rw[z,YH]
   let W:∀k,k<t->(if i=t then dl t k else if k=t then 0 else B (I i) k)*upd (λa r=>if r<t then F a (ld r)else F a c) t (dl l) k r=B (I i) k*(if r<t then F k (ld r)else F k c):=λk hk=>by
    rw[Xx h,Xx (),aF ()]
   rw[aG W];by_cases d:r<t
   . rw[XB d,m _ _ (o i u) (lead r d).1];show aG λk _=>by rw[XB d]
   rw[Xx d,m _ _ (o i u) n];show aG λk _=>by rw[Xx d]
  rw[<-Q];show Xy (C1 (K:=9) () λr q g hq=>?_) (Ja O (show t+1<=9 by lia));by_cases h:r=t
  . subst h;rw[cZ];unfold dl;split<;>lia
  rw[aF h];let s:r<t:=()
  split
  . rename_i y;show E _ _ (o r s) (lead q y).1
  show E _ _ (o r s) n
 let X:D t (λk l=>B (I k) l)*(Pr t λi=>F i (ld i))*F k c= -S t λl=>(D t (λk l=>B (I k) l)*bt (λl k=>F k (ld l)) t (λk=>F k c) l)*F k (ld l):=by
  let:(S t λl=>(D t (λk l=>B (I k) l)*bt (λl k=>F k (ld l)) t (λk=>F k c) l)*F k (ld l))=D t (λk l=>B (I k) l)*S t λl=>bt (λl k=>F k (ld l)) t (λk=>F k c) l*F k (ld l):=by
   rw[<-fL];show aG λl _=>Y2 _ _ _
  rw[this,Y2,<-Int.mul_neg];congr 1;lia
 show y3 (w:=D t (λk l=>B (I k) l)*(Pr t λi=>F i (ld i))) (Ze H (ZL pos)) ?_;rw[X,Y4];show Xy (HR λl e=>?_) (YV _ G);rw[Yt];show Yj (Z l e) (Y l e)
def ix.back{N w top e u:Nat}{c:B3}{ld:Nat->Nat}(H:ix a N w c top w ld e u){i q:Nat}(d:i<N)(b:q<w):g a i q=S top λk=>g c.C k i*g c.A k q:=by
 let T:=H.tn
 let o:S N (λk=>g c.C k i*g c.A k q)=g a i q:=by
  let:S N (λk=>g c.C k i*g c.A k q)=S N λk=>S N λm=>g c.C k i*g c.U k m*g a m q:=aG λk hk=>by
   rw[T.ua k q hk b,<-fL];show aG λm _=>(Y2 _ _ _).symm
  rw[this,o2];let:(S N λm=>S N λk=>g c.C k i*g c.U k m*g a m q)=S N λm=>dl i m*g a m q:=aG λm l=>by rw[qj,T.bu i m d l]
  rw[this,qf d]
 let cut:∀n,top<=n->n<=N->S n (λk=>g c.C k i*g c.A k q)=S top λk=>g c.C k i*g c.A k q:=λn=>by
  induction n with
  |zero=>intro h _;rw[Nat.le_zero.mp h]
  |succ n f=>
   intro h p;by_cases e:top=n+1
   . rw[e]
   change S n _+g c.C n i*g c.A n q=_;rw[f () (),H.zs n q () () b,Yv,YH]
 rw[<-o,cut N H.le (Xv _)]
def ix.small{N w top e u b:Nat}{c:B3}{ld:Nat->Nat}(H:ix a N w c top w ld e u)(m:N<=8)(o:1<=b)(n:∀i c,i<N->c<w->(g a i c).natAbs<=b):
 Pr top (λi=>g c.A i (ld i))<=((9*b)^8:Nat)/\∀k q,k<top->q<w->(g c.A k q).natAbs<=8*((9*b)^9*(9*b)^8):=
 Ni (A:=g a) (F:=g c.A) (U:=g c.U) (B:=λi k=>g c.C k i) (Xy H.le m) o n (λi q h d=>H.back h d) (λk l hk f=>H.tn.ub k l (XR hk H.le) (XR f H.le)) H.lead H.mono H.red
def dw(F:Rows)(i:Nat):Nat:=(F.getD i []).findIdx (λx=>x != 0)
def yY:∀ {r:Row} {l:Nat},(∀c,c<l->r.getD c 0=0)->r.getD l 0≠0->r.findIdx (λx=>x != 0)=l
 | [],l,_,h=>(h rfl).elim
 |x::r,0,_,h=>by
  let e:(x != 0)=true:=aaP.mpr h;rw[List.findIdx_cons,e];rfl
 |x::r,l+1,a,h=>by
  let b:(x != 0)=false:=bne_eq_false_iff_eq.mpr (a 0 (Nat.zero_lt_succ _));rw[List.findIdx_cons,b,yY (r:=r) (l:=l) (λc d=>a (c+1) (abw d)) h];rfl
def fj.dw{ld:Nat->Nat}(s:fj F n w ld){i:Nat}(a:i<n):Mx.dw F i=ld i:=by
 obtain⟨_,c,b⟩:=s.lead i a;show yY b (ZL c)
def fj.VZ{ld:Nat->Nat}(s:fj F n w ld):fj F n w (Mx.dw F):=
 ⟨λi b=>by rw[s.dw b];show s.lead i b,λi j h a=>by rw[s.dw a,s.dw (aan h a)];show s.mono i j h a⟩
def qL(F:Rows)(L:Row)(i:Nat):Int:=(L.getD (dw F i) 0).fdiv (g F i (dw F i))
def eZ(F:Rows)(r:Row):Nat->Row
 |0=>r
 |i+1=>bg (eZ F r i) (-(qL F (eZ F r i) i)) (F.getD i [])
def qh(F:Rows)(r:Row)(n:Nat):Row:=(List.range n).map λi=>qL F (eZ F r i) i
section
variable {F:Rows}{r:Row}{m w:Nat}(isF:dy m w F)(lr:r.length=w)
include isF lr
theorem pU:∀ {i:Nat},i<=m->(eZ F r i).length=w
 |0,_=>lr
 |i+1,h=>by
  unfold eZ;rw[fR (by rw[pU (),isF.row ()])];show pU ()
theorem Dd{i:Nat}(a:i<m)(c:Nat):(eZ F r (i+1)).getD c 0=(eZ F r i).getD c 0-qL F (eZ F r i) i*g F i c:=by
 conv=>lhs;unfold eZ
 rw[i_ (by rw[pU isF lr (),isF.row a]),Zq];rfl
theorem FI:∀ {i:Nat},i<=m->∀c,r.getD c 0=(eZ F r i).getD c 0+S i λj=>qL F (eZ F r j) j*g F j c
 |0,_,c=>(YH _).symm
 |i+1,h,c=>by
  let e:=FI (i:=i) () c;rw[Dd isF lr ()];change _=_+(S i _+qL F (eZ F r i) i*g F i c);lia
theorem AD(s:fj F m w (dw F)):∀ {i:Nat},i<=m->D9 F m w (dw F) (λc=>r.getD c 0) i (λc=>(eZ F r i).getD c 0)
 |0,_=>D9.start
 |i+1,h=>by
  let:=(AD s (i:=i) ()).step s h
  let e:(λc=>(eZ F r (i+1)).getD c 0)=λc=>(eZ F r i).getD c 0-((eZ F r i).getD (dw F i) 0).fdiv (g F i (dw F i))*g F i c:=by
   funext c;rw[Dd isF lr h];rfl
  rw[e];show this
theorem vX{f e:Nat}(s:fj F m w (dw F))(n:∀k c,k<m->c<w->(g F k c).natAbs<=2^f)(l:∀c,c<w->(r.getD c 0).natAbs<=2^e):∀ {i:Nat},i<=m->∀c,c<w->((eZ F r i).getD c 0).natAbs<=2^(e+i*(f+1))
 |0,_,c,a=>by rw[abv];show l c a
 |i+1,h,c,a=>by
  let d:=vX s n l (i:=i) ();obtain⟨t,o,_⟩:=s.lead i h;let q:=Xy (jw ((eZ F r i).getD (dw F i) 0) o) (d _ t);rw[Dd isF lr h]
  let p:(qL F (eZ F r i) i*g F i c).natAbs<=2^(e+i*(f+1))*2^f:=by
   rw[Yt];show Yj q (n i c h a)
  let b:=d c a
  let u:2^(e+(i+1)*(f+1))=2^(e+i*(f+1))*2^f*2:=by
   rw[show e+(i+1)*(f+1)=e+i*(f+1)+f+1 by rw[Y7];lia,YI,Za]
  let v:2^(e+i*(f+1))<=2^(e+i*(f+1))*2^f:=aaw _ (ZX ⋯);rw[u];lia
end
def L6{N w top e u:Nat}{c:B3}{ld:Nat->Nat}(H:ix b N w c top w ld e u){r a:Row}(k:a.length=top)(m:∀q,q<w->r.getD q 0=S top λj=>a.getD j 0*g c.A j q)(d:q<w):(S N λn=>(fT a (c.U.take top) (List.replicate N 0)).getD n 0*g b n q)=r.getD q 0:=by
 let T:=H.tn;let f:(c.U.take top).length=top:=by rw[YD,T.fB.len];show aaj H.le
 let s:∀n,(fT a (c.U.take top) (List.replicate N 0)).getD n 0=S top λj=>a.getD j 0*g c.U j n:=λn=>by
  rw[x_ (n:=N) n (by simp) (λr o=>T.fB.jN r (aac o)) (by rw[f,k]),ee,Z4,f];show aG λj h=>?_;unfold g;rw[aJ (l:=c.U.take top) (),List.getElem_take,aJ (l:=c.U) (by let:=T.fB.len;let:=H.le;lia)]
 let p:(S N λn=>(fT a (c.U.take top) (List.replicate N 0)).getD n 0*g b n q)=S N λn=>S top λj=>a.getD j 0*(g c.U j n*g b n q):=aG λn _=>by
  rw[s,<-qj];show aG λj _=>Y2 _ _ _
 rw[p,o2,m q d];show aG λj h=>?_;rw[fL,<-T.ua j q (XR h H.le) d]
def SQ:Nat->(Nat->Rat)->Rat
 |0,_=>0
 |n+1,f=>SQ n f+f n
def tK{f h:Nat->Rat}(e:∀i,i<n->f i=h i):SQ n f=SQ n h:=by
 induction n with
 |zero=>rfl
 |succ n a=>unfold SQ;rw[a λi b=>e i (),e n ()]
def zF{f:Nat->Rat}(e:∀i,i<n->f i=0):SQ n f=0:=by
 induction n with
 |zero=>rfl
 |succ n a=>unfold SQ;rw[a λi b=>e i (),e n ()];grind
def Jy(n:Nat)(f h:Nat->Rat):SQ n (λi=>f i+h i)=SQ n f+SQ n h:=by
 induction n with
 |zero=>unfold SQ;grind
 |succ n a=>unfold SQ;rw[a];grind
def QU(n:Nat)(x:Rat)(f:Nat->Rat):SQ n (λi=>x*f i)=x*SQ n f:=by
 induction n with
 |zero=>unfold SQ;grind
 |succ n a=>unfold SQ;rw[a];grind
def Jf{n k:Nat}(hk:k<n){f:Nat->Rat}(h:∀i,i<n->i≠k->f i=0):SQ n f=f k:=by
 induction n with
 |zero=>lia
 |succ n a=>
  unfold SQ;by_cases e:k=n
  . subst e;rw[zF λi c=>h i () ()];grind
  rw[a () λi c b=>h i () b,h n () ()];grind
def Rm{n k:Nat}(hk:k<n){f h:Nat->Rat}(e:∀i,i<n->i≠k->h i=f i):SQ n h=SQ n f+(h k-f k):=by
 induction n with
 |zero=>lia
 |succ n a=>
  unfold SQ;by_cases q:k=n
  . subst q;rw[tK (f:=h) (h:=f) λi c=>e i () ()];grind
  rw[a () λi c b=>e i () b,e n () ()];grind
def Wh(x:Rat):Prop:=∃z:Int,x=(z:Rat)
def Wh.zero:Wh 0:=⟨0,rfl⟩
def Wh.add(h:Wh x)(k:Wh y):Wh (x+y):=by
 obtain⟨a,rfl⟩:=h;obtain⟨b,rfl⟩:=k;show⟨a+b,(abG a b).symm⟩
def Wh.mul(h:Wh x)(c:Int):Wh ((c:Rat)*x):=by
 obtain⟨a,rfl⟩:=h;show⟨c*a,(abH c a).symm⟩
def Wh.neg(h:Wh x):Wh (-x):=by
 obtain⟨a,rfl⟩:=h;show⟨-a,(Rat.intCast_neg a).symm⟩
def dq(a:List Rat)(w:Nat)(v:Nat->Int):Rat:=SQ w λc=>a.getD c 0*(v c:Rat)
def Ep(a:List Rat)(w n:Nat)(x:Nat->Int)(f:Nat->Nat->Int):dq a w (λc=>S n λk=>x k*f k c)=SQ n λk=>(x k:Rat)*dq a w (f k):=by
 induction n with
 |zero=>show zF λc _=>by change _*((0:Int):Rat)=0;grind
 |succ n b=>
  have:dq a w (λc=>S (n+1) λk=>x k*f k c)=dq a w (λc=>S n λk=>x k*f k c)+(x n:Rat)*dq a w (f n):=by
   unfold dq;rw[<-QU,<-Jy];show tK λc _=>?_;change _*(((S n λk=>x k*f k c)+x n*f n c:Int):Rat)=_;rw[abG,abH];grind
  rw[this,b];rfl
def Sl(a:List Rat)(w:Nat)(u v:Nat->Int):dq a w (λc=>u c+v c)=dq a w u+dq a w v:=by
 unfold dq;rw[<-Jy];show tK λc _=>by rw[abG];grind
def xv{u v:Nat->Int}(h:∀c,c<w->u c=v c):dq a w u=dq a w v:=tK λc b=>by rw[h c b]
def Hw{f:Nat->Rat}(h:∀i,i<n->Wh (f i)):Wh (SQ n f):=by
 induction n with
 |zero=>show Wh.zero
 |succ n a=>show(a λi b=>h i ()).add (h n ())
def kI{a:List Rat}{k:Nat}(hk:k<a.length)(c:Nat):(a.set k x).getD c 0=if c=k then x else a.getD c 0:=by
 rw[XD,XD];by_cases h:c=k
 . subst h;rw[XE hk,XB rfl];rfl
 rw[Xu (XI h),Xx h]
def RH{a:List Rat}{w k:Nat}(d:a.length=w)(hk:k<w)(v:Nat->Int):dq (a.set k x) w v=dq a w v+(x-a.getD k 0)*(v k:Rat):=by
 unfold dq;rw[Rm hk (f:=λc=>a.getD c 0*(v c:Rat)) λc _ b=>by rw[kI (),Xx b]];rw[kI (),XB rfl];grind
def K7(F:Rows)(w l:Nat)(a:List Rat)(k:Nat):List Rat:=if dw F k<l then a.set (dw F k) ((0-dq a w (g F k))/(g F k (dw F k):Rat))else a
def pF(F:Rows)(m w l:Nat)(a:List Rat):Nat->List Rat
 |0=>a
 |i+1=>K7 F w l (pF F m w l a i) (m-1-i)
def lO(w l:Nat)(b:Int):List Rat:=(List.replicate w 0).set l (Rat.divInt 1 b)
def Q6(w c:Nat):(List.replicate w (0:Rat)).getD c 0=0:=by
 rw[XD,aat];split<;>rfl
structure qz(F:Rows)(m w l:Nat)(p:Rat)(i:Nat)(ps:List Rat):Prop where
 len:ps.length=w
 nil:∀c,c≠l->(∀k,m-i<=k->k<m->dw F k≠c)->ps.getD c 0=0
 hi:∀c,l<c->ps.getD c 0=0
 at_:ps.getD l 0=p
 off:∀k,m-i<=k->k<m->dw F k<l->dq ps w (g F k)=0
def qz.start(b:Int)(e:l<w):qz F m w l (Rat.divInt 1 b) 0 (lO w l b):=by
 let a:l<(List.replicate w (0:Rat)).length:=by simpa using e
 show⟨by unfold lO;simp,λc d _=>?_,λc d=>?_,?_,λk g f=>by lia⟩
 . unfold lO;rw[kI a,Xx d,Q6]
 . unfold lO;rw[kI a,Xx (),Q6]
 unfold lO;rw[kI a,XB rfl]
def qz.step{m w l i:Nat}(s:fj F m w (dw F))(B:i<m)(P:qz F m w l p i d):qz F m w l p (i+1) (K7 F w l d (m-1-i)):=by
 generalize hk:m-1-i=k0;let f:k0<m:=()
 obtain⟨v,A,y⟩:=s.lead k0 f;unfold K7;by_cases h:dw F k0<l
 . rw[XB h]
   let x:d.getD (dw F k0) 0=0:=P.nil _ () λk q b e=>by
    let:=s.mono k0 k () b;lia
   let r:(g F k0 (dw F k0):Rat)≠0:=λz=>by
    let:g F k0 (dw F k0)=0:=aaU.mp z;lia
   let a:dw F k0<d.length:=by rw[P.len];show v
   show⟨by rw[XH];show P.len,λc n o=>?_,λc n=>?_,?_,λk q b u=>?_⟩
   . rw[kI a,Xx (XI (o k0 () f))];show P.nil c n λk q b=>o k () b
   . rw[kI a,Xx ()];show P.hi c n
   . rw[kI a,Xx ()];show P.at_
   rw[RH P.len v,x];by_cases e:k=k0
   . subst e;let:(0-dq d w (g F k))/(g F k (dw F k):Rat)*(g F k (dw F k):Rat)=0-dq d w (g F k):=Rat.div_mul_cancel r;grind
   have t:m-i<=k:=()
   rw[P.off k t b u,(s.lead k b).2.2 _ (s.mono k0 k () b)];change _+_*((0:Int):Rat)=0;grind
 rw[Xx h];show⟨P.len,λc n o=>P.nil c n λk q b=>o k () b,P.hi,P.at_,λk q b u=>?_⟩;by_cases e:k=k0
 . subst e;lia
 show P.off k () b u
def qz.all(b:Int)(s:fj F m w (dw F))(a:l<w):∀ {i:Nat},i<=m->qz F m w l (Rat.divInt 1 b) i (pF F m w l (lO w l b) i)
 |0,_=>qz.start b a
 |i+1,h=>(qz.all b s a (i:=i) ()).step s h
def Gu(F:Rows)(m l:Nat)(x b:Int):Prop:=(∃k,k<m/\dw F k=l/\b=g F k l)\/((∀k,k<m->dw F k≠l)/\b=2*(x.natAbs:Int))
def Gu.pos(s:fj F m w (dw F))(h:Gu F m l x b)(a:x≠0):0<b:=by
 rcases h with⟨k,hk,e,rfl⟩|⟨n,rfl⟩
 . have:=(s.lead k hk).2.1;rw[e]at this;show this
 lia
def EF(a:b≠0)(x:Int):Rat.divInt 1 b*(x:Rat)=(x:Rat)/(b:Rat):=by
 rw[Rat.divInt_eq_div];grind
def QJ{x b:Int}(k:0<x.natAbs)(f:(x.natAbs:Int)<b):¬Wh ((x:Rat)/(b:Rat)):=by
 rintro⟨z,e⟩
 let d:(b:Rat)≠0:=λq=>by
  let:b=0:=aaU.mp q;lia
 let c:(x:Rat)=(z:Rat)*(b:Rat):=by rw[<-e];show(Rat.div_mul_cancel d).symm
 rw[<-abH]at c;let a:x=z*b:=aaU.mp c;let g:z≠0:=λq=>by rw[q,Zt]at a;lia
 let:(z*b).natAbs=z.natAbs*b.natAbs:=Yt _ _;let h:1*b.natAbs<=z.natAbs*b.natAbs:=YV _ ();rw[a]at f;lia
def qz.whole{R:Row}(s:fj F m w (dw F))(t:l<w)(v:Gu F m l (R.getD l 0) b)(C:R.getD l 0≠0)(P:qz F m w l (Rat.divInt 1 b) m a){k:Nat}(hk:k<m):Wh (dq a w (g F k)):=by
 obtain⟨z,p,o⟩:=s.lead k hk;rcases abi (dw F k) l with h|h|h
 . rw[P.off k () hk h];show Wh.zero
 . have e:dq a w (g F k)=a.getD l 0*(g F k l:Rat):=Jf t λc u r=>by
    rcases aa6 r with q|q
    . rw[o c ()];change _*((0:Int):Rat)=0;grind
    rw[P.hi c q];grind
   let f:b=g F k l:=by
    rcases v with⟨A,d,y,rfl⟩|⟨n,_⟩
    . rw[s.inj hk d (h.trans y.symm)]
    show absurd h (n k hk)
   rw[e,P.at_,f];let B:0<g F k l:=by rw[<-h];show p
   rw[EF ()]
   let:(g F k l:Rat)≠0:=λq=>by
    let:g F k l=0:=aaU.mp q;lia
   let x:(g F k l:Rat)/(g F k l:Rat)=1:=by rw[Rat.div_def];show Rat.mul_inv_cancel _ this
   rw[x];show⟨1,rfl⟩
 have e:dq a w (g F k)=0:=zF λc u=>by
  rcases ZK l c with q|q
  . rw[P.hi c q];grind
  rw[o c ()];change _*((0:Int):Rat)=0;grind
 rw[e];show Wh.zero
def qz.not{R:Row}(s:fj F m w (dw F))(p:l<w)(f:Gu F m l (R.getD l 0) b)(r:R.getD l 0≠0)(h:∀c,c<l->R.getD c 0=0)(d:∀k,k<m->0<=R.getD (dw F k) 0/\R.getD (dw F k) 0<g F k (dw F k))(P:qz F m w l (Rat.divInt 1 b) m a):¬Wh (dq a w λc=>R.getD c 0):=by
 let u:=f.pos s r
 let e:dq a w (λc=>R.getD c 0)=a.getD l 0*((R.getD l 0:Int):Rat):=Jf p λc t o=>by
  rcases aa6 o with q|q
  . change _*((R.getD c 0:Int):Rat)=0;rw[h c q];change _*((0:Int):Rat)=0;grind
  rw[P.hi c q];grind
 rw[e,P.at_,EF ()];show QJ () ?_;rcases f with⟨k,hk,e,rfl⟩|⟨n,rfl⟩
 . have:=d k hk;rw[e]at this;lia
 lia
def Qk(n:Nat)(f:Nat->Rat):SQ (n+1) f=f 0+SQ n λi=>f (i+1):=by
 induction n with
 |zero=>unfold SQ SQ;grind
 |succ n a=>
  have:SQ (n+1+1) f=SQ (n+1) f+f (n+1):=rfl;rw[this,a];let:SQ (n+1) (λi=>f (i+1))=SQ n (λi=>f (i+1))+f (n+1):=rfl;rw[this];grind
def nS:Rat->List Rat->Row->Rat
 |t,p::ps,n::r=>nS (t+p*(n:Rat)) ps r
 |t,_,_=>t
def K_:∀(a:List Rat) (r:Row) (t:Rat) {w:Nat},a.length=w->r.length=w->nS t a r=t+dq a w λc=>r.getD c 0
 | [],[],t,w,h,_=>by
   subst h;unfold nS;change t=t+0;grind
 | [],_::_,t,w,d,b=>by subst d;cases b
 |_::_,[],t,w,d,b=>by subst b;cases d
 |p::a,n::r,t,w,d,b=>by
  subst d;unfold nS;rw[K_ a r _ rfl (Nat.succ.inj b)];unfold dq;rw[XT,Qk]
  let e:(λi=>(p::a).getD (i+1) 0*(((n::r).getD (i+1) 0:Int):Rat))=λi=>a.getD i 0*((r.getD i 0:Int):Rat):=by
   funext i;simp
  rw[e];change _=t+(p*(n:Rat)+_);grind
structure Sz(q:Rat)(m:Nat):Prop where
 num:q.num.natAbs<=2^m
 den:q.den<=2^m
def Sz.mono(h:Sz q m)(l:m<=n):Sz q n:=⟨Xy h.num (XO ⋯ l),Xy h.den (XO ⋯ l)⟩
def Sz.int{n:Int}(h:n.natAbs<=2^m):Sz (n:Rat) m:=⟨h,ZX ⋯⟩
def Sz.of{t b:Int}(a:b≠0)(f:t.natAbs<=2^m)(c:b.natAbs<=2^m):Sz (Rat.divInt t b) m:=by
 let d:1<=b.gcd t:=by
  let:b.gcd t≠0:=λz=>a (Int.gcd_eq_zero_iff.mp z).1;lia
 constructor
 . rw[Rat.num_divInt];let:((b.sign*t)/((b.gcd t:Nat):Int)).natAbs<=(b.sign*t).natAbs:=abm _ _
   let e:(b.sign*t).natAbs<=t.natAbs:=by
    rw[Yt];let:b.sign.natAbs<=1:=by rw[Int.natAbs_sign];split<;>lia
    calc b.sign.natAbs*t.natAbs<=1*t.natAbs:=YV _ this
     _=t.natAbs:=ZF _
   lia
 rw[Rat.den_divInt,Xx a];show Xy (Nat.div_le_self _ _) c
def jB{x y:Int}(d:x.natAbs<=2^a)(c:y.natAbs<=2^b):(x*y).natAbs<=2^(a+b):=by
 rw[Yt,Za];show Yj d c
def den_nz(q:Rat):((q.den:Nat):Int)≠0:=by let:=q.den_nz;lia
def qi(q:Rat):q=Rat.divInt q.num ((q.den:Nat):Int):=(Rat.num_divInt_den q).symm
def add_eq(p q:Rat):p+q=Rat.divInt (p.num*((q.den:Nat):Int)+q.num*((p.den:Nat):Int)) (((p.den:Nat):Int)*((q.den:Nat):Int)):=by
 conv=>lhs;rw[qi p,qi q]
 rw[Rat.divInt_add_divInt _ _ (den_nz p) (den_nz q)]
def sub_eq(p q:Rat):p-q=Rat.divInt (p.num*((q.den:Nat):Int)-q.num*((p.den:Nat):Int)) (((p.den:Nat):Int)*((q.den:Nat):Int)):=by
 conv=>lhs;rw[qi p,qi q]
 rw[Rat.divInt_sub_divInt _ _ (den_nz p) (den_nz q)]
def mul_eq(p q:Rat):p*q=Rat.divInt (p.num*q.num) (((p.den:Nat):Int)*((q.den:Nat):Int)):=by
 conv=>lhs;rw[qi p,qi q]
 rw[abQ]
def div_eq(p q:Rat):p/q=Rat.divInt (p.num*((q.den:Nat):Int)) (((p.den:Nat):Int)*q.num):=by
 rw[Rat.div_def,Rat.inv_def];conv=>lhs;rw[qi p]
 rw[abQ]
def Sz.uY{q:Rat}(h:Sz q m):(((q.den:Nat):Int)).natAbs<=2^m:=h.den
def Sz.add(d:Sz p a)(c:Sz q b):Sz (p+q) (a+b+1):=by
 rw[add_eq];let g:=jB d.num c.uY;let f:=jB c.num d.uY;let e:=jB d.uY c.uY;rw[Nat.add_comm b a]at f;show Sz.of (Ze (den_nz p) (den_nz q)) (by rw[YI];lia) (Xy e (XO ⋯ ()))
def Sz.neg(a:Sz q b):Sz (0-q) b:=by
 let e:(0:Rat)-q= -q:=by grind
 rw[e];show⟨by rw[show(-q).num= -q.num from rfl,Y4];show a.num,a.den⟩
def Sz.mul(d:Sz p a)(c:Sz q b):Sz (p*q) (a+b):=by
 rw[mul_eq];show Sz.of (Ze (den_nz p) (den_nz q)) (jB d.num c.num) (jB d.uY c.uY)
def Sz.div{p q:Rat}(d:Sz p a)(c:Sz q b)(e:q.num≠0):Sz (p/q) (a+b):=by
 rw[div_eq];show Sz.of (Ze (den_nz p) e) (jB d.num c.uY) (jB d.uY c.num)
def Pb:List Rat->Nat->Prop
 | [],_=>True
 |q::qs,t=>∃a b,Sz q a/\Pb qs b/\a+b<=t
def Pb.mono:∀ {c:List Rat} {s t:Nat},Pb c s->s<=t->Pb c t
 | [],_,_,_,_=>trivial
 |_::_,_,_,⟨a,b,f,e,d⟩,l=>⟨a,b,f,e,Xy d l⟩
def Pb.set(e:Sz x a):∀ {d:List Rat} {t k:Nat},Pb d t->Pb (d.set k x) (t+a)
 | [],_,_,_=>trivial
 |q::qs,t,0,⟨g,b,f,c,h⟩=>⟨a,b,e,c,by lia⟩
 |q::qs,t,k+1,⟨g,b,f,c,h⟩=>⟨g,b+a,f,c.set e,by lia⟩
def Pb.rep:∀n:Nat,Pb (List.replicate n 0) 0
 |0=>trivial
 |n+1=>⟨0,0,⟨by decide,by decide⟩,Pb.rep n,Xv _⟩
def Pb.nS:∀ {d:List Rat} {r:Row} {s e t:Nat} {x:Rat},Sz x s->Pb d t->(∀n∈r,n.natAbs<=2^e)->Sz (nS x d r) (s+t+d.length*(e+1))
 | [],r,s,e,t,x,c,_,_=>by unfold Mx.nS;show c.mono ()
 |_::_,[],s,e,t,x,c,_,_=>by unfold Mx.nS;show c.mono ()
 |p::d,n::r,s,e,t,x,c,⟨a,b,l,h,m⟩,f=>by
  unfold Mx.nS;let g:=c.add (l.mul (Sz.int (f n XX)));show(Pb.nS g h λk hk=>f k (XN _ hk)).mono ?_;rw[XT,Y7];lia
structure nY(A0:Rows)(N w:Nat)(b:B3)(top p:Nat)(ld:Nat->Nat)(e u v:Nat):Prop where
 tn:Tn A0 b.A b.U b.C N w
 le:top<=N
 lo:gS b.A N top (2^e)/\gS b.U N top (2^e)/\gS b.C N top (2^e)
 hi:∀i c,i<top->(g b.A i c).natAbs<=2^u/\(g b.U i c).natAbs<=2^u/\(g b.C i c).natAbs<=2^v
 zs:∀i c,top<=i->i<N->c<p->g b.A i c=0
 lead:∀i,i<top->ld i<p/\0<g b.A i (ld i)/\∀c,c<ld i->g b.A i c=0
 mono:∀i j,i<j->j<top->ld i<ld j
 red:∀i j,i<j->j<top->0<=g b.A i (ld j)/\g b.A i (ld j)<g b.A j (ld j)
def nY.Kx{N w top p e u v:Nat}{ld:Nat->Nat}(S:nY a N w b top p ld e u v):sq a N w top p (2^e) b b 1:=
 ⟨S.tn,λ_ _=>⟨rfl,rfl,rfl⟩,by rw[ZE];show S.lo.1,by rw[ZE];show S.lo.2.1,by rw[ZE];show S.lo.2.2,S.zs,by rw[ZF];show Xv _,Xv _,.inl rfl⟩
def nY.skip{g:Rows}{N w top p e u v:Nat}{b:B3}{ld:Nat->Nat}(S:nY g N w b top p ld e u v)(h:ng b.A N top p []):nY g N w b top (p+1) ld e u v:=
 ⟨S.tn,S.le,S.lo,S.hi,λi c f d l=>by
  by_cases k:c=p
  . subst k;show Y_ λz=>absurd ((h.mem i).mpr ⟨f,d,z⟩) (by simp)
  show S.zs i c f d (),λi a=>⟨Yk (S.lead i a).1,(S.lead i a).2⟩,S.mono,S.red⟩
structure qV(A0:Rows)(N w top p e u v:Nat)(b:B3)(k:Nat)(c:B3):Prop where
 tn:Tn A0 c.A c.U c.C N w
 rA:∀i,k<=i->c.A.getD i []=b.A.getD i []/\c.U.getD i []=b.U.getD i []
 rC:∀i,i≠top->c.C.getD i []=b.C.getD i []
 ah:∀i q,i<k->q<p->g c.A i q=g b.A i q
 rd:∀i,i<k->0<=g c.A i p/\g c.A i p<g c.A top p
 sz:∀i q,i<k->(g c.A i q).natAbs<=2^(u+e+1)/\(g c.U i q).natAbs<=2^(u+e+1)
 sC:∀q,(g c.C top q).natAbs<=2^e+k*2^(u+v)
def qV.step{N w top p e u v k:Nat}{b c:B3}(I:qV A N w top p e u v b k c)(hk:k<top)(m:top<N)(L:p<w)(o:0<g b.A top p)(C:∀q,q<p->g b.A top q=0)
 (s:∀q,(g b.A top q).natAbs<=2^e/\(g b.U top q).natAbs<=2^e) (f:∀i q,i<top->(g b.A i q).natAbs<=2^u/\(g b.U i q).natAbs<=2^u/\(g b.C i q).natAbs<=2^v):
 qV A N w top p e u v b (k+1) ⟨cj c.A k ((g c.A k p).fdiv (g c.A top p)) top,cj c.U k ((g c.A k p).fdiv (g c.A top p)) top,cj c.C top (-((g c.A k p).fdiv (g c.A top p))) k⟩:=by
 let a:k<N:=()
 let n:∀i q,k<=i->g c.A i q=g b.A i q:=λi q d=>by unfold g;rw[(I.rA i d).1]
 let z:∀i q,k<=i->g c.U i q=g b.U i q:=λi q d=>by unfold g;rw[(I.rA i d).2]
 let G:∀i q,i≠top->g c.C i q=g b.C i q:=λi q d=>by unfold g;rw[I.rC i d]
 let t:((g c.A k p).fdiv (g c.A top p)).natAbs<=2^u:=by
  rw[n k p (Xv _),n top p ()];show Xy (jw _ o) (f k p hk).1
 let y:∀x:Int,x.natAbs<=2^e->((g c.A k p).fdiv (g c.A top p)*x).natAbs<=2^(u+e):=λx E=>by
  rw[Yt,Za];show Yj t E
 let B:2^u<=2^(u+e):=XO ⋯ ();show⟨I.tn.take a m (),λi d=>?_,λi d=>?_,λi q d r=>?_,λi d=>?_,λi q d=>?_,λq=>?_⟩
 . show⟨(iC (by rw[I.tn.isA.len];show a) ()).trans (I.rA i ()).1,(iC (by rw[I.tn.fB.len];show a) ()).trans (I.rA i ()).2⟩
 . show(iC (by rw[I.tn.ig.len];show m) d).trans (I.rC i d)
 . change g (cj c.A k _ top) i q=_;rw[eQ I.tn.isA a m];split
   . rename_i h;rw[n top q (),C q r,Yv,n k q (Xv _),h];lia
   show I.ah i q () r
 . change 0<=g (cj c.A k _ top) i p/\g (cj c.A k _ top) i p<g (cj c.A k _ top) top p;rw[eQ I.tn.isA a m,eQ I.tn.isA a m,Xx (show¬top=k by lia)];split
   . have F:=aaJ (g c.A k p) (g c.A top p);let l:0<g c.A top p:=by rw[n top p ()];show o
     let O:=YA (g c.A k p) l;let M:=YL (g c.A k p) l;rw[Zd]at F;lia
   show I.rd i ()
 . change(g (cj c.A k _ top) i q).natAbs<=_/\(g (cj c.U k _ top) i q).natAbs<=_;rw[eQ I.tn.isA a m,eQ I.tn.fB a m];split
   . have J:=y (g c.A top q) (by rw[n top q ()];show(s q).1);let H:=y (g c.U top q) (by rw[z top q ()];show(s q).2);rw[n k q (Xv _),z k q (Xv _)];let Q:=(f k q hk).1;let P:=(f k q hk).2.1;rw[YI];lia
   show I.sz i q ()
 change(g (cj c.C top _ k) top q).natAbs<=_;rw[eQ I.tn.ig m a,XB rfl,G k q (),Zq];let J:=I.sC q
 let H:((g c.A k p).fdiv (g c.A top p)*g b.C k q).natAbs<=2^(u+v):=by
  rw[Yt,Za];show Yj t (f k q hk).2.2
 rw[aag,ZF];lia
def qV.start{N w top p e u v:Nat}{b:B3}(T:Tn a b.A b.U b.C N w)(h:∀q,(g b.C top q).natAbs<=2^e):qV a N w top p e u v b 0 b:=
 ⟨T,λ_ _=>⟨rfl,rfl⟩,λ_ _=>rfl,λ_ _ h=>absurd h (XZ _),λ_ h=>absurd h (XZ _),λ_ _ h=>absurd h (XZ _),λq=>by rw[abv];show h q⟩
def mK.Vq{N w top p e u v e' u' v':Nat}{b0 b c:B3}{ld:Nat->Nat}(S:nY y N w b0 top p ld e u v)(s:mK y N w top p (2^e') b0 b)(t:top<N)(I:qV y N w top p e' u v b top c)(n:N<=8)
 (E:u+e'+1<=u') (J:u+v+4<=v') (H:e'+1<=v'):nY y N w c (top+1) (p+1) (λi=>if i=top then p else ld i) e' u' v':=by
 let k:∀i q,i<top->g b.A i q=g b0.A i q:=λi q f=>by unfold g;rw[(s.up i f).1]
 let r:∀i q,top<=i->g c.A i q=g b.A i q:=λi q f=>by unfold g;rw[(I.rA i f).1]
 let B:∀i q,top<=i->g c.U i q=g b.U i q:=λi q f=>by unfold g;rw[(I.rA i f).2]
 let C:∀i q,i≠top->g c.C i q=g b.C i q:=λi q f=>by unfold g;rw[I.rC i f]
 let le:∀ {a x:Nat},a<=2^x->x<=u'->a<=2^u':=λh F=>Xy h (XO ⋯ F);show⟨I.tn,t,⟨λi q f n=>?_,λi q f n=>?_,λi q f n=>?_⟩,λi q f=>?_,λi q f n o=>?_,λi f=>?_,λi j m G=>?_,λi j m G=>?_⟩
 . rw[r i q ()];show s.lo.1 i q () n
 . rw[B i q ()];show s.lo.2.1 i q () n
 . rw[C i q ()];show s.lo.2.2 i q () n
 . by_cases h:i=top
   . subst h;show⟨?_,?_,?_⟩
     . rw[r i q (Xv _)];show le (s.lo.1 i q (Xv _) t) ()
     . rw[B i q (Xv _)];show le (s.lo.2.1 i q (Xv _) t) ()
     have R:=I.sC q;let Q:i*2^(u+v)<=2^(u+v+3):=by rw[Za _ _ 3,Y1];show ZP _ ()
     let P:2^(u+v+3)*2<=2^v':=by rw[<-YI];show XO ⋯ J
     let O:2^e'*2<=2^v':=by rw[<-YI];show XO ⋯ H
     lia
   have d:i<top:=()
   show⟨le (I.sz i q d).1 E,le (I.sz i q d).2 E,?_⟩;rw[C i q h];let:g b.C i q=g b0.C i q:=by unfold g;rw[(s.up i d).2.2]
   rw[this];show Xy (S.hi i q d).2.2 (XO ⋯ ())
 . rw[r i q ()];by_cases h:q=p
   . rw[h];show s.z1 i () n
   show s.zs i q () n ()
 . by_cases h:i=top
   . subst h;rw[XB rfl];show⟨Yp p,?_,λq o=>?_⟩
     . rw[r i p (Xv _)];show s.tp
     rw[r i q (Xv _)];show s.zs i q (Xv _) t o
   have d:i<top:=()
   rw[Xx h];obtain⟨z,M,L⟩:=S.lead i d;show⟨Yk z,?_,λq o=>?_⟩
   . rw[I.ah i _ d z,k i _ d];show M
   rw[I.ah i _ d (aan o z),k i _ d];show L q o
 . by_cases h:j=top
   . rw[XB h,Xx ()];show(S.lead i ()).1
   rw[Xx h,Xx ()];show S.mono i j m ()
 by_cases h:j=top
 . subst h;rw[XB rfl];show I.rd i m
 have l:j<top:=()
 rw[Xx h];let:=S.red i j m l;let A:=(S.lead j l).1;rw[I.ah i _ () A,I.ah j _ l A,k i _ (),k j _ l];show this
def nY.start{N w e:Nat}(a:dy N w A)(h:gS A N 0 (2^e)):nY A N w ⟨A,units N,units N⟩ 0 0 (λ_=>0) e 0 0:=by
 let S:=ix.start a h;show⟨S.tn,S.le,S.lo,S.hi,S.zs,S.lead,S.mono,S.red⟩
def Uz(N a:Nat):Nat->Nat
 |0=>0
 |t+1=>Uz N a t+Ez N a (t+1)+1
def Cz(N a:Nat):Nat->Nat
 |0=>0
 |t+1=>Uz N a t+Cz N a t+Ez N a (t+1)+4
def nY.one{N w t p e u v r:Nat}{b c:B3}{ld:Nat->Nat}(S:nY f N w b t p ld e u v)(g:p<w)(h:i9 N t p b c)(l:ng c.A N t p [r]):
 mK f N w t p (2^((N-t+1)*(e+1))) b (setB c p t r)/\t<N/\∀k,k<=t->qV f N w t p ((N-t+1)*(e+1)) u v (setB c p t r) k (n9 p t k (setB c p t r)):=by
 obtain⟨C,G⟩:=h.Kx g S.Kx;obtain⟨s,y,x⟩:=G.set l;let a:=s.mono (G.low S.lo.1);let d:t<N:=Nat.lt_of_le_of_lt y x;show⟨a,d,λk=>?_⟩;induction k with
 |zero=>show λ_=>qV.start a.tn λq=>a.lo.2.2 t q (Xv _) d
 |succ k n=>
  intro hk;show(n (YN hk)).step hk d g a.tp (λq o=>a.zs t q (Xv _) d o) (λq=>⟨a.lo.1 t q (Xv _) d,a.lo.2.1 t q (Xv _) d⟩) λi q m=>?_;obtain⟨B,A,z⟩:=a.Xl m q;rw[B,A,z];show S.hi i q m
def rW.WH(o:dy N w A)(d:gS A N 0 (2^a))(n:N<=8)(h:rW A N p t b):p<=w->∃ld,nY A N w b t p ld (Ez N a t) (Uz N a t) (Cz N a t):=by
 induction h with
 |start=>show λ_=>⟨_,nY.start o d⟩
 |next _ c k=>
  intro e;obtain⟨ld,S⟩:=k (YN e);cases c with
  |none l=>show⟨ld,S.skip l⟩
  |one g l=>
   obtain⟨f,m,I⟩:=S.one e g l;show⟨_,mK.Vq (e':=Ez N a (_+1)) (u':=Uz N a (_+1)) (v':=Cz N a (_+1)) S f m (I _ (Xv _)) n (by change _<=Uz N a _+Ez N a (_+1)+1;lia) (by change _<=Uz N a _+Cz N a _+Ez N a (_+1)+4;lia) (by change _<=Uz N a _+Cz N a _+Ez N a (_+1)+4;lia)⟩
def Fw(a:Nat)(f:Nat->Int):∀b,S (a+b) f=S a f+S b λi=>f (a+i)
 |0=>(YH _).symm
 |b+1=>by
  change S (a+b) f+f (a+b)=S a f+(S b (λi=>f (a+i))+f (a+b));rw[Fw a f b,abX]
def CZ{X:Rows}{m i q:Nat}:g (X.drop m) i q=g X (m+i) q:=by
 let e:(X.drop m).getD i []=X.getD (m+i) []:=by rw[XD,List.getElem?_drop,XD]
 unfold g;rw[e]
def ix.kernel{N w top e u:Nat}{c:B3}{ld:Nat->Nat}(H:ix A N w c top w ld e u){x:Nat->Int}:(∀q,q<w->(S N λn=>x n*g A n q)=0)↔gR (c.U.drop top) (N-top) N x:=by
 let le:=H.le;constructor
 . intro h
   letI y:Nat->Int:=λi=>S N λk=>x k*g c.C i k
   let l:∀j,j<N->x j=S N λi=>y i*g c.U i j:=λj f=>by
    let:(S N λi=>y i*g c.U i j)=S N λi=>S N λk=>x k*(g c.C i k*g c.U i j):=aG λi _=>by
     change(S N λk=>x k*g c.C i k)*g c.U i j=_;rw[<-qj];show aG λk _=>Y2 _ _ _
    rw[this,o2];let B:(S N λk=>S N λi=>x k*(g c.C i k*g c.U i j))=S N λk=>x k*dl k j:=aG λk hk=>by rw[fL,H.tn.bu k j hk f]
    rw[B];show(sh f x).symm
   let z:∀i,i<top->y i=0:=λi a=>by
    show H.T5.1.gone (v:=λ_=>0) (z:=y) (q:=w) (λq b=>?_) (λ_ _=>rfl) i a (H.lead i a).1
    let p:(S N λn=>x n*g A n q)=S N λi=>y i*g c.A i q:=by
     let C:(S N λn=>x n*g A n q)=S N λn=>S N λi=>y i*(g c.U i n*g A n q):=aG λn m=>by
      rw[l n m,<-qj];show aG λi _=>Y2 _ _ _
     rw[C,o2];show aG λi a=>by rw[fL,H.tn.ua i q a b]
    rw[h q b]at p;rw[p];show ID le λi t s=>by rw[H.zs i q t s b,Yv]
   show⟨λi=>y (top+i),λj f=>?_⟩;let o:=Fw top (λi=>y i*g c.U i j) (N-top);rw[Nat.add_sub_cancel' le]at o;rw[l j f,o,lS λi a=>by rw[z i a,Zt],Z4];show aG λi _=>by rw[CZ]
 rintro⟨z,r⟩ q b
 let l:(S N λn=>x n*g A n q)=S N λn=>S (N-top) λi=>z i*(g c.U (top+i) n*g A n q):=aG λn m=>by
  rw[r n m,<-qj];show aG λi _=>by rw[CZ,Y2]
 rw[l,o2];show lS λi a=>?_;let d:top+i<N:=()
 rw[fL,<-H.tn.ua (top+i) q d b,H.zs (top+i) q () d b,Yv]
def rW.WD(h:rW A N p t c):t=0->c=⟨A,units N,units N⟩:=by
 induction h with
 |start=>show λ_=>rfl
 |next _ c b=>
  intro a;cases c with
  |none l=>show b a
  |one g l=>cases a
def S8:∀N,N<9->∀t,t<N+1->Ez N 28 t<=50000000/\Vz N 28 t<=60000000:=by decide+kernel
def zu(N m:Nat):Nat:=if m=0 then 0 else Ez N 28 m
def NS:∀N,N<9->∀m,m<N+1->∀t,t<N-m+1->(Ez (N-m) (zu N m) t<=50000000/\Vz (N-m) (zu N m) t<=60000000)/\Vz N 28 m+8000+t*(Uz (N-m) (zu N m) t+1)<=130000000/\zu N m+t*(Uz (N-m) (zu N m) t+1)<=130000000:=by decide+kernel
end Mx
namespace Pl
structure SO{α:Type}(lt:α->α->Bool):Prop where
 uC:∀a,lt a a=false
 tr:∀a b c,lt a b=true->lt b c=true->lt a c=true
 Fy:∀a b,lt a b=false->lt b a=false->a=b
section
variable {α:Type}{lt:α->α->Bool}
def SO.HM(h:SO lt)(q:lt a b=true):lt b a=false:=by
 cases e:lt b a with
 |false=>rfl
 |true=>have:=h.tr _ _ _ q e;rw[h.uC]at this;cases this
def SO.le(h:SO lt)(p:lt b a=false)(q:lt c b=false):lt c a=false:=by
 cases e:lt c a with
 |false=>rfl
 |true=>
  cases d:lt b c with
  |true=>have:=h.tr _ _ _ d e;rw[p]at this;cases this
  |false=>have:=h.Fy _ _ q d;subst this;rw[p]at e;cases e
def SO.UG(h:SO lt)(p:lt a b=true)(q:lt c b=false):lt c a=false:=h.le (h.HM p) q
end
def sG{α β:Type}[DecidableEq α](d:α->α->Bool)(c:β->β->Bool)(a b:α×β):Bool:=if a.1=b.1 then c a.2 b.2 else d a.1 b.1
def vM{α β:Type}[DecidableEq α]{k:α->α->Bool}{h:β->β->Bool}(g:SO k)(f:SO h):SO (sG k h) where
 uC:=λa=>by unfold sG;rw[XB rfl];show f.uC _
 tr:=λa b c p q=>by
  unfold sG at*;by_cases d:a.1=b.1
  . by_cases e:b.1=c.1
    . rw[XB d]at p;rw[XB e]at q;rw[XB (d.trans e)];show f.tr _ _ _ p q
    rw[Xx e]at q;rw[Xx (by rw[d];show e),d];show q
  rw[Xx d]at p;by_cases e:b.1=c.1
  . rw[Xx (by rw[<-e];show d),<-e];show p
  rw[Xx e]at q;let r:=g.tr _ _ _ p q;rw[Xx (λz=>by rw[z,g.uC]at r;cases r)];show r
 Fy:=λa b p q=>by
  unfold sG at*;by_cases d:a.1=b.1
  . rw[XB d]at p;rw[XB d.symm]at q;show Prod.ext d (f.Fy _ _ p q)
  rw[Xx d]at p;rw[Xx (XI d)]at q;show absurd (g.Fy _ _ p q) d
def ltI(a b:Int):Bool:=decide (a<b)
def EM:SO ltI where
 uC:=λa=>XW ()
 tr:=λa b c p q=>X7 (by let:=aaC p;let:=aaC q;lia)
 Fy:=λa b p q=>by let:=Zu p;let:=Zu q;lia
def kn:List Int->List Int->Bool
 | [],[]=>false
 | [],_::_=>true
 |_::_,[]=>false
 |x::xs,y::ys=>if x=y then kn xs ys else decide (x<y)
def vL:∀a,kn a a=false
 | []=>rfl
 |x::xs=>by unfold kn;rw[XB rfl];show vL xs
def KJ:∀a b c,kn a b=true->kn b c=true->kn a c=true
 | [],[],_,p,_=>by cases p
 | [],_::_,[],_,q=>by cases q
 | [],_::_,_::_,_,_=>rfl
 |_::_,[],_,p,_=>by cases p
 |_::_,_::_,[],_,q=>by cases q
 |x::xs,y::ys,z::zs,p,q=>by
  unfold kn at*;by_cases e:x=y
  . by_cases d:y=z
    . rw[XB e]at p;rw[XB d]at q;rw[XB (e.trans d)];show KJ _ _ _ p q
    rw[Xx d]at q;rw[Xx (by rw[e];show d),e];show q
  rw[Xx e]at p;let p:=aaC p;by_cases d:y=z
  . rw[Xx ()];show X7 ()
  rw[Xx d]at q;let q:=aaC q;rw[Xx ()];show X7 ()
def GA:∀a b,kn a b=false->kn b a=false->a=b
 | [],[],_,_=>rfl
 | [],_::_,p,_=>by cases p
 |_::_,[],_,q=>by cases q
 |x::xs,y::ys,p,q=>by
  unfold kn at*;by_cases c:x=y
  . rw[XB c]at p;rw[XB c.symm]at q;rw[c,GA _ _ p q]
  rw[Xx c]at p;rw[Xx (XI c)]at q;let:=Zu p;let:=Zu q
  lia
def vY:SO kn:=⟨vL,KJ,GA⟩
abbrev Ky:=Int×List Int×Int×List Int
abbrev mO:Ky->Ky->Bool:=sG ltI (sG kn (sG ltI kn))
def oO:SO mO:=vM EM (vM vY (vM EM vY))
def C5:∀(n:Nat) (x:List Int),kn x (x.take n)=false
 |0,[]=>rfl
 |0,_::_=>rfl
 |_+1,[]=>rfl
 |n+1,x::xs=>by rw[List.take_succ_cons];unfold kn;rw[XB rfl];show C5 n xs
section
variable {α:Type}[DecidableEq α]{lt:α->α->Bool}{d:α}
def gs{l:List α}{i j:Nat}:(l.set i x).getD j d=if i=j/\i<l.length then x else l.getD j d:=by
 rw[XD,abf,XD];by_cases h:i=j
 . subst h;by_cases a:i<l.length
   . simp[a]
   simp[a]
 simp[h]
def jH{l:List α}{i j:Nat}(h:i≠j):(l.set i x).getD j d=l.getD j d:=by rw[gs,Xx λz=>h z.1]
def vU{l:List α}{i:Nat}(h:i<l.length):(l.set i x).getD i d=x:=by rw[gs,XB ⟨rfl,h⟩]
def Heap(lt:α->α->Bool)(d:α)(h:List α):Prop:=∀i,0<i->i<h.length->lt (h.getD i d) (h.getD ((i-1)/2) d)=false
def Heap.least(a:SO lt){h:List α}(c:Heap lt d h):∀i,i<h.length->lt (h.getD i d) (h.getD 0 d)=false:=λi=>by
 induction i using Nat.strongRecOn with
 |ind i b=>
  intro e;by_cases f:i=0
  . subst f;show a.uC _
  show a.le (b ((i-1)/2) () ()) (c i () e)
def swap_perm{l:List α}(f:p<l.length)(c:q<l.length)(b:p≠q):((l.set p (l.getD q d)).set q x).Perm (l.set p x):=by
 show List.perm_iff_count.mpr λa=>?_;let g:q<(l.set p (l.getD q d)).length:=by rw[XH];show c
 rw[abR g,abR f,abR f];rw[List.getElem_set_ne b];let e:l[q]=l.getD q d:=by rw[XD,XC c];rfl
 rw[e]
 let h:(if l[p]==a then 1 else 0)<=List.count a l:=by
  split
  . rename_i z;let:l[p]=a:=by simpa using z
    rw[<-this];show List.count_pos_iff.mpr (Yd _)
  lia
 generalize(if l[p]==a then 1 else 0)=u at*;generalize(if l.getD q d==a then 1 else 0)=v;generalize(if x==a then 1 else 0)=w;lia
structure Up(lt:α->α->Bool)(d:α)(L:List α)(p:Nat)(x:α):Prop where
 lp:p<L.length
 u:∀i,0<i->i<L.length->i≠p->lt ((L.set p x).getD i d) ((L.set p x).getD ((i-1)/2) d)=false
 v:0<p->∀i,0<i->i<L.length->(i-1)/2=p->lt ((L.set p x).getD i d) ((L.set p x).getD ((p-1)/2) d)=false
def Up.start{h:List α}(c:Heap lt d h):Up lt d (h++[x]) h.length x:=by
 let e:(h++[x]).set h.length x=h++[x]:=by simp
 let g:∀i,i<h.length->(h++[x]).getD i d=h.getD i d:=λi a=>by
  rw[XD,XA a,XD]
 show⟨by simp,λi b a k=>?_,λf i b a l=>?_⟩
 . have a:i<h.length:=by simp at a;lia
   rw[e,g i a,g _ ()];show c i b a
 simp at a;lia
def Up.done{L:List α}(U:Up lt d L p x)(h:p=0\/lt x (L.getD ((p-1)/2) d)=false):Heap lt d (L.set p x):=λi b a=>by
 rw[XH]at a;by_cases e:i=p
 . subst e;rcases h with h|h
   . lia
   rw[vU a,jH ()];show h
 show U.u i b a e
def Up.step(k:SO lt){L:List α}(U:Up lt d L p x)(y:0<p)(h:lt x (L.getD ((p-1)/2) d)=true):Up lt d (L.set p (L.getD ((p-1)/2) d)) ((p-1)/2) x:=by
 let z:=U.lp;let A:(p-1)/2<p:=()
 generalize s:(p-1)/2=q at*;let r:q<(L.set p (L.getD q d)).length:=by rw[XH];lia
 let f:∀j,j≠p->j≠q->((L.set p (L.getD q d)).set q x).getD j d=(L.set p x).getD j d:=λj c E=>by rw[jH (XI E),jH (XI c),jH (XI c)]
 let l:((L.set p (L.getD q d)).set q x).getD p d=L.getD q d:=by rw[jH (),vU z]
 let t:((L.set p (L.getD q d)).set q x).getD q d=x:=vU r;let m:∀j,j≠p->(L.set p x).getD j d=L.getD j d:=λj c=>jH (XI c);show⟨r,λi b a B=>?_,λw i b a C=>?_⟩
 . rw[XH]at a;by_cases e:i=p
   . subst e;rw[l,s,t];show k.HM h
   rw[f i e B];let u:=U.u i b a e;by_cases o:(i-1)/2=q
   . rw[o,t];rw[o,m q ()]at u;show k.UG h u
   by_cases n:(i-1)/2=p
   . rw[n,l];let v:=U.v y i b a n;rw[s,m q ()]at v;show v
   rw[f _ n o];show u
 rw[XH]at a;let g:=U.u q w () ();rw[f ((q-1)/2) () ()];by_cases e:i=p
 . subst e;rw[l];rw[m q ()]at g;show g
 rw[f i e ()];let u:=U.u i b a e;rw[C]at u;show k.le g u
structure Dn(lt:α->α->Bool)(d:α)(L:List α)(p:Nat)(x:α):Prop where
 lp:p<L.length
 u:∀i,0<i->i<L.length->i≠p->(i-1)/2≠p->lt ((L.set p x).getD i d) ((L.set p x).getD ((i-1)/2) d)=false
 v:0<p->∀i,0<i->i<L.length->(i-1)/2=p->lt ((L.set p x).getD i d) ((L.set p x).getD ((p-1)/2) d)=false
 w:0<p->lt x ((L.set p x).getD ((p-1)/2) d)=false
def Dn.start{h:List α}(c:Heap lt d h)(e:0<h.dropLast.length):Dn lt d h.dropLast 0 x:=by
 let g:∀i,i<h.dropLast.length->h.dropLast.getD i d=h.getD i d:=λi a=>by
  rw[XD,List.getElem?_dropLast,XB (by rw[Z_]at a;show a),XD]
 show⟨e,λi b a f k=>?_,λz=>by lia,λz=>by lia⟩;rw[jH (),jH (),g i a,g _ ()];show c i b (by rw[Z_]at a;lia)
def Dn.done(f:SO lt){L:List α}(U:Dn lt d L p x)(h:∀i,0<i->i<L.length->(i-1)/2=p->lt (L.getD i d) x=false):Heap lt d (L.set p x):=λi b a=>by
 rw[XH]at a;by_cases e:i=p
 . subst e;rw[vU a];show U.w b
 by_cases c:(i-1)/2=p
 . rw[c,vU U.lp,jH (XI e)];show h i b a c
 show U.u i b a e c
def Dn.step(r:SO lt){L:List α}(U:Dn lt d L p x)(b0:0<b)(A:b<L.length)(n:(b-1)/2=p)(z:∀i,0<i->i<L.length->(i-1)/2=p->lt (L.getD i d) (L.getD b d)=false)(h:lt (L.getD b d) x=true):Dn lt d (L.set p (L.getD b d)) b x:=by
 let s:=U.lp;let w:p<b:=()
 let t:b<(L.set p (L.getD b d)).length:=by rw[XH];lia
 let g:∀j,j≠p->j≠b->((L.set p (L.getD b d)).set b x).getD j d=(L.set p x).getD j d:=λj o B=>by rw[jH (XI B),jH (XI o),jH (XI o)]
 let f:((L.set p (L.getD b d)).set b x).getD p d=L.getD b d:=by rw[jH (),vU s]
 let q:(L.set p x).getD b d=L.getD b d:=jH ();show⟨t,λi c a y l=>?_,λ_ i c a m=>?_,λ_=>?_⟩
 . rw[XH]at a;by_cases e:i=p
   . subst e;rw[f,g ((i-1)/2) () ()];let v:=U.v c b b0 A n;rw[q]at v;show v
   rw[g i e y];by_cases k:(i-1)/2=p
   . rw[k,f,jH (XI e)];show z i c a k
   rw[g _ k l];show U.u i c a e k
 . rw[XH]at a;rw[n,f,g i () ()];let u:=U.u i c a () ();rw[m,q]at u;show u
 rw[n,f];show r.HM h
end
end Pl
namespace Pl
open Mx (aP bg g S Rows)
def iJ:List Int->List Int->List Int->Int
 |a::ns,l::ls,h::hs=>min (a*l) (a*h)+iJ ns ls hs
 |_,_,_=>0
def mf:List Int->List Int->List Int->Int
 |a::ns,l::ls,h::hs=>max (a*l) (a*h)+mf ns ls hs
 |_,_,_=>0
def FZ(a:List Int):aP a []=0:=by cases a<;>rfl
def uX:∀(p:Nat) (R x:List Int),aP R x=aP R (x.take p)+aP (R.drop p) (x.drop p)
 |0,R,x=>by simp[FZ]
 |_+1,[],x=>by simp;rfl
 |_+1,_::_,[]=>by simp[FZ]
 |p+1,a::R,y::x=>by
  let b:=uX p R x;change a*y+aP R x=(a*y+aP R (x.take p))+aP (R.drop p) (x.drop p);lia
def Bx:List Int->List Int->List Int->Prop
 |l::ls,h::hs,x::xs=>(l<=x/\x<=h)/\Bx ls hs xs
 | [],[],[]=>True
 |_,_,_=>False
def CP:∀ {l h x:List Int} (a:List Int),Bx l h x->a.length=x.length->iJ a l h<=aP a x/\aP a x<=mf a l h
 | [],[],[],[],_,_=>⟨aa0 _,aa0 _⟩
 |l::ls,h::hs,x::xs,a::as,⟨q,r⟩,e=>by
  let d:=CP as r (by simpa using e);change min (a*l) (a*h)+iJ as ls hs<=a*x+aP as xs/\a*x+aP as xs<=max (a*l) (a*h)+mf as ls hs
  let k:min (a*l) (a*h)<=a*x/\a*x<=max (a*l) (a*h):=by
   rcases Int.le_total 0 a with z|z
   . have c:=Zi q.1 z;let b:=Zi q.2 z;lia
   have c:=aaV z q.1;let b:=aaV z q.2;lia
  lia
def nu:∀ {l h x:List Int},Bx l h x->l.length=x.length/\h.length=x.length
 | [],[],[],_=>⟨rfl,rfl⟩
 |_::_,_::_,_::_,⟨_,r⟩=>by let:=nu r;simp[this]
def zG:∀ {l h x:List Int} (p:Nat),Bx l h x->Bx (l.drop p) (h.drop p) (x.drop p)
 |_,_,_,0,r=>r
 | [],[],[],_+1,_=>trivial
 |_::_,_::_,_::_,p+1,⟨_,r⟩=>zG p r
 | [],_::_,[],_+1,r=>r.elim
 | [],_::_,_::_,_+1,r=>r.elim
 | [],[],_::_,_+1,r=>r.elim
 |_::_,[],[],_+1,r=>r.elim
 |_::_,[],_::_,_+1,r=>r.elim
 |_::_,_::_,[],_+1,r=>r.elim
def Ho:∀ {l h x:List Int},Bx l h x->∀c,c<x.length->l.getD c 0<=x.getD c 0/\x.getD c 0<=h.getD c 0
 | [],[],[],_,_,a=>by cases a
 |_::_,_::_,_::_,⟨q,_⟩,0,_=>q
 |_::_,_::_,_::_,⟨_,r⟩,c+1,a=>by simpa using Ho r c (by simpa using a)
def Oi:∀ {l h x:List Int},l.length=x.length->h.length=x.length->(∀c,c<x.length->l.getD c 0<=x.getD c 0/\x.getD c 0<=h.getD c 0)->Bx l h x
 | [],[],[],_,_,_=>trivial
 | [],_::_,_,b,a,_=>absurd (b.trans a.symm) (by simp)
 |_::_,[],_,b,a,_=>absurd (b.trans a.symm) (by simp)
 |l::ls,h::hs,x::xs,b,a,k=>⟨by simpa using k 0 (by simp),Oi (by simpa using b) (by simpa using a) λc d=>by simpa using k (c+1) (by simpa using d)⟩
structure Tk where
 n:Nat
 m:Nat
 w:Nat
 c:List Int
 R:Rows
 d:List Int
 l:List Int
 h:List Int
 F:Rows
 ld:Nat->Nat
structure Tk.Ok(T:Tk):Prop where
 lc:T.c.length=T.n
 lR:Mx.dy T.w T.n T.R
 NJ:T.d.length=T.w
 ll:T.l.length=T.n
 lh:T.h.length=T.n
 lF:Mx.dy T.m T.n T.F
 st:Mx.fj T.F T.m T.n T.ld
section
variable {T:Tk}
def Tk.e9(T:Tk)(t:Nat):Nat:=if t<T.m then T.ld t else T.n
def Tk.cut(T:Tk)(t:Nat)(a:List Int):Int:=iJ (a.drop (T.e9 t)) (T.l.drop (T.e9 t)) (T.h.drop (T.e9 t))
def Tk.Me(T:Tk)(t:Nat)(a:List Int):Int:=mf (a.drop (T.e9 t)) (T.l.drop (T.e9 t)) (T.h.drop (T.e9 t))
def Tk.low(T:Tk)(t j:Nat):Int:=T.d.getD j 0-T.Me t (T.R.getD j [])
def Tk.high(T:Tk)(t j:Nat):Int:=T.d.getD j 0-T.cut t (T.R.getD j [])
def Tk.cost(T:Tk)(t:Nat)(row:List Int):Int:=aP T.c (row.take (T.e9 t))+T.cut t T.c
def Tk.key(T:Tk)(t:Nat)(row:List Int):Ky:=(T.cost t row,row.take (T.e9 t),(t:Int),row)
structure Tk.Open(T:Tk)(t:Nat)(row:List Int):Prop where
 box:∀c,c<T.e9 t->T.l.getD c 0<=row.getD c 0/\row.getD c 0<=T.h.getD c 0
 eqs:∀j,j<T.w->T.low t j<=aP (T.R.getD j []) (row.take (T.e9 t))/\aP (T.R.getD j []) (row.take (T.e9 t))<=T.high t j
structure Tk.fJ(T:Tk)(x:List Int):Prop where
 box:Bx T.l T.h x
 eqs:∀j,j<T.w->aP (T.R.getD j []) x=T.d.getD j 0
def Tk.l9(T:Tk)(t:Nat)(row x:List Int):Prop:=x.length=T.n/\∃z:Nat->Int,∀c,c<T.n->x.getD c 0=row.getD c 0+S (T.m-t) λk=>z k*g T.F (t+k) c
def Tk.Ok.yV(o:T.Ok)(t:Nat):T.e9 t<=T.n:=by
 unfold Tk.e9;split
 . rename_i h;show YN (o.st.lead t h).1
 show Xv _
def Tk.l9.same(o:T.Ok){row x:List Int}(u:T.l9 t row x)(f:t<=T.m):∀c,c<T.e9 t->x.getD c 0=row.getD c 0:=λc d=>by
 obtain⟨_,z,b⟩:=u;rw[b c (XR d (o.yV t)),Mx.lS (λk hk=>?_),YH];let a:t+k<T.m:=()
 let h:T.e9 t=T.ld t:=XB ()
 let g:T.ld t<=T.ld (t+k):=by
  by_cases e:k=0
  . subst e;show Xv _
  show YN (o.st.mono t (t+k) () a)
 rw[(o.st.lead (t+k) a).2.2 c (),Yv]
def Tk.l9.take(o:T.Ok){row x:List Int}(u:T.l9 t row x)(c:t<=T.m)(b:row.length=T.n):x.take (T.e9 t)=row.take (T.e9 t):=by
 let d:=o.yV t;show Mx.FP (n:=T.e9 t) (by rw[YD,u.1];lia) (by rw[YD,b];lia) λj a=>?_;let e:=u.same o c j a;rw[XD,Zc a,XD (l:=row.take _),Zc a,<-XD,<-XD];show e
def Tk.l9.VG(o:T.Ok){row x:List Int}(u:T.l9 t row x)(b:t<=T.m)(f:row.length=T.n)(s:T.fJ x):T.Open t row:=by
 let a:=u.1;show⟨λc e=>?_,λj d=>?_⟩
 . rw[<-u.same o b c e];show Ho s.box c (by rw[a];show XR e (o.yV t))
 rw[<-u.take o b f];let g:(T.R.getD j []).length=T.n:=o.lR.row d;let k:=CP ((T.R.getD j []).drop (T.e9 t)) (zG (T.e9 t) s.box) (by rw[YG,YG,g,a]);let h:=uX (T.e9 t) (T.R.getD j []) x;rw[s.eqs j d]at h;unfold Tk.low Tk.high Tk.cut Tk.Me;lia
def Tk.l9.Wi(o:T.Ok){row x:List Int}(u:T.l9 t row x)(b:t<=T.m)(a:row.length=T.n)(s:T.fJ x):T.cost t row<=aP T.c x:=by
 let d:=CP (T.c.drop (T.e9 t)) (zG (T.e9 t) s.box) (by rw[YG,YG,o.lc,u.1]);let c:=uX (T.e9 t) T.c x;unfold Tk.cost Tk.cut;rw[<-u.take o b a];lia
def Tk.jA(T:Tk)(t:Nat)(row:List Int):Int:= -((row.getD (T.ld t) 0-T.l.getD (T.ld t) 0).fdiv (g T.F t (T.ld t)))
def Tk.lst(T:Tk)(t:Nat)(row:List Int):Int:=(T.h.getD (T.ld t) 0-row.getD (T.ld t) 0).fdiv (g T.F t (T.ld t))
def Tk.l9.next(o:T.Ok){row x:List Int}(u:T.l9 t row x)(e:t<T.m)(l:row.length=T.n)(s:T.fJ x):∃z:Int,T.jA t row<=z/\z<=T.lst t row/\T.l9 (t+1) (bg row z (T.F.getD t [])) x:=by
 obtain⟨h,z,p⟩:=u;obtain⟨n,d,v⟩:=o.st.lead t e;let m:=o.lF.row e
 let a:∀c,c<T.n->x.getD c 0=(row.getD c 0+z 0*g T.F t c)+S (T.m-(t+1)) λk=>z (k+1)*g T.F (t+1+k) c:=λc b=>by
  rw[p c b,show T.m-t=(T.m-(t+1))+1 by lia,Mx.y_,abX];congr 2;show Mx.aG λk _=>by rw[show t+(k+1)=t+1+k by lia]
 let q:x.getD (T.ld t) 0=row.getD (T.ld t) 0+z 0*g T.F t (T.ld t):=by
  rw[a _ n,Mx.lS (λk hk=>?_),YH];let f:t+1+k<T.m:=()
  rw[(o.st.lead (t+1+k) f).2.2 _ (o.st.mono t (t+1+k) () f),Yv]
 let r:=Ho s.box (T.ld t) ();rw[q]at r;show⟨z 0,?_,?_,h,λk=>z (k+1),λc b=>?_⟩
 . unfold Tk.jA
   let: -(z 0)<=(row.getD (T.ld t) 0-T.l.getD (T.ld t) 0).fdiv (g T.F t (T.ld t)):=by
    rw[Ys _ ()];show(aaE d).mpr ?_;rw[Zq];lia
   lia
 . unfold Tk.lst;rw[Ys _ ()];show(aaE d).mpr ()
 rw[Mx.i_ (by rw[m];show l)];show a c b
def Tk.Open.sol(o:T.Ok){row:List Int}(h:T.Open T.m row)(d:row.length=T.n):T.fJ row:=by
 let f:T.e9 T.m=T.n:=Xx ();show⟨Oi (by rw[o.ll,d]) (by rw[o.lh,d]) λc k=>h.box c (by rw[f,<-d];show k),λj g=>?_⟩;let e:=h.eqs j g;let n:(T.R.getD j []).length=T.n:=o.lR.row g;unfold Tk.low Tk.high Tk.cut Tk.Me at e;rw[f,Yz (),ZY ()]at e;let m:∀a b,iJ [] a b=0:=λa b=>by unfold iJ;rfl
 let l:∀a b,mf [] a b=0:=λa b=>by unfold mf;rfl
 rw[m,l]at e;lia
abbrev ltB:Int×List Int->Int×List Int->Bool:=sG ltI kn
def Pf:SO ltB:=vM EM vY
structure Tk.Wt(T:Tk)(A:List Int->Prop)(H:List Ky):Prop where
 good:∀k∈H,∃t row,t<=T.m/\k=T.key t row/\row.length=T.n/\T.Open t row
 Xk:∀x,T.fJ x->A x->∃t row,T.key t row∈H/\t<=T.m/\row.length=T.n/\T.l9 t row x
def Sv(h:mO a b=false):a.1>=b.1/\(a.1=b.1->kn a.2.1 b.2.1=false):=by
 unfold mO sG at h;by_cases e:a.1=b.1
 . rw[XB e]at h;show⟨by lia,λ_=>?_⟩;by_cases c:a.2.1=b.2.1
   . rw[c];show vL _
   rw[Xx c]at h;show h
 rw[Xx e]at h;let:=Zu h;show⟨by lia,λz=>absurd z e⟩
def Tk.Wt.best(o:T.Ok)(h:T.Wt A H){row:List Int}(n:∀k∈H,mO k (T.key T.m row)=false)(w:row.length=T.n):∀x,T.fJ x->A x->ltB (aP T.c x,x) (aP T.c row,row)=false:=λx s a=>by
 obtain⟨t,r,hk,g,l,u⟩:=h.Xk x s a;obtain⟨f,c⟩:=Sv (n _ hk);let m:T.e9 T.m=T.n:=Xx ()
 let v:T.cost T.m row=aP T.c row:=by
  let p:∀a b,iJ [] a b=0:=λa b=>by unfold iJ;rfl
  unfold Tk.cost Tk.cut;rw[m,Yz (),ZY (by rw[o.lc];lia),p,YH]
 let q:row.take (T.e9 T.m)=row:=Yz ();let d:=u.Wi o g l s;let tk:=u.take o g l;unfold Tk.key at f c;dsimp only at f c;rw[v]at f c;rw[q,<-tk]at c;unfold ltB sG;dsimp only;by_cases e:aP T.c x=aP T.c row
 . rw[XB e];show vY.le (c ()) (C5 _ x)
 rw[Xx e];show XW ()
end
end Pl
namespace Pl
end Pl
namespace Prog
open PySem L2 L3
open PySem.Spec hiding items?
open PyProof.Rows hiding St
def dj{i j:Int}(b: -(2^64)<i)(a:i<2^64):IntMulOk i j:= .of_left (intBits_le_64 b a)
def GB{i j:Int}(b: -(2^64)<j)(a:j<2^64):IntMulOk i j:= .of_right (intBits_le_64 b a)
def isInt:D->Bool
 | .int _=>true
 |_=>false
abbrev ao(r:List Int):List D:=r.map D.int
abbrev aj(r:List Int):D:= .tup (ao r)
abbrev cm(r:List Int):D:= .lst (ao r)
abbrev cw(A:List (List Int)):D:= .tup (A.map aj)
abbrev N3(A:List (List Int)):D:= .lst (A.map cm)
def dg(st:ag):List D->List (List Int)->Prop
 | [],[]=>True
 |d::ds,r::rs=>items? st d=some (ao r)/\dg st ds rs
 |_,_=>False
structure ki(st:ag)(d:D)(A:List (List Int)):Prop where
 ex:∃ds,items? st d=some ds/\dg st ds A
def dg.len{st:ag}:∀ {a:List D} {A:List (List Int)},dg st a A->a.length=A.length
 | [],[],_=>rfl
 |_::_,_::_,h=>by simp[dg.len h.2]
def dg.tup{st:ag}:∀ {A:List (List Int)},dg st (A.map aj) A
 | []=>trivial
 |_::_=>⟨rfl,dg.tup⟩
def dg.lst{st:ag}:∀ {A:List (List Int)},dg st (A.map cm) A
 | []=>trivial
 |_::_=>⟨rfl,dg.lst⟩
def dg.get{st:ag}:∀ {a:List D} {A:List (List Int)} {i:Nat} {d:D},dg st a A->a[i]?=some d->∃r,A[i]?=some r/\items? st d=some (ao r)
 |_::_,r::_,0,_,h,e=>by simp at e;subst e;show⟨r,rfl,h.1⟩
 |_::_,_::_,i+1,d,h,e=>by
  obtain⟨r,c,b⟩:=dg.get (i:=i) (d:=d) h.2 (by simpa using e);show⟨r,by simpa using c,b⟩
def vO{st:ag}:ki st (cw A) A:=⟨_,rfl,dg.tup⟩
def Oy{st:ag}:ki st (N3 A) A:=⟨_,rfl,dg.lst⟩
structure Ext(st st':ag):Prop where
 len:st.length<=st'.length
 same:∀m,m<st.length->st'[m]?=st[m]?
def Ext.trans{st d c:ag}(a:Ext st d)(b:Ext d c):Ext st c:=⟨Xy a.len b.len,λm h=>(b.same m (XR h a.len)).trans (a.same m h)⟩
def Ext.push{st:ag}{c:List Cell}:Ext st (st++c):=⟨by simp,λm h=>XA h⟩
def Ext.set{st:ag}{b:ag}(a:Ext b st)(h:b.length<=n):Ext b (st.set n c):=⟨by rw[XH];show a.len,λm d=>by rw[Xu ()];show a.same m d⟩
def Ext.items{st a:ag}(x:Ext st a)(e:items? st d=some xs):items? a d=some xs:=by
 cases d with
 |ref n=>
  unfold items? at e⊢;simp only at e⊢;cases q:st[n]? with
  |none=>rw[q]at e;cases e
  |some c=>
   have b:=(Xs.mp q).1;rw[x.same n b];show e
 |_=>show e
def mT{r:List Int}{k:Nat}(h:k<r.length):eF (ao r) (k:Int)=some (.int (r.getD k 0)):=by
 show fb ?_;rw[XJ,XC h,Mx.aJ h];rfl
def getD_mem{r:List Int}{k:Nat}(h:k<r.length):r.getD k 0∈r:=by rw[Mx.aJ h];show Yd _
def dg.at{st:ag}{A:List (List Int)}{k:Nat}(h:dg st a A)(hk:k<A.length):∃d,eF a (k:Int)=some d/\items? st d=some (ao (A.getD k [])):=by
 let f:=h.len;let e:a[k]?=some a[k]:=XC ();obtain⟨r,b,c⟩:=h.get e;show⟨a[k],fb e,?_⟩;rw[Mx.aJ hk];rw[XC hk]at b;cases b;show c
def ints_app:ao r++[D.int x]=ao (r++[x]):=by simp[ao]
def xZ(h:d∈fF (ao r) (ao s)):∃a b,a∈r/\b∈s/\d= .tup [.int a,.int b]:=by
 obtain⟨n,k,e⟩:=Yh.mp h;let l:(fF (ao r) (ao s))[n]?=some d:=by rw[XC k,e]
 obtain⟨x,y,ex,c,rfl⟩:=n6 l;rw[XJ]at ex c;cases g:r[n]? with
 |none=>rw[g]at ex;cases ex
 |some a=>
  cases f:s[n]? with
  |none=>rw[f]at c;cases c
  |some b=>
   rw[g]at ex;rw[f]at c;cases ex;cases c;show⟨a,b,XS g,XS f,rfl⟩
def LQ(n:Nat):(List.replicate n [D.int 0]).flatten=ao (List.replicate n 0):=by
 induction n with
 |zero=>rfl
 |succ n a=>rw[Yw,YZ,a];rfl
def Kd:fF (x::xs) (y::ys)= .tup [x,y]::fF xs ys:=rfl
def P_:(ao r).all (pl n)=true:=by
 show Yu.mpr λd a=>?_;obtain⟨i,_,rfl⟩:=X8.mp a;cases n<;>rfl
def aI:Addr:=186
def dF:Addr:=271
def aU:Addr:=332
def b9:Addr:=388
def bV:Addr:=447
abbrev fP(b:Bool):Cell:=Cell.tab 166 ⟨84,32,84,66⟩ "Bench.live_rows.<locals>.<lambda>" b
abbrev TB:List (Addr×Pos×Str):=[(166,⟨84,32,84,66⟩,"Bench.live_rows.<locals>.<lambda>")]
def Nl{a:Int}(h:a.natAbs<2^m):Builtin.Int.intBits a<=m:=by
 unfold Builtin.Int.intBits;by_cases b:a.natAbs=0
 . have:a=0:=()
   subst this;simp
 have:=(Nat.log2_lt b).mpr h;split<;>lia
def fx{a b:Int}(d:a.natAbs<=2^m)(c:b.natAbs<=2^n)(h:m+n<=130000000):IntMulOk a b:=by
 let q:∀ {x:Int} {k:Nat},x.natAbs<=2^k->Builtin.Int.intBits x<=k+1:=λ{x k} h=>Nl (Nat.lt_of_le_of_lt h (Nat.pow_lt_pow_right ⋯ (Yp k)));let g:=q d;let f:=q c;let e:(2:Nat)^27=134217728:=by decide
 let z:Builtin.Int.intTooBig (Builtin.Int.intBits a+Builtin.Int.intBits b)=false:=by
  unfold Builtin.Int.intTooBig bitsLine;show XW ()
 unfold IntMulOk;rw[z];simp
def xl:cf:=λc st K=>∃a b,c=[.int a,.int b]/\K (.int ((Nat.gcd a.natAbs b.natAbs:Nat):Int)) st
def EJ:List Str:=["one","other","great","small","rest"]
def L8:DS:=(aw (aK 2 (bS uN (ae (aa 0) ai)))
 (aw (aK 3 (bS uN (ae (aa 1) ai)))
 (aw (nq (aQ (ak nj (aa 3) (dC (.int 0)))) (aw (aK 4 (ak mJ (aa 2) (aa 3)))
 (aw (aK 2 (aa 3))
 (aK 3 (aa 4)))))
 (aX (aa 2)))))
def Mb(a b:Nat):(a:Int).fmod (b:Int)=((a%b:Nat):Int):=by
 rw[Int.fmod_eq_emod_of_nonneg _ (aao b)];show(Int.natCast_emod a b).symm
abbrev Xq(S:cf)(n:Nat)(P:DS)(N:List Str):Prop:=∀ds st K,S ds st K->ds.length=n/\P {nx:=λ_ st'=>K .av st',rt:=K} (aL N ds) st
def IX:Xq xl 2 L8 EJ:=by
 rintro e st K ⟨a,b,rfl,k⟩;show⟨rfl,?_⟩;show yJ (yJ ?_);show⟨λm σ c=>∃(g s:Nat) (r:Option D),σ=[some (.int a),some (.int b),some (.int g),some (.int s),r]/\c=st/\Nat.gcd g s=Nat.gcd a.natAbs b.natAbs/\s=m,⟨b.natAbs,a.natAbs,b.natAbs,none,?_,rfl,rfl,rfl⟩,?_⟩
 . rfl
 rintro m σ c ⟨g,s,r,rfl,rfl,d,rfl⟩;show ne2 (λh=>dN ?_) λh=>?_
 . show qC h ⟨g%s,Nat.mod_lt _ (),s,g%s,some (.int ((g%s:Nat):Int)),?_,rfl,?_,rfl⟩
   . rw[Mb];rfl
   rw[ab1,<-Nat.gcd_rec,ab1];show d
 have:s=0:=()
 subst this;rw[Nat.gcd_zero_right]at d;subst d;show k
abbrev lY(q:Rat):D:= .tup [.int q.num,.int ((q.den:Nat):Int)]
def qv:cf:=λa st K=>∃(t b:Int),a=[.int t,.int b]/\b≠0/\K (lY (Rat.divInt t b)) st
def Lo:List Str:=["top","bottom","shrink"]
def S7:DS:=(aw (aK 2 (aA xl (ae (aa 0) (ae (aa 1) ai))))
 (aw (cK (aQ (ak sH (aa 1) (dC (.int 0)))) (aK 2 (nU jd (aa 2))) cF)
 (aX (df (ae (ak kH (aa 0) (aa 2)) (ae (ak kH (aa 1) (aa 2)) ai))))))
def vG{g t:Int}(a:g≠0)(h:g∣t):t.fdiv (-g)=(-1*t).fdiv g:=by
 obtain⟨c,rfl⟩:=h
 let d:(g*c).fdiv (-g)= -c:=by
  let:g*c=(-g)*(-c):=by rw[Int.neg_mul_neg]
  rw[this,abx _ ()]
 let b:(-1*(g*c)).fdiv g= -c:=by
  let: -1*(g*c)=g*(-c):=by rw[Zq,ZD,Int.mul_neg]
  rw[this,abx _ a]
 rw[d,b]
def Ln(t b:Int):((Nat.gcd t.natAbs b.natAbs:Nat):Int)∣t:=Int.ofNat_dvd_left.mpr (Nat.gcd_dvd_left _ _)
def KD(t b:Int):((Nat.gcd t.natAbs b.natAbs:Nat):Int)∣b:=Int.ofNat_dvd_left.mpr (Nat.gcd_dvd_right _ _)
def OM{t b:Int}(d:b≠0):D.tup [.int (((if b<0 then(-1:Int)else 1)*t).fdiv ((Nat.gcd t.natAbs b.natAbs:Nat):Int)),.int (((if b<0 then(-1:Int)else 1)*b).fdiv ((Nat.gcd t.natAbs b.natAbs:Nat):Int))]=lY (Rat.divInt t b):=by
 unfold lY;let c:(b.gcd t:Nat)=Nat.gcd t.natAbs b.natAbs:=by unfold Int.gcd;rw[ab1]
 let a:(if b<0 then(-1:Int)else 1)=b.sign:=by
  rcases Int.lt_trichotomy b 0 with h|h|h
  . rw[XB h,Int.sign_eq_neg_one_of_neg h]
  . show absurd h d
  rw[Xx (),Int.sign_eq_one_of_pos h]
 let f:(Rat.divInt t b).num=((if b<0 then(-1:Int)else 1)*t).fdiv ((Nat.gcd t.natAbs b.natAbs:Nat):Int):=by
  rw[Rat.num_divInt,a,c,Ys _ (aao _)]
 let e:(((Rat.divInt t b).den:Nat):Int)=((if b<0 then(-1:Int)else 1)*b).fdiv ((Nat.gcd t.natAbs b.natAbs:Nat):Int):=by
  rw[Rat.den_divInt,Xx d,a,c,Ys _ (aao _),Int.natCast_ediv];congr 1;rw[Int.sign_mul_self]
 rw[f,e]
def PF:Xq qv 2 S7 Lo:=by
 rintro e st K ⟨t,b,rfl,d,k⟩;show⟨rfl,?_⟩;show⟨t,b,rfl,?_⟩
 let c:Nat.gcd t.natAbs b.natAbs≠0:=λz=>by
  let:=Nat.eq_zero_of_gcd_eq_zero_right z;lia
 let a:((Nat.gcd t.natAbs b.natAbs:Nat):Int)≠0:=()
 rw[<-OM d]at k;show N_ (λh=>dN ?_) λh=>?_
 . rw[XB h,<-vG a (Ln t b),<-vG a (KD t b)]at k;show jb (jv () (jv () ⟨Xz rfl,k⟩))
 rw[Xx (),ZD,ZD]at k;show jv a (jv a ⟨Xz rfl,k⟩)
structure Fq(st:ag)(d:D)(q:Rat)(m:Nat):Prop where
 aq:items? st d=some [.int q.num,.int ((q.den:Nat):Int)]
 sz:Mx.Sz q m
def Fq.b{st:ag}{q:Rat}(h:Fq st d q m):(((q.den:Nat):Int)).natAbs<=2^m:=h.sz.den
def Fq.of{st:ag}(h:Mx.Sz q m):Fq st (lY q) q m:=⟨rfl,h⟩
def Dm:cf:=λc st K=>∃x y p q a b,c=[x,y]/\Fq st x p a/\Fq st y q b/\a+b<=130000000/\K (lY (p+q)) st
def LJ:List Str:=["one","other"]
def QX:DS:=(aX (aA qv (ae (ak cW (ak cP (ak aN (aa 0) (dC (.int 0))) (ak aN (aa 1) (dC (.int 1)))) (ak cP (ak aN (aa 1) (dC (.int 0))) (ak aN (aa 0) (dC (.int 1))))) (ae (ak cP (ak aN (aa 0) (dC (.int 1))) (ak aN (aa 1) (dC (.int 1)))) ai))))
def O5:Xq Dm 2 QX LJ:=by
 rintro d st K ⟨x,y,p,q,a,b,rfl,X,Y,h,k⟩;show⟨rfl,?_⟩;let c:b+a<=130000000:=()
 rw[Mx.add_eq]at k;show aB X.aq rfl (aB Y.aq rfl (cR (fx X.sz.num Y.b h) (aB Y.aq rfl (aB X.aq rfl (cR (fx Y.sz.num X.b c) (c_ (aB X.aq rfl (aB Y.aq rfl (cR (fx X.b Y.b h) ⟨_,_,rfl,Ze (Mx.den_nz p) (Mx.den_nz q),k⟩)))))))))
def zZ:cf:=λc st K=>∃x y p q a b,c=[x,y]/\Fq st x p a/\Fq st y q b/\a+b<=130000000/\K (lY (p-q)) st
def F9:List Str:=["one","other"]
def Px:DS:=(aX (aA qv (ae (ak jr (ak cP (ak aN (aa 0) (dC (.int 0))) (ak aN (aa 1) (dC (.int 1)))) (ak cP (ak aN (aa 1) (dC (.int 0))) (ak aN (aa 0) (dC (.int 1))))) (ae (ak cP (ak aN (aa 0) (dC (.int 1))) (ak aN (aa 1) (dC (.int 1)))) ai))))
def LZ:Xq zZ 2 Px F9:=by
 rintro d st K ⟨x,y,p,q,a,b,rfl,X,Y,h,k⟩;show⟨rfl,?_⟩;let c:b+a<=130000000:=()
 rw[Mx.sub_eq]at k;show aB X.aq rfl (aB Y.aq rfl (cR (fx X.sz.num Y.b h) (aB Y.aq rfl (aB X.aq rfl (cR (fx Y.sz.num X.b c) (gX (aB X.aq rfl (aB Y.aq rfl (cR (fx X.b Y.b h) ⟨_,_,rfl,Ze (Mx.den_nz p) (Mx.den_nz q),k⟩)))))))))
def zR:cf:=λc st K=>∃x y p q a b,c=[x,y]/\Fq st x p a/\Fq st y q b/\a+b<=130000000/\K (lY (p*q)) st
def FY:List Str:=["one","other"]
def Pg:DS:=(aX (aA qv (ae (ak cP (ak aN (aa 0) (dC (.int 0))) (ak aN (aa 1) (dC (.int 0)))) (ae (ak cP (ak aN (aa 0) (dC (.int 1))) (ak aN (aa 1) (dC (.int 1)))) ai))))
def MH:Xq zR 2 Pg FY:=by
 rintro c st K ⟨x,y,p,q,a,b,rfl,X,Y,h,k⟩;show⟨rfl,?_⟩;rw[Mx.mul_eq]at k;show aB X.aq rfl (aB Y.aq rfl (cR (fx X.sz.num Y.sz.num h) (aB X.aq rfl (aB Y.aq rfl (cR (fx X.b Y.b h) ⟨_,_,rfl,Ze (Mx.den_nz p) (Mx.den_nz q),k⟩)))))
def EA:cf:=λc st K=>∃x y p q a b,c=[x,y]/\Fq st x p a/\Fq st y q b/\a+b<=130000000/\q.num≠0/\K (lY (p/q)) st
def Kt:List Str:=["one","other"]
def Td:DS:=(aX (aA qv (ae (ak cP (ak aN (aa 0) (dC (.int 0))) (ak aN (aa 1) (dC (.int 1)))) (ae (ak cP (ak aN (aa 0) (dC (.int 1))) (ak aN (aa 1) (dC (.int 0)))) ai))))
def Pm:Xq EA 2 Td Kt:=by
 rintro d st K ⟨x,y,p,q,a,b,rfl,X,Y,h,c,k⟩;show⟨rfl,?_⟩;rw[Mx.div_eq]at k;show aB X.aq rfl (aB Y.aq rfl (cR (fx X.sz.num Y.b h) (aB X.aq rfl (aB Y.aq rfl (cR (fx X.b Y.sz.num h) ⟨_,_,rfl,Ze (Mx.den_nz p) c,k⟩)))))
def oq:cf:=λa st K=>∃n:Int,a=[.int n]/\K (lY (n:Rat)) st
def Fx:List Str:=["n"]
def OU:DS:=(aX (df (ae (aa 0) (ae (dC (.int 1)) ai))))
def Ms:Xq oq 1 OU Fx:=by
 rintro a st K ⟨n,rfl,k⟩;show⟨rfl,Xz rfl,k⟩
def qY:cf:=λa st K=>∃(d:D) (A:List (List Int)),a=[d]/\ki st d A/\A.length<=1000/\K (cw A) st
def AO:List Str:=["rows"]
def JR:DS:=(aX (bS cY (ae (dW (fU (aa 0)) [none] (cM 0) cT (bS cY (ae (aa 0) ai))) ai)))
def nI{st:ag}{K:List D->ag->Prop}{A:List (List Int)}(f:List Int->D)(t:ok st)(w:dg st s A)(v:∀d r,r∈A->items? st d=some (ao r)->∀u,u (f r) st->∃l,n d m=some l/\o l st u)(k:K (A.map f) st):eB n cT o ok m s [] st K:=by
 show gY (λrest c b=>∃(e a:List (List Int)),st=b/\e++a=A/\dg st rest a/\c=e.map f) ?_ ?_ _ _ _ ⟨[],A,rfl,rfl,w,rfl⟩
 . rintro c b ⟨e,a,rfl,g,h,rfl⟩;match a,h with
   | [],_=>
     rw[Zb]at g;subst g;show⟨t,k⟩
 rintro d rest c b ⟨e,a,rfl,g,h,rfl⟩ next
 match a,h with
 |r::a,h=>
  obtain⟨l,x,q⟩:=v d r (by rw[<-g];simp) h.1 (λy p=>eB n cT o ok m rest (e.map f++[y]) p K) (next _ _ ⟨e++[r],a,rfl,by rw[<-g];simp,h.2,by simp⟩);show⟨t,l,x,q⟩
def Hn:Xq qY 1 JR AO:=by
 rintro l st K ⟨d,A,rfl,⟨m,f,a⟩,b,k⟩;show⟨rfl,?_⟩;show zl f λok g=>⟨cD (by rw[a.len];show b),?_⟩
 show nI aj g a (λe r h c n q=>⟨_,rfl,cL c q⟩) ?_;show cL rfl k
def mW:cf:=λa st K=>∃x y t r s,a=[x,.int t,y]/\items? st x=some (ao r)/\items? st y=some (ao s)/\r.length<=1000/\(∀b∈s,IntMulOk t b)/\K (cm (Mx.bg r t s)) st
def FF:List Str:=["row","times","other"]
def OE:DS:=(aX (dW (pB (ae (aa 0) (ae (aa 2) ai))) [none,none,some 1] (gN 0 1) cT (ak cW (aa 0) (ak cP (aa 2) (aa 1)))))
def vb:∀(r s:List Int),(fF (ao r) (ao s)).map (λd=>match d with| .tup [.int a,.int b]=> .int (a+t*b)|_=> .av)=ao (Mx.bg r t s)
 | [],_=>rfl
 |_::_,[]=>rfl
 |a::r,b::s=>by
  let:=vb (t:=t) r s;unfold fF Mx.bg at this⊢;simp![ao,Yg,List.zip_cons_cons,List.zipWith_cons_cons]at this⊢;rw[this]
def Mf:Xq mW 3 OE FF:=by
 rintro p st K ⟨x,y,t,r,s,rfl,e,c,n,f,k⟩;show⟨rfl,?_⟩;show lQ e c λok m=>⟨cD (by rw[gD];simp;lia),?_⟩
 show comp_map (g:=λd=>match d with| .tup [.int a,.int b]=> .int (a+t*b)|_=> .av) (m st e c) _ (λd h u q=>?_) ?_
 . obtain⟨a,b,o,l,rfl⟩:=xZ h;show⟨_,rfl,cR (f b l) (c_ q)⟩
 rw[vb];show k
def xw:cf:=λc st K=>∃(x y:D) (n:Nat) (a:List Int) (A:List (List Int)),c=[x,y,.int n]/\items? st x=some (ao a)/\ki st y A/\(∀r∈A,r.length=n)/\n<=1000/\(∀w∈a,∀r∈A,∀b∈r,IntMulOk w b)/\K (aj (Mx.fT a A (List.replicate n 0))) st
def EL:List Str:=["weights","rows","wide","total","weight","row"]
def Na:DS:=(aw (aK 3 (ak cP (Av (ae (dC (.int 0)) ai)) (aa 2)))
 (aw (j5 (pB (ae (aa 0) (ae (aa 1) ai))) (gN 4 5) (aK 3 (aA mW (ae (aa 3) (ae (aa 4) (ae (aa 5) ai))))))
 (aX (bS cY (ae (aa 3) ai)))))
def Lk:Xq xw 3 Na EL:=by
 rintro Q st K ⟨x,y,n,s,A,rfl,C,⟨O,B,L⟩,I,P,M,k⟩;show⟨rfl,?_⟩;show WU (Xz rfl) (Qc ⟨by lia,by lia,cD (by simp;lia)⟩ ?_);rw[Yb,LQ];show lQ C B λok H=>?_
 show jS (λrest σ z=>∃(u t:Option D) (a:List Int) (f:List D) (m:List (List Int)) (c:List Int),st=z/\rest=fF (ao a) f/\dg st f m/\σ=[some x,some y,some (.int n),some (cm c),u,t]/\c.length=n/\(∀r∈m,r∈A)/\(∀w∈a,w∈s)/\Mx.fT a m c=Mx.fT s A (List.replicate n 0)) ?_ ?_ _ _ _
  ⟨none,none,s,O,A,List.replicate n 0,rfl,rfl,L,rfl,by simp,λ_ h=>h,λ_ h=>h,rfl⟩
 . rintro σ v ⟨u,t,a,f,m,c,rfl,l,g,rfl,G,_,_,p⟩;show⟨H _ C B,cL rfl ?_⟩
   let:Mx.fT a m c=c:=by
    match a,f,m,g,l with
    | [],_,_,_,_=>unfold Mx.fT;rfl
    |_::_,[],[],_,_=>unfold Mx.fT;rfl
    |_::_,_::_,_::_,_,l=>cases l
   rw[this]at p;rw[p];show k
 rintro d rest σ v ⟨u,t,a,f,m,c,rfl,l,g,rfl,G,F,o,p⟩ next
 match a,f,m,g,l with
 |w::a,e::f,r::m,g,l=>
  simp![ao,Yg,Kd,aaS]at l;obtain⟨rfl,rfl⟩:=l;show⟨H _ C B,_,rfl,?_⟩;let J:=I r (F r XX);show⟨_,_,_,c,r,rfl,rfl,g.1,by lia,λb N=>M w (o w XX) r (F r XX) b N,?_⟩;show next _ _ ⟨_,_,a,f,m,Mx.bg c w r,rfl,rfl,g.2,rfl,by rw[Mx.fR ()];show G,λq E=>F q (XN _ E),λq E=>o q (XN _ E),?_⟩
  rw[<-p];rfl
 | [],_,_,_,l=>cases l
 |_::_,[],[],_,l=>cases l
def xC:cf:=λa st K=>∃(d:D) (A:List (List Int)) (j:Nat),a=[d,.int j]/\ki st d A/\(∀r∈A,j<r.length)/\A.length<=1000/\K (aj (Mx.sO A j)) st
def CF:List Str:=["rows","place"]
def MB:DS:=(aX (bS cY (ae (dW (fU (aa 0)) [none,some 1] (cM 0) cT (ak aN (aa 0) (aa 1))) ai)))
def Kk{st:ag}{K:List D->ag->Prop}{A:List (List Int)}(f:List Int->D)(t:ok st)(w:dg st s A)(v:∀d r,r∈A->items? st d=some (ao r)->∀u,u (f r) st->∃l,n d m=some l/\o l st u)(k:K (A.map f) st):eB n cT o ok m s [] st K:=by
 show gY (λrest c b=>∃(e a:List (List Int)),st=b/\e++a=A/\dg st rest a/\c=e.map f) ?_ ?_ _ _ _ ⟨[],A,rfl,rfl,w,rfl⟩
 . rintro c b ⟨e,a,rfl,g,h,rfl⟩;match a,h with
   | [],_=>
     rw[Zb]at g;subst g;show⟨t,k⟩
 rintro d rest c b ⟨e,a,rfl,g,h,rfl⟩ next
 match a,h with
 |r::a,h=>
  obtain⟨l,x,q⟩:=v d r (by rw[<-g];simp) h.1 (λy p=>eB n cT o ok m rest (e.map f++[y]) p K) (next _ _ ⟨e++[r],a,rfl,by rw[<-g];simp,h.2,by simp⟩);show⟨t,l,x,q⟩
def KH(A:List (List Int))(j:Nat):A.map (λr=>D.int (r.getD j 0))=ao (Mx.sO A j):=by unfold Mx.sO ao;rw[X6];rfl
def Lw:Xq xC 2 MB CF:=by
 rintro m st K ⟨d,A,j,rfl,⟨n,h,a⟩,f,c,k⟩;show⟨rfl,?_⟩;show zl h λok l=>⟨cD (by rw[a.len];show c),?_⟩
 show Kk (λr=> .int (r.getD j 0)) l a (λe r b g o q=>⟨_,rfl,aB g (mT (f r b)) q⟩) ?_;rw[KH];show cL rfl k
def mi:cf:=λa st K=>∃(d:D) (A:List (List Int)) (n:Nat),a=[d,.int n]/\ki st d A/\(∀r∈A,r.length=n)/\A.length<=1000/\n<=1000/\K (cw (Mx.jk A n)) st
def t9:List Str:=["rows","wide"]
def BZ:DS:=(aX (bS cY (ae (dW (gO (ae (aa 1) ai)) [none,some 0] (cM 0) cT (aA xC (ae (aa 1) (ae (aa 0) ai)))) ai)))
def Nn(A:List (List Int))(n:Nat):(List.range n).map (λj=>aj (Mx.sO A j))=(Mx.jk A n).map aj:=by unfold Mx.jk;rw[X6];rfl
def Ai:Xq mi 2 BZ t9:=by
 rintro h st K ⟨d,A,n,rfl,f,a,c,g,k⟩;show⟨rfl,?_⟩;show jT ⟨by lia,by lia⟩ ⟨cD (by rw[jG];lia),?_⟩;rw[Yb];show tX (λj=>aj (Mx.sO A j)) n (λi e l q=>⟨_,rfl,d,A,i,rfl,f,λr b=>by rw[a r b];show e,c,q⟩) ?_;rw[Nn];show cL rfl k
def sZ:cf:=λa st K=>∃(n i:Nat),a=[.int n,.int i]/\n<=1000/\K (aj (Mx.m6 n i)) st
def yO:List Str:=["n","place"]
def Iz:DS:=(aX (bS cY (ae (dW (gO (ae (aa 0) ai)) [none,some 1] (cM 0) cT (JZ (aQ (ak i8 (aa 0) (aa 1))) (dC (.int 1)) (dC (.int 0)))) ai)))
def EV:Xq sZ 2 Iz yO:=by
 rintro c st K ⟨n,i,rfl,a,k⟩;show⟨rfl,?_⟩;show jT ⟨by lia,by lia⟩ ⟨cD (by rw[jG];lia),?_⟩;rw[Yb];show tX (λj=> .int (Mx.dl j i)) n (λj b d q=>⟨_,rfl,?_⟩) ?_
 . show eq2 (λh=>dN ?_) λh=>?_
   . have:j=i:=()
     subst this;rw[Mx.fS]at q;show q
   rw[Mx.gv ()]at q;show q
 have:(List.range n).map (λj=>D.int (Mx.dl j i))=ao (Mx.m6 n i):=by unfold Mx.m6 ao;rw[X6];rfl
 rw[this];show cL rfl k
def oA:cf:=λa st K=>∃(n:Nat),a=[.int n]/\n<=1000/\K (cw (Mx.units n)) st
def wI:List Str:=["n"]
def Fd:DS:=(aX (bS cY (ae (dW (gO (ae (aa 0) ai)) [none,some 0] (cM 0) cT (aA sZ (ae (aa 1) (ae (aa 0) ai)))) ai)))
def D7:Xq oA 1 Fd wI:=by
 rintro c st K ⟨n,rfl,a,k⟩;show⟨rfl,?_⟩;show jT ⟨by lia,by lia⟩ ⟨cD (by rw[jG];lia),?_⟩;rw[Yb];show tX (λi=>aj (Mx.m6 n i)) n (λi b d q=>⟨_,rfl,n,i,rfl,a,q⟩) ?_;let:(List.range n).map (λi=>aj (Mx.m6 n i))=(Mx.units n).map aj:=by unfold Mx.units;rw[X6];rfl
 rw[this];show cL rfl k
def wa:cf:=λc st K=>∃(x y:D) (r s:List Int),c=[x,y]/\items? st x=some (ao r)/\items? st y=some (ao s)/\r.length<=1000/\(∀a∈r,∀b∈s,IntMulOk a b)/\K (.int (Mx.aP r s)) st
def Oq:List Str:=["one","other"]
def TY:DS:=(aX (bS uR (ae (dW (pB (ae (aa 0) (ae (aa 1) ai))) [none,none] (gN 0 1) cT (ak cP (aa 0) (aa 1))) ai)))
def FK:∀(r s:List Int),∃ns:List Int,(fF (ao r) (ao s)).map (λd=>match d with| .tup [.int a,.int b]=> .int (a*b)|_=> .av)=ao ns/\ns.sum=Mx.aP r s
 | [],_=>⟨[],rfl,rfl⟩
 |_::_,[]=>⟨[],rfl,rfl⟩
 |a::r,b::s=>by
  obtain⟨ns,f,c⟩:=FK r s;show⟨a*b::ns,?_,?_⟩
  . have e:fF (ao (a::r)) (ao (b::s))= .tup [.int a,.int b]::fF (ao r) (ao s):=rfl;rw[e,Yg,f];rfl
  rw[ZQ,c];rfl
def Lh:Xq wa 2 TY Oq:=by
 rintro v st K ⟨x,y,r,s,rfl,e,c,u,f,k⟩;show⟨rfl,?_⟩;show lQ e c λok p=>⟨cD (by rw[gD];simp;lia),?_⟩
 obtain⟨t,o,n⟩:=FK r s;show comp_map (g:=λd=>match d with| .tup [.int a,.int b]=> .int (a*b)|_=> .av) (p st e c) _ (λd h w q=>?_) ?_
 . obtain⟨a,b,m,l,rfl⟩:=xZ h;show⟨_,rfl,cR (f a m b l) q⟩
 rw[o];show CT (ints_map _) ?_;rw[n];show k
def lB:List Int->Nat->Option Nat
 | [],_=>none
 |x::xs,i=>if x=0 then lB xs (i+1)else some i
def qk(r:List Int):Option Nat:=lB r 0
def jt(r:List Int):D:=match qk r with
 |some k=> .int (k:Int)
 |none=> .av
def iG:cf:=λa st K=>∃(d:D) (r:List Int),a=[d]/\items? st d=some (ao r)/\K (jt r) st
def Bz:List Str:=["row","place","number"]
def Lm:DS:=(aw (j5 (HA (ae (aa 0) ai)) (gN 1 2) (cK (aQ (ak nj (aa 2) (dC (.int 0)))) (aX (aa 1)) cF))
 (aX (dC .av)))
def G0:Xq iG 1 Lm Bz:=by
 rintro m st K ⟨d,r,rfl,g,k⟩;show⟨rfl,?_⟩;show Pj g λok l=>?_;show jS (λrest σ b=>b=st/\∃(f e:Option D) (s:List Int) (i:Nat),σ=[some d,f,e]/\rest=l_ i (ao s)/\lB r 0=lB s i) ?_ ?_ _ _ _ ⟨rfl,none,none,r,0,rfl,rfl,rfl⟩
 . rintro σ b ⟨rfl,f,e,s,i,rfl,a,c⟩;match s,a with
   | [],_=>
     show⟨l _ g,?_⟩;let:jt r= .av:=by unfold jt qk;rw[c];rfl
     rw[this]at k;show k
 rintro x rest σ b ⟨rfl,f,e,s,i,rfl,a,c⟩ next
 match s,a,c with
 |y::s,a,c=>
  simp![ao,Yg,l_,aaS]at a;obtain⟨rfl,rfl⟩:=a;show⟨l _ g,_,rfl,?_⟩;show ne2 (λh=>dN ?_) λh=>?_
  . have:jt r= .int (i:Int):=by unfold jt qk;rw[c];unfold lB;rw[Xx h]
    rw[this]at k;show k
  show next _ _ ⟨rfl,_,_,s,i+1,rfl,rfl,?_⟩
  rw[c];unfold lB;rw[XB h];cases s<;>rfl
 | [],a,_=>cases a
def DX:∀(r:List Int) (i l:Nat),(∀c,c<l->r.getD c 0=0)->r.getD l 0≠0->lB r i=some (i+l)
 | [],_,_,_,h=>(h rfl).elim
 |x::r,i,0,_,h=>by
  unfold lB;rw[Xx (show¬x=0 from h)];rfl
 |x::r,i,l+1,a,h=>by
  unfold lB;rw[XB (show x=0 from a 0 (Nat.zero_lt_succ _)),DX r (i+1) l (λc b=>a (c+1) (abw b)) h,Nat.add_right_comm];rfl
def yu:∀(r:List Int) (i:Nat),lB r i=none->∀c,r.getD c 0=0
 | [],_,_,_=>rfl
 |x::r,i,h,c=>by
  unfold lB at h;split at h
  . cases c with
    |zero=>assumption
    |succ c=>show yu r (i+1) h c
  cases h
def Bf{r:List Int}(h:∀c,c<l->r.getD c 0=0)(h':r.getD l 0≠0):qk r=some l:=by
 let:=DX r 0 l h h';rw[Z5]at this;show this
def kG:cf:=λa st K=>∃(t d:Int),a=[.int t,.int d]/\d≠0/\K (.int (Mx.qn t d)) st
def oM:List Str:=["top","bottom"]
def vE:DS:=(aX (ak kH (ak cW (ak cP (dC (.int 2)) (aa 0)) (aa 1)) (ak cP (dC (.int 2)) (aa 1))))
def uk:Xq kG 2 vE oM:=by
 rintro b st K ⟨t,d,rfl,a,k⟩;show⟨rfl,cR (dj ⋯ ⋯) (c_ (cR (dj ⋯ ⋯) (jv () k)))⟩
def lP:cf:=λa st K=>∃(n k o:Nat) (A:List (List Int)),a=[.ref n,.int k,.int o]/\st[n]?=some (.lst (A.map cm))/\k<A.length/\o<A.length/\K (.ref st.length) (st++[.lst ((Mx.cB A k o).map cm)])
def wK:List Str:=["rows","k","other","order"]
def E_:DS:=(aw (aK 3 (bS ql (ae (aa 0) ai)))
 (aw (dD (aa 3) (aa 1) (ak aN (aa 0) (aa 2)))
 (aw (dD (aa 3) (aa 2) (ak aN (aa 0) (aa 1)))
 (aX (aa 3)))))
def e_{A:List (List Int)}{j:Nat}(h:j<A.length):eF (A.map cm) (j:Int)=some (cm (A.getD j [])):=by
 show fb ?_;rw[XJ,XC h,Mx.aJ h];rfl
def f9{m k:Nat}(h:k<m):kE m (k:Int)=some k:=by
 let:=RX (i:=(k:Int)) (m:=m) () ();rw[Yb]at this;show this
def jX{A:List (List Int)}{k:Nat}:(A.map cm).set k (cm r)=(A.set k r).map cm:=by rw[Y8]
def EI:Xq lP 3 E_ wK:=by
 rintro p st K ⟨n,k,o,A,rfl,e,hk,b,d⟩;show⟨rfl,?_⟩;let c:n<st.length:=(Xs.mp e).1;show xV (aE e) ?_;let m:(st++[Cell.lst (A.map cm)])[n]?=some (.lst (A.map cm)):=by rw[XA c];show e
 let l:(st++[Cell.lst (A.map cm)])[st.length]?=some (.lst (A.map cm)):=by simp
 show aB (aE m) (e_ b) (fE l (by rw[Xr];show f9 hk) ?_);rw[jX]
 let f:(st++[Cell.lst (A.map cm)]).set st.length (.lst ((A.set k (A.getD o [])).map cm))=st++[Cell.lst ((A.set k (A.getD o [])).map cm)]:=by
  rw[abS _ _ (Xv _),Zs];rfl
 rw[f];let h:(st++[Cell.lst ((A.set k (A.getD o [])).map cm)])[n]?=some (.lst (A.map cm)):=by rw[XA c];show e
 let g:(st++[Cell.lst ((A.set k (A.getD o [])).map cm)])[st.length]?=some (.lst ((A.set k (A.getD o [])).map cm)):=by simp
 show aB (aE h) (e_ hk) (fE g (by rw[Xr,XH];show f9 b) ?_);rw[jX]
 let a:(st++[Cell.lst ((A.set k (A.getD o [])).map cm)]).set st.length (.lst (((A.set k (A.getD o [])).set o (A.getD k [])).map cm))=st++[Cell.lst ((Mx.cB A k o).map cm)]:=by
  rw[abS _ _ (Xv _),Zs];rfl
 rw[a];show d
def o3:cf:=λa st K=>∃(d:D) (r:List Int),a=[d]/\items? st d=some (ao r)/\r.length<=1000/\K (cm (r.map λx=> -x)) st
def A9:List Str:=["row"]
def Le:DS:=(aX (dW (fU (aa 0)) [none] (cM 0) cT (nU jd (aa 0))))
def HX:Xq o3 1 Le A9:=by
 rintro l st K ⟨d,r,rfl,f,c,k⟩;show⟨rfl,?_⟩;show zl f λok h=>⟨cD (by unfold ao;rw[Xr];show c),?_⟩
 show comp_map (g:=λx=>match x with| .int a=> .int (-a)|_=> .av) h _ (λx b m q=>?_) ?_
 . unfold ao at b;obtain⟨a,_,rfl⟩:=X8.mp b;show⟨_,rfl,jb q⟩
 have e:(ao r).map (λx=>match x with| .int a=> .int (-a)|_=> .av)=ao (r.map λx=> -x):=by unfold ao;rw[X6,X6];rfl
 rw[e];show k
structure Bn(st:ag)(b xb xu xc:Nat)(A U C:List (List Int)):Prop where
 eb:st[b]?=some (Cell.ins aI [("body",.ref xb),("turn",.ref xu),("back_columns",.ref xc)])
 e1:st[xb]?=some (Cell.lst (A.map cm))
 e2:st[xu]?=some (Cell.lst (U.map cm))
 e3:st[xc]?=some (Cell.lst (C.map cm))
 n1:xb≠xu
 n2:xb≠xc
 n3:xu≠xc
def nD{st:ag}{b x:Nat}{C:Addr}{fs:List (Str×D)}{xs:List D}(a:st[b]?=some (Cell.ins C fs))(c:st[x]?=some (Cell.lst xs)):b≠x:=λz=>by rw[z,c]at a;cases a
def mB:cf:=λc st K=>∃(b N:Nat) (d:D) (A:List (List Int)),c=[.ref b,d]/\st[b]?=some (.ins aI [])/\ki st d A/\A.length=N/\N<=8/\∀a,Bn a b st.length (st.length+1) (st.length+2) A (Mx.units N) (Mx.units N)->a.length=st.length+3->(∀m,m<st.length->m≠b->a[m]?=st[m]?)->K .av a
def mz:List Str:=["self","rows"]
def xH:DS:=(aw (fD aI "body" (aa 0) (oX (fU (aa 1)) [none] (cM 0) cT (bS qX (ae (aa 0) ai))))
 (aw (fD aI "turn" (aa 0) (oX (fU (aA oA (ae (bS dO (ae (aa 1) ai)) ai))) [none] (cM 0) cT (bS qX (ae (aa 0) ai))))
 (fD aI "back_columns" (aa 0) (oX (fU (aA oA (ae (bS dO (ae (aa 1) ai)) ai))) [none] (cM 0) cT (bS qX (ae (aa 0) ai))))))
def tY(f:Str)(v:D):∀fs:List (Str×D),(putD f v fs).length<=fs.length+1
 | []=>by simp[putD]
 |(g,x)::r=>by
  unfold putD;split
  . simp
  have:=tY f v r;simp![XT];lia
def xU{st:ag}{A:List (List Int)}:dg st (A.map aj) A:=dg.tup
def AV(n:Nat):(Mx.units n).length=n:=by unfold Mx.units;simp
def wo:Xq mB 2 xH mz:=by
 rintro ds st K ⟨b,N,d,A,rfl,B,T,Y,Z,k⟩;show⟨rfl,?_⟩;let S:b<st.length:=(Xs.mp B).1;obtain⟨L,g,G⟩:=T.ex;let R:=G.len;let lst:∀(e:D) (r:List Int),True:=λ_ _=>trivial;show zl g λok X=>⟨cD (),?_⟩
 show nI cm X G (λe r I u O q=>⟨_,rfl,v7 u q⟩) ?_;let z:(st++[Cell.lst (A.map cm)])[b]?=some (.ins aI []):=by rw[XA S];show B
 show dP z ⋯ ?_;generalize l:(st++[Cell.lst (A.map cm)]).set b (.ins aI (putD "body" (.ref st.length) []))=st1;let H:st1.length=st.length+1:=by rw[<-l];simp
 let J:∀m,m<st.length->m≠b->st1[m]?=st[m]?:=λm t f=>by rw[<-l,Xu (XI f),XA t]
 let M:st1[b]?=some (.ins aI (putD "body" (.ref st.length) [])):=by rw[<-l,XE (by simp;lia)]
 let P:st1[st.length]?=some (.lst (A.map cm)):=by rw[<-l,Xu ()];simp
 clear l
 let w:∃v,items? st1 d=some v/\v.length=N:=by
  cases d with
  |ref n=>
   by_cases o:n=b
   . subst o;unfold items? at g;simp![B]at g;cases g
   have x:n<st.length:=by
    unfold items? at g;simp only at g;cases q:st[n]? with
    |none=>rw[q]at g;cases g
    |some c=>show(Xs.mp q).1
   show⟨L,?_,by lia⟩;unfold items? at g⊢;simp only at g⊢;rw[J n x o];show g
  |_=>show⟨L,g,by lia⟩
 obtain⟨C,a,p⟩:=w;show cJ a ?_;rw[p];show⟨N,rfl,by lia,?_⟩;show jV ⟨cD (by rw[Xr,AV];lia),?_⟩;show nI cm trivial xU (λe r I u O q=>⟨_,rfl,v7 u q⟩) ?_;let W:(st1++[Cell.lst ((Mx.units N).map cm)])[b]?=some (.ins aI (putD "body" (.ref st.length) [])):=by rw[XA ()];show M
 show dP W (by let:=tY "body" (.ref st.length) [];simp![Zf]at this;lia) ?_;generalize h:(st1++[Cell.lst ((Mx.units N).map cm)]).set b (.ins aI (putD "turn" (.ref st1.length) (putD "body" (.ref st.length) [])))=st2;let Q:st2.length=st.length+2:=by rw[<-h];simp;lia
 let y:∀m,m<st1.length->m≠b->st2[m]?=st1[m]?:=λm t f=>by rw[<-h,Xu (XI f),XA t]
 let E:st2[b]?=some (.ins aI (putD "turn" (.ref st1.length) (putD "body" (.ref st.length) []))):=by rw[<-h,XE (by simp;lia)]
 let F:st2[st1.length]?=some (.lst ((Mx.units N).map cm)):=by rw[<-h,Xu ()];simp
 clear h
 let s:items? st2 d=some C:=by
  cases d with
  |ref n=>
   by_cases o:n=b
   . subst o;unfold items? at a;simp![M]at a;cases a
   have x:n<st1.length:=by
    unfold items? at a;simp only at a;cases q:st1[n]? with
    |none=>rw[q]at a;cases a
    |some c=>show(Xs.mp q).1
   unfold items? at a⊢;simp only at a⊢;rw[y n x o];show a
  |_=>show a
 show cJ s ?_;rw[p];show⟨N,rfl,by lia,?_⟩;show jV ⟨cD (by rw[Xr,AV];lia),?_⟩;show nI cm trivial xU (λe r I u O q=>⟨_,rfl,v7 u q⟩) ?_;let V:(st2++[Cell.lst ((Mx.units N).map cm)])[b]?=some (.ins aI (putD "turn" (.ref st1.length) (putD "body" (.ref st.length) []))):=by rw[XA ()];show E
 show dP V (by let U:=tY "body" (.ref st.length) [];let h2:=tY "turn" (.ref st1.length) (putD "body" (.ref st.length) []);simp![Zf]at U;lia) ?_;show k _ ⟨?_,?_,?_,?_,by lia,by lia,by lia⟩ (by simp;lia) λm t f=>?_
 . rw[XE (by simp;lia),H,Q];rfl
 . rw[Xu (),XA (),y _ () ()];show P
 . rw[Xu (),XA ()];rw[H]at F;show F
 . rw[Xu ()];rw[show st.length+2=st2.length by lia];simp
 rw[Xu (XI f),XA (),y m () f,J m t f]
def nh:cf:=λf st K=>∃(b e c d N w k j:Nat) (A U C:List (List Int)) (q:Int),f=[.ref b,.int k,.int q,.int j]/\Bn st b e c d A U C/\Mx.dy N w A/\Mx.dy N N U/\Mx.dy N N C/\k<N/\j<N/\N<=8/\w<=9/\(∀x∈A.getD j [],IntMulOk (-q) x)/\(∀x∈U.getD j [],IntMulOk (-q) x)/\(∀x∈C.getD k [],IntMulOk q x)/\
 ∀a,Bn a b e c d (Mx.cj A k q j) (Mx.cj U k q j) (Mx.cj C j (-q) k)->a.length=st.length->(∀m,m≠e->m≠c->m≠d->a[m]?=st[m]?)->K .av a
def qH:List Str:=["self","k","times","other"]
def Ec:DS:=(aw (dD (bX aI "body" (aa 0)) (aa 1) (aA mW (ae (ak aN (bX aI "body" (aa 0)) (aa 1)) (ae (nU jd (aa 2)) (ae (ak aN (bX aI "body" (aa 0)) (aa 3)) ai)))))
 (aw (dD (bX aI "turn" (aa 0)) (aa 1) (aA mW (ae (ak aN (bX aI "turn" (aa 0)) (aa 1)) (ae (nU jd (aa 2)) (ae (ak aN (bX aI "turn" (aa 0)) (aa 3)) ai)))))
 (dD (bX aI "back_columns" (aa 0)) (aa 3) (aA mW (ae (ak aN (bX aI "back_columns" (aa 0)) (aa 3)) (ae (aa 2) (ae (ak aN (bX aI "back_columns" (aa 0)) (aa 1)) ai)))))))
def BO:Xq nh 4 Ec qH:=by
 rintro ds st K ⟨b,g,f,x,N,w,k,j,A,U,C,q,rfl,B,F,z,E,hk,y,hN,hw,O,L,M,W⟩;show⟨rfl,?_⟩;let V:=F.len;let S:=z.len;let T:=E.len;let Z:=Mx.dQ F hk;let rU:=Mx.dQ z hk;let Y:=Mx.dQ E y;let v:=nD B.eb B.e1;let u:=nD B.eb B.e2;let t:=nD B.eb B.e3;let p:=B.n1;let o:=B.n2;let n:=B.n3;show aR B.eb rfl (aB (aE B.e1) (e_ ()) (jb (aR B.eb rfl (aB (aE B.e1) (e_ ()) ?_))));show⟨_,_,-q,A.getD k [],A.getD j [],rfl,rfl,rfl,by lia,O,?_⟩;show aR B.eb rfl (fE B.e1 (by rw[Xr,V];show f9 hk) ?_);rw[jX];let l:∀m,m≠g->(st.set g (.lst ((A.set k (Mx.bg (A.getD k []) (-q) (A.getD j []))).map cm)))[m]?=st[m]?:=λm r=>Xu (XI r);let H:(st.set g (.lst ((A.set k (Mx.bg (A.getD k []) (-q) (A.getD j []))).map cm)))[g]?=some (.lst ((Mx.cj A k q j).map cm)):=XE (Xs.mp B.e1).1;let J:(st.set g (.lst ((A.set k (Mx.bg (A.getD k []) (-q) (A.getD j []))).map cm))).length=st.length:=XH;generalize st.set g (.lst ((A.set k (Mx.bg (A.getD k []) (-q) (A.getD j []))).map cm))=st1 at l H J⊢;let c:=(l b v).trans B.eb;let e:=(l f (XI p)).trans B.e2;let s:=(l x (XI o)).trans B.e3;show aR c rfl (aB (aE e) (e_ ()) (jb (aR c rfl (aB (aE e) (e_ ()) ?_))));show⟨_,_,-q,U.getD k [],U.getD j [],rfl,rfl,rfl,by lia,L,?_⟩;show aR c rfl (fE e (by rw[Xr,S];show f9 hk) ?_);rw[jX];let h:∀m,m≠f->(st1.set f (.lst ((U.set k (Mx.bg (U.getD k []) (-q) (U.getD j []))).map cm)))[m]?=st1[m]?:=λm r=>Xu (XI r);let G:(st1.set f (.lst ((U.set k (Mx.bg (U.getD k []) (-q) (U.getD j []))).map cm)))[f]?=some (.lst ((Mx.cj U k q j).map cm)):=XE (Xs.mp e).1;let I:(st1.set f (.lst ((U.set k (Mx.bg (U.getD k []) (-q) (U.getD j []))).map cm))).length=st1.length:=XH;generalize st1.set f (.lst ((U.set k (Mx.bg (U.getD k []) (-q) (U.getD j []))).map cm))=st2 at h G I⊢;let a:=(h b u).trans c;let d:=(h x (XI n)).trans s;show aR a rfl (aB (aE d) (e_ ()) (aR a rfl (aB (aE d) (e_ ()) ?_)));show⟨_,_,q,C.getD j [],C.getD k [],rfl,rfl,rfl,by lia,M,?_⟩;show aR a rfl (fE d (by rw[Xr,T];show f9 y) ?_);rw[jX];let X:C.set j (Mx.bg (C.getD j []) q (C.getD k []))=Mx.cj C j (-q) k:=by unfold Mx.cj;rw[Int.neg_neg]
 rw[X];show W _ ⟨?_,?_,?_,?_,p,o,n⟩ (by rw[XH];lia) λm R Q P=>?_
 . rw[Xu (XI t)];show a
 . rw[Xu (XI o),h _ p];show H
 . rw[Xu (XI n)];show G
 . show XE (Xs.mp d).1
 rw[Xu (XI P),h m Q,l m R]
def mH:cf:=λf st K=>∃(b e c d N w k o:Nat) (A U C:List (List Int)),f=[.ref b,.int k,.int o]/\Bn st b e c d A U C/\Mx.dy N w A/\Mx.dy N N U/\Mx.dy N N C/\k<N/\o<N/\
 ∀a,Bn a b st.length (st.length+1) (st.length+2) (Mx.cB A k o) (Mx.cB U k o) (Mx.cB C k o)->a.length=st.length+3->(∀m,m<st.length->m≠b->a[m]?=st[m]?)->K .av a
def mM:List Str:=["self","k","other"]
def x6:DS:=(aw (fD aI "body" (aa 0) (aA lP (ae (bX aI "body" (aa 0)) (ae (aa 1) (ae (aa 2) ai)))))
 (aw (fD aI "turn" (aa 0) (aA lP (ae (bX aI "turn" (aa 0)) (ae (aa 1) (ae (aa 2) ai)))))
 (fD aI "back_columns" (aa 0) (aA lP (ae (bX aI "back_columns" (aa 0)) (ae (aa 1) (ae (aa 2) ai)))))))
def we:Xq mH 3 x6 mM:=by
 rintro S st K ⟨b,p,g,a,N,w,k,o,A,U,C,rfl,B,L,I,J,hk,R,E⟩;show⟨rfl,?_⟩;let Q:=L.len;let O:=I.len;let P:=J.len;let M:=nD B.eb B.e1;let s:=nD B.eb B.e2;let n:=nD B.eb B.e3;let H:b<st.length:=(Xs.mp B.eb).1;let F:g<st.length:=(Xs.mp B.e2).1;let G:a<st.length:=(Xs.mp B.e3).1;show aR B.eb rfl ?_;show⟨p,k,o,A,rfl,B.e1,by lia,by lia,?_⟩;let d:(st++[Cell.lst ((Mx.cB A k o).map cm)])[b]?=some (.ins aI [("body",.ref p),("turn",.ref g),("back_columns",.ref a)]):=by rw[XA H];show B.eb
 show dP d (by simp) ?_;let h:putD "body" (.ref st.length) [("body",.ref p),("turn",.ref g),("back_columns",.ref a)]=([("body",.ref st.length),("turn",.ref g),("back_columns",.ref a)]:List (Str×D)):=rfl;rw[h];generalize f:(st++[Cell.lst ((Mx.cB A k o).map cm)]).set b (.ins aI [("body",.ref st.length),("turn",.ref g),("back_columns",.ref a)])=st1;let u:st1.length=st.length+1:=by rw[<-f];simp
 let r:∀m,m<st.length->m≠b->st1[m]?=st[m]?:=λm l c=>by rw[<-f,Xu (XI c),XA l]
 let x:st1[b]?=some (.ins aI [("body",.ref st.length),("turn",.ref g),("back_columns",.ref a)]):=by rw[<-f,XE (by simp;lia)]
 let y:st1[st.length]?=some (.lst ((Mx.cB A k o).map cm)):=by rw[<-f,Xu ()];simp
 clear f d;show aR x rfl ?_;show⟨g,k,o,U,rfl,(r g F (XI s)).trans B.e2,by lia,by lia,?_⟩;let d:(st1++[Cell.lst ((Mx.cB U k o).map cm)])[b]?=some (.ins aI [("body",.ref st.length),("turn",.ref g),("back_columns",.ref a)]):=by rw[XA ()];show x
 show dP d (by simp) ?_;let h:putD "turn" (.ref st1.length) [("body",.ref st.length),("turn",.ref g),("back_columns",.ref a)]=([("body",.ref st.length),("turn",.ref st1.length),("back_columns",.ref a)]:List (Str×D)):=rfl;rw[h];generalize e:(st1++[Cell.lst ((Mx.cB U k o).map cm)]).set b (.ins aI [("body",.ref st.length),("turn",.ref st1.length),("back_columns",.ref a)])=st2;let z:st2.length=st.length+2:=by rw[<-e];simp;lia
 let q:∀m,m<st1.length->m≠b->st2[m]?=st1[m]?:=λm l c=>by rw[<-e,Xu (XI c),XA l]
 let v:st2[b]?=some (.ins aI [("body",.ref st.length),("turn",.ref st1.length),("back_columns",.ref a)]):=by rw[<-e,XE (by simp;lia)]
 let t:st2[st1.length]?=some (.lst ((Mx.cB U k o).map cm)):=by rw[<-e,Xu ()];simp
 clear e d;show aR v rfl ?_;show⟨a,k,o,C,rfl,((q a () (XI n)).trans (r a G (XI n))).trans B.e3,by lia,by lia,?_⟩;let d:(st2++[Cell.lst ((Mx.cB C k o).map cm)])[b]?=some (.ins aI [("body",.ref st.length),("turn",.ref st1.length),("back_columns",.ref a)]):=by rw[XA ()];show v
 show dP d (by simp) ?_;let h:putD "back_columns" (.ref st2.length) [("body",.ref st.length),("turn",.ref st1.length),("back_columns",.ref a)]=([("body",.ref st.length),("turn",.ref st1.length),("back_columns",.ref st2.length)]:List (Str×D)):=rfl;rw[h];show E _ ⟨?_,?_,?_,?_,by lia,by lia,by lia⟩ (by simp;lia) λm l c=>?_
 . rw[XE (by simp;lia),u,z]
 . rw[Xu (),XA (),q _ () ()];show y
 . rw[Xu (),XA ()];rw[u]at t;show t
 . rw[Xu ()];rw[show st.length+2=st2.length by lia];simp
 rw[Xu (XI c),XA (),q m () c,r m l c]
def j4:cf:=λf st K=>∃(b e c d N w k:Nat) (A U C:List (List Int)),f=[.ref b,.int k]/\Bn st b e c d A U C/\Mx.dy N w A/\Mx.dy N N U/\Mx.dy N N C/\k<N/\N<=8/\w<=9/\
 ∀a,Bn a b e c d (Mx.jg A k) (Mx.jg U k) (Mx.jg C k)->a.length=st.length->(∀m,m≠e->m≠c->m≠d->a[m]?=st[m]?)->K .av a
def ka:List Str:=["self","k"]
def uw:DS:=(aw (dD (bX aI "body" (aa 0)) (aa 1) (aA o3 (ae (ak aN (bX aI "body" (aa 0)) (aa 1)) ai)))
 (aw (dD (bX aI "turn" (aa 0)) (aa 1) (aA o3 (ae (ak aN (bX aI "turn" (aa 0)) (aa 1)) ai)))
 (dD (bX aI "back_columns" (aa 0)) (aa 1) (aA o3 (ae (ak aN (bX aI "back_columns" (aa 0)) (aa 1)) ai)))))
def tF:Xq j4 2 uw ka:=by
 rintro X st K ⟨b,g,a,v,N,w,k,A,U,C,rfl,B,E,y,z,hk,W,V,R⟩;show⟨rfl,?_⟩;let Q:=E.len;let O:=y.len;let P:=z.len;let T:=Mx.dQ E hk;let rU:=Mx.dQ y hk;let S:=Mx.dQ z hk;let u:=nD B.eb B.e1;let t:=nD B.eb B.e2;let s:=nD B.eb B.e3;let p:=B.n1;let o:=B.n2;let n:=B.n3;show aR B.eb rfl (aB (aE B.e1) (e_ ()) ?_);show⟨_,A.getD k [],rfl,rfl,by lia,?_⟩;show aR B.eb rfl (fE B.e1 (by rw[Xr,Q];show f9 hk) ?_);rw[jX];let l:∀m,m≠g->(st.set g (.lst ((A.set k ((A.getD k []).map λx=> -x)).map cm)))[m]?=st[m]?:=λm q=>Xu (XI q);let G:(st.set g (.lst ((A.set k ((A.getD k []).map λx=> -x)).map cm)))[g]?=some (.lst ((Mx.jg A k).map cm)):=XE (Xs.mp B.e1).1;let I:(st.set g (.lst ((A.set k ((A.getD k []).map λx=> -x)).map cm))).length=st.length:=XH;generalize st.set g (.lst ((A.set k ((A.getD k []).map λx=> -x)).map cm))=st1 at l G I⊢;let d:=(l b u).trans B.eb;let f:=(l a (XI p)).trans B.e2;let r:=(l v (XI o)).trans B.e3;show aR d rfl (aB (aE f) (e_ ()) ?_);show⟨_,U.getD k [],rfl,rfl,by lia,?_⟩;show aR d rfl (fE f (by rw[Xr,O];show f9 hk) ?_);rw[jX];let h:∀m,m≠a->(st1.set a (.lst ((U.set k ((U.getD k []).map λx=> -x)).map cm)))[m]?=st1[m]?:=λm q=>Xu (XI q);let F:(st1.set a (.lst ((U.set k ((U.getD k []).map λx=> -x)).map cm)))[a]?=some (.lst ((Mx.jg U k).map cm)):=XE (Xs.mp f).1;let H:(st1.set a (.lst ((U.set k ((U.getD k []).map λx=> -x)).map cm))).length=st1.length:=XH;generalize st1.set a (.lst ((U.set k ((U.getD k []).map λx=> -x)).map cm))=st2 at h F H⊢;let c:=(h b t).trans d;let e:=(h v (XI n)).trans r;show aR c rfl (aB (aE e) (e_ ()) ?_);show⟨_,C.getD k [],rfl,rfl,by lia,?_⟩;show aR c rfl (fE e (by rw[Xr,P];show f9 hk) ?_);rw[jX];show R _ ⟨?_,?_,?_,?_,p,o,n⟩ (by rw[XH];lia) λm M L J=>?_
 . rw[Xu (XI s)];show c
 . rw[Xu (XI o),h _ p];show G
 . rw[Xu (XI n)];show F
 . show XE (Xs.mp e).1
 rw[Xu (XI J),h m L,l m M]
def i4:cf:=λe st K=>∃(b d a c N w top p:Nat) (A U C:List (List Int)) (f:Bool),e=[.ref b,.int top,.int p]/\Bn st b d a c A U C/\Mx.dy N w A/\top<=N/\N<=8/\p<w/\w<=9/\st[0]?=some (fP f)/\
 ∀L,Mx.ng A N top p L->K (.lst (L.map λ(k:Nat)=> .int (k:Int))) (st.set 0 (fP true))
def lJ:List Str:=["self","top","place","live"]
def wy:DS:=(aw (aK 3 (dW (si (ae (aa 1) (ae (bS dO (ae (bX aI "body" (aa 0)) ai)) ai))) [none,some 0,some 2] (cM 0) (aQ (ak nj (ak aN (ak aN (bX aI "body" (aa 1)) (aa 0)) (aa 2)) (dC (.int 0)))) (aa 0)))
 (aX (En 0 166 ⟨84,32,84,66⟩ "Bench.live_rows.<locals>.<lambda>" [none,some 0,some 2] (bS uN (ae (ak aN (ak aN (bX aI "body" (aa 1)) (aa 0)) (aa 2)) ai)) (aa 3))))
def yT{a b:Prop}(h:b):if false=true then a else b:=h
def Qn{st:ag}(a:st[b]?=some (Cell.ins C fs))(c:st[0]?=some (fP f)):b≠0:=λz=>by rw[z,c]at a;cases a
def vI{st:ag}(a:st[b]?=some (Cell.lst xs))(c:st[0]?=some (fP f)):b≠0:=λz=>by rw[z,c]at a;cases a
def Bn.keep{st a:ag}{b e c d:Nat}(B:Bn st b e c d A U C)(h:∀m,m=b\/m=e\/m=c\/m=d->a[m]?=st[m]?):Bn a b e c d A U C:=
 ⟨(h b (.inl rfl)).trans B.eb,(h e (.inr (.inl rfl))).trans B.e1,(h c (.inr (.inr (.inl rfl)))).trans B.e2,(h d (.inr (.inr (.inr rfl)))).trans B.e3,B.n1,B.n2,B.n3⟩
def Bn.tab{st:ag}{b e a d:Nat}(B:Bn st b e a d A U C)(h:st[0]?=some (fP f))(c:Cell):Bn (st.set 0 c) b e a d A U C:=
 B.keep λm g=>Xu λz=>by
  subst z;rcases g with rfl|rfl|rfl|rfl
  . show Qn B.eb h rfl
  . show vI B.e1 h rfl
  . show vI B.e2 h rfl
  show vI B.e3 h rfl
def qK{r:List Int}{k:Nat}(h:k<r.length):eF (ao r) (k:Int)=some (.int (r.getD k 0)):=by
 show fb ?_;unfold ao;rw[XJ,XC h,Mx.aJ h];rfl
def gK(A:List (List Int))(N top p:Nat):List Nat:=(List.range (N-top)).filterMap λi=>if Mx.g A (top+i) p≠0 then some (top+i)else none
def AR{N top p k:Nat}:k∈gK A N top p↔top<=k/\k<N/\Mx.g A k p≠0:=by
 unfold gK;rw[aak];constructor
 . rintro⟨i,a,e⟩;rw[YW]at a;split at e
   . rename_i h;cases e;show⟨by lia,by lia,h⟩
   cases e
 rintro⟨d,c,b⟩;show⟨k-top,YW.mpr (),?_⟩;rw[show top+(k-top)=k by lia,XB b]
def pw_filterMap{f:Nat->Option Nat}(h:∀i j a b,i<j->f i=some a->f j=some b->a<b):∀ {l:List Nat},l.Pairwise (· < ·)->(l.filterMap f).Pairwise (· < ·)
 | [],_=>by simp
 |x::l,d=>by
  obtain⟨m,c⟩:=aa5.mp d;rw[aah];split
  . show pw_filterMap h c
  rename_i a e;show aa5.mpr ⟨λb k=>?_,pw_filterMap h c⟩;obtain⟨j,g,n⟩:=aak.mp k;show h x j a b (m j g) e n
def pw_liveR{N top p:Nat}:(gK A N top p).Pairwise (· < ·):=by
 unfold gK;show pw_filterMap (λi j a b e d c=>?_) List.pairwise_lt_range;split at d
 . split at c
   . cases d;cases c;lia
   cases c
 cases d
def BF{f:Nat->Option Nat}(l:List Nat):(l.filterMap f).length<=l.length:=List.length_filterMap_le ..
def OL{N top p:Nat}{b:List (Int×Int)}(c:b.Perm (((gK A N top p).map λ(k:Nat)=>(((Mx.g A k p).natAbs:Nat):Int)).zip ((gK A N top p).map λ(k:Nat)=>(k:Int))))(n:b.Pairwise slt):
 Mx.ng A N top p (b.map λq=>q.2.toNat)/\b.map (λq=>D.int q.2)=(b.map λq=>q.2.toNat).map λ(k:Nat)=>D.int (k:Int):=by
 let g:((gK A N top p).map λ(k:Nat)=>(((Mx.g A k p).natAbs:Nat):Int)).zip ((gK A N top p).map λ(k:Nat)=>(k:Int))=(gK A N top p).map λk=>((((Mx.g A k p).natAbs:Nat):Int),(k:Int)):=by
  show List.zip_map' ..
 rw[g]at c
 let d:∀q∈b,∃k,k∈gK A N top p/\q=((((Mx.g A k p).natAbs:Nat):Int),(k:Int)):=λq a=>by
  obtain⟨k,f,o⟩:=X8.mp (c.mem_iff.mp a);show⟨k,f,o.symm⟩
 show⟨⟨λk=>?_,?_,?_⟩,?_⟩
 . rw[<-AR];constructor
   . intro h;obtain⟨q,a,e⟩:=X8.mp h;obtain⟨j,f,rfl⟩:=d q a;simp![Yb]at e;rw[<-e];show f
   intro h;show X8.mpr ⟨((((Mx.g A k p).natAbs:Nat):Int),(k:Int)),c.mem_iff.mpr (X8.mpr ⟨k,h,rfl⟩),by simp⟩
 . rw[aaA];show n.imp_of_mem λ{x y} m l h=>?_;obtain⟨j,_,rfl⟩:=d x m;obtain⟨k,_,rfl⟩:=d y l;unfold slt at h;simp![Yb];lia
 . have e:((gK A N top p).map λk=>((((Mx.g A k p).natAbs:Nat):Int),(k:Int))).map (λq=>q.2.toNat)=gK A N top p:=by
    rw[X6];show(Zk λk _=>Yb k).trans (List.map_id _)
   let a:=c.map λq=>q.2.toNat;rw[e]at a;show a.nodup_iff.mpr (pw_liveR.imp λh=>X_ h)
 rw[X6];show Zk λq a=>?_;obtain⟨j,_,rfl⟩:=d q a;simp
def vq:Xq i4 3 wy lJ:=by
 rintro Z st K ⟨b,R,P,Q,N,w,top,p,A,U,C,f,rfl,B,u,X,Y,t,W,v,k⟩;show⟨rfl,?_⟩;let F:=u.len;let a:∀i,i<N->(A.getD i []).length=w:=λi s=>Mx.dQ u s;show aR B.eb rfl (cJ (aE B.e1) ?_);rw[Xr,F];show FU ⟨by lia,by lia,by lia,by lia⟩ ⟨cD (by unfold fg;simp;lia),?_⟩;let M:((N:Int)-(top:Int)).toNat=N-top:=()
 rw[M];show gY (λrest g c=>∃i:Nat,i<=N-top/\c=st/\rest=(List.range (N-top-i)).map (λj=>D.int ((top+i+j:Nat):Int))/\g=((List.range i).filterMap λi=>if Mx.g A (top+i) p≠0 then some (top+i)else none).map λ(k:Nat)=>D.int (k:Int)) ?_ ?_ _ _ _ ⟨0,Yc _,rfl,by unfold fg;simp,by simp⟩
 . rintro g c ⟨i,s,rfl,e,rfl⟩
   let r:i=N-top:=by
    rcases ZK i (N-top)with z|z
    . rw[show N-top-i=(N-top-i-1)+1 by lia,YX]at e;cases e
    lia
   subst r;show⟨trivial,?_⟩;let O:((gK A N top p).map λ(k:Nat)=>D.int (k:Int))=((gK A N top p).map λ(k:Nat)=>(k:Int)).map D.int:=by rw[X6];rfl
   show⟨(gK A N top p).map λ(k:Nat)=>(k:Int),(gK A N top p).map λ(k:Nat)=>(((Mx.g A k p).natAbs:Nat):Int),f,YK D.lst O,?_,?_,by rw[Xr,Xr],v,λi n q l m=>?_,λS o H=>?_⟩
   . rw[Xr];let:=BF (f:=λi=>if Mx.g A (top+i) p≠0 then some (top+i)else none) (List.range (N-top));rw[ZZ]at this;change(gK A N top p).length<64;unfold gK;lia
   . rw[aaA];show pw_liveR.imp λh=>by lia
   . rw[XJ]at l m;cases z:(gK A N top p)[i]? with
     |none=>rw[z]at l;cases l
     |some j=>
      rw[z]at l m;cases l;cases m;obtain⟨V,G,T⟩:=AR.mp (XS z);let E:=B.tab v (fP true);show aR E.eb rfl (aB (aE E.e1) (e_ ()) (aB rfl (qK (by rw[a j G];show t)) (yJ ⟨rfl,rfl⟩)))
   obtain⟨L,J⟩:=OL o H;rw[J];show k _ L
 rintro d rest g c ⟨i,s,rfl,e,rfl⟩ next
 let I:i<N-top:=by
  rcases ZK i (N-top)with z|z
  . show z
  rw[show N-top-i=0 by lia]at e;cases e
 rw[show N-top-i=(N-top-i-1)+1 by lia,YX,Yg,X6]at e;obtain⟨rfl,rfl⟩:=aba e;show⟨trivial,_,rfl,?_⟩;show aR B.eb rfl (aB (aE B.e1) (e_ (j:=top+i+0) ()) (aB rfl (qK (by rw[a _ ()];show t)) ?_));let y:List.range (i+1)=List.range i++[i]:=ZW
 let x:((List.range (N-top-i-1)).map ((λj=>D.int ((top+i+j:Nat):Int))∘Nat.succ))=(List.range (N-top-(i+1))).map λj=>D.int ((top+(i+1)+j:Nat):Int):=by
  rw[show N-top-i-1=N-top-(i+1) by lia];show Zk λj _=>?_;change D.int ((top+i+(j+1):Nat):Int)=_;rw[show top+i+(j+1)=top+(i+1)+j by lia]
 show ne2 (λh=>?_) λh=>?_
 . show(next _ _ ⟨i+1,by lia,rfl,x,?_⟩);rw[y,abT,YR];let:Mx.g A (top+i) p≠0:=h;simp[this]
 show(next _ _ ⟨i+1,by lia,rfl,x,?_⟩);rw[y,abT,YR];let:Mx.g A (top+i) p=0:=h;simp[this]
structure Bo(n0:Nat)(st st':ag)(b xb xu xc:Nat):Prop where
 lo:1<=n0/\n0<=b/\n0<=xb/\n0<=xu/\n0<=xc
 fr:∀m,m<n0->m≠0->st'[m]?=st[m]?
 tb:∃f,st'[0]?=some (fP f)
def om:cf:=λn st K=>∃(m b l h k N w top p e u:Nat) (A0 A U C:List (List Int)) (ld:Nat->Nat),n=[.ref b,.int top,.int p]/\Bn st b l h k A U C/\Bo m st st b l h k/\Mx.ix A0 N w ⟨A,U,C⟩ top p ld e u/\N<=8/\w<=9/\p<w/\(N-top+1)*(e+1)<=60000000/\
 (∀a,Bn a b l h k A U C->Bo m st a b l h k->Mx.ng A N top p []->K (.bl false) a)/\
 ∀a g d f (c:Mx.B3) (r:Nat),Bn a b g d f (Mx.setB c p top r).A (Mx.setB c p top r).U (Mx.setB c p top r).C->Bo m st a b g d f->Mx.i9 N top p ⟨A,U,C⟩ c->Mx.ng c.A N top p [r]->top<N->
  Mx.mK A0 N w top p (2^((N-top+1)*(e+1))) ⟨A,U,C⟩ (Mx.setB c p top r)->K (.bl true) a
def oh:List Str:=["self","top","place","live","great","small"]
def zP:DS:=(aw (aK 3 (cQ aI "live_rows" i4 (aa 0) (ae (aa 1) (ae (aa 2) ai))))
 (aw (nq (aQ (ak ue (bS dO (ae (aa 3) ai)) (dC (.int 1)))) (aw (aK 4 (ak aN (aa 3) (nU jd (dC (.int 1)))))
 (aw (aK 5 (ak aN (aa 3) (nU jd (dC (.int 2)))))
 (aw (fz (cQ aI "take" nh (aa 0) (ae (aa 4) (ae (aA kG (ae (ak aN (ak aN (bX aI "body" (aa 0)) (aa 4)) (aa 2)) (ae (ak aN (ak aN (bX aI "body" (aa 0)) (aa 5)) (aa 2)) ai))) (ae (aa 5) ai)))))
 (aK 3 (cQ aI "live_rows" i4 (aa 0) (ae (aa 1) (ae (aa 2) ai))))))))
 (aw (cK (aQ (ak i8 (bS dO (ae (aa 3) ai)) (dC (.int 0)))) (aX (dC (.bl false))) cF)
 (aw (fz (cQ aI "exchange" mH (aa 0) (ae (aa 1) (ae (ak aN (aa 3) (dC (.int 0))) ai))))
 (aw (cK (aQ (ak sH (ak aN (ak aN (bX aI "body" (aa 0)) (aa 1)) (aa 2)) (dC (.int 0)))) (fz (cQ aI "change_sign" j4 (aa 0) (ae (aa 1) ai))) cF)
 (aX (dC (.bl true))))))))
def Bo.QM{k:Nat}{st a:ag}{b g c d:Nat}(h:Bo k st a b g c d):Bo k st (a.set 0 (fP true)) b g c d:=
 ⟨h.lo,λm n l=>by rw[Xu (XI l)];show h.fr m n l,true,by
  obtain⟨f,e⟩:=h.tb;show XE (Xs.mp e).1⟩
def Bo.low{st c a:ag}{b k d g:Nat}(h:Bo l st c b k d g)(f:∀m,m≠k->m≠d->m≠g->a[m]?=c[m]?):Bo l st a b k d g:=by
 obtain⟨t,s,r,q,p⟩:=h.lo;show⟨h.lo,λm n o=>?_,?_⟩
 . rw[f m () () ()];show h.fr m n o
 obtain⟨z,e⟩:=h.tb;show⟨z,by rw[f 0 () () ()];show e⟩
def zO{X:List (List Int)}{N w top m i:Nat}(f:Mx.dy N w X)(h:Mx.gS X N top m)(b:top<=i)(e:i<N):∀x∈X.getD i [],x.natAbs<=m:=λx a=>by
 obtain⟨c,d,rfl⟩:=Yh.mp a;let:=h i c b e;unfold Mx.g at this;rwa [Mx.aJ d]at this
def Dg{n j:Nat}(h:1<=j)(a:j<=n):kE n (-(j:Int))=some (n-j):=by
 unfold kE;rw[Xx (),XB ()];congr 1;lia
def TV{j k:Nat}:eF ((L++[j,k]).map λ(k:Nat)=>D.int (k:Int)) (-1)=some (.int (k:Int)):=by
 unfold eF;let:=Dg (n:=((L++[j,k]).map λ(k:Nat)=>D.int (k:Int)).length) (j:=1) ⋯ (by simp);rw[show(-((1:Nat):Int))= -1 from rfl]at this;rw[this];simp
def TQ{j k:Nat}:eF ((L++[j,k]).map λ(k:Nat)=>D.int (k:Int)) (-2)=some (.int (j:Int)):=by
 unfold eF;let:=Dg (n:=((L++[j,k]).map λ(k:Nat)=>D.int (k:Int)).length) (j:=2) ⋯ (by simp);rw[show(-((2:Nat):Int))= -2 from rfl]at this;rw[this];simp
def Mm:∀ {L:List Nat},1<L.length->∃M j k,L=M++[j,k]:=λ{L} h=>by
 show⟨L.take (L.length-2),L[L.length-2]'(),L[L.length-1]'(),?_⟩;let b:L=L.take (L.length-2)++L.drop (L.length-2):=(List.take_append_drop _ _).symm
 let a:L.drop (L.length-2)=[L[L.length-2]'(),L[L.length-1]'()]:=by
  rw[X9 (),X9 (),Zo ()];congr 2;congr 1;lia
 rw[<-a];show b
def yN:Xq om 3 zP oh:=by
 rintro ds st K ⟨n0,b,y,t,v,N,w,top,p,e,u,A0,A,U,C,ld,rfl,B,O,S,hN,hw,R,hz,kf,kt⟩;show⟨rfl,?_⟩;let Z:=S.le;obtain⟨f,h0⟩:=O.tb;show de B.eb rfl ?_;show⟨b,y,t,v,N,w,top,p,A,U,C,f,rfl,B,S.tn.isA,Z,hN,R,hw,h0,λL d=>?_⟩;let B1:=B.tab h0 (fP true);let O1:=O.QM;try dsimp only[ai]
 show dJ (λσ n=>∃(L:List Nat) (P J:Option D) (c:Mx.B3) (o:Nat),σ=[some (.ref b),some (.int top),some (.int p),some (.lst (L.map λ(k:Nat)=> .int (k:Int))),P,J]/\L.length<=1/\Bn n b y t v c.A c.U c.C/\Bo n0 st n b y t v/\Mx.i9 N top p ⟨A,U,C⟩ c/\Mx.sq A0 N w top p (2^e) ⟨A,U,C⟩ c o/\Mx.ng c.A N top p L) (λnx ar=>?_) ?_
 . show⟨λm σ n=>∃(L:List Nat) (P J:Option D) (c:Mx.B3) (o:Nat),σ=[some (.ref b),some (.int top),some (.int p),some (.lst (L.map λ(k:Nat)=> .int (k:Int))),P,J]/\Bn n b y t v c.A c.U c.C/\Bo n0 st n b y t v/\Mx.i9 N top p ⟨A,U,C⟩ c/\Mx.sq A0 N w top p (2^e) ⟨A,U,C⟩ c o/\Mx.ng c.A N top p L/\m=Mx.mu c.A N p,⟨_,L,none,none,⟨A,U,C⟩,1,rfl,B1,O1,.refl _,S.Kx,d,rfl⟩,?_⟩;rintro m σ g ⟨L,P,J,c,o,rfl,B,O,hR,l,d,rfl⟩;show cJ rfl ?_;rw[Xr];show Rb (λh=>dN ?_) λh=>yT (ar _ _ ⟨L,P,J,c,o,rfl,by lia,B,O,hR,l,d⟩);obtain⟨M,j,k,rfl⟩:=Mm (L:=L) ();show jb (aB rfl TV (jb (aB rfl TQ ?_)));obtain⟨G2,Y,W,k1,k2,j1,j2,a5,av⟩:=l.step R d;let T:=l.tn;let lA:=T.isA.len;let a:=G2.low S.lo.1;show de B.eb rfl (aR B.eb rfl (aB (aE B.e1) (e_ ()) (aB rfl (qK (by rw[Mx.dQ T.isA k2];show R)) (aR B.eb rfl (aB (aE B.e1) (e_ ()) (aB rfl (qK (by rw[Mx.dQ T.isA j2];show R)) ?_))))));show⟨_,_,rfl,av,?_⟩
   let hq:(Mx.qn (Mx.g c.A k p) (Mx.g c.A j p)).natAbs<=2^((N-top+1)*(e+1)):=by
    show Xy ?_ a;let a1:=l.pos;let a2:1<=2^e:=ZV;let a3:1*(Mx.qn (Mx.g c.A k p) (Mx.g c.A j p)).natAbs<=o*(1+(Mx.qn (Mx.g c.A k p) (Mx.g c.A j p)).natAbs):=Yj a1 ();let a4:=Yj a2 a3;lia
   let F:2^e*o<=2^((N-top+1)*(e+1)):=l.low S.lo.1
   let X:∀ {x:Int},x.natAbs<=2^e*o->IntMulOk (Mx.qn (Mx.g c.A k p) (Mx.g c.A j p)) x/\IntMulOk (-(Mx.qn (Mx.g c.A k p) (Mx.g c.A j p))) x:=λ{x} h=>
    ⟨fx hq (Xy h F) (),fx (by rw[Y4];show hq) (Xy h F) ()⟩
   show⟨b,y,t,v,N,w,k,j,c.A,c.U,c.C,_,rfl,B,T.isA,T.fB,T.ig,k2,j2,hN,hw,λx F=>(X (zO T.isA l.lA j1 j2 x F)).2,λx F=>(X (zO T.fB l.lU j1 j2 x F)).2,λx F=>(X (zO T.ig l.lC k1 k2 x F)).1,λG s l2 f2=>?_⟩;let O2:=O.low f2;obtain⟨f',ab⟩:=O2.tb;show de s.eb rfl ?_;show⟨b,y,t,v,N,w,top,p,_,_,_,f',rfl,s,G2.tn.isA,Z,hN,R,hw,ab,λL2 az=>?_⟩;show⟨_,?_,L2,_,_,Mx.nA c p k j,_,rfl,s.tab ab (fP true),O2.QM,hR.tail ⟨M,k,j,d,rfl⟩,G2,az,rfl⟩;unfold Mx.mu;show Mx.N7 (k:=k) Y k2 λi hi=>?_;by_cases h:i=k
   . rw[h];show YN Y
   rw[W i h];show Xv _
 rintro σ g ⟨L,P,J,c,o,rfl,hl,B,O,hR,l,d⟩;show cJ rfl ?_;rw[Xr];match L,hl,d with
 | [],_,d=>
   show eq2 (λh=>dN ?_) λh=>absurd rfl h
   let e0:c=⟨A,U,C⟩:=by
    rcases l.Uw with z|⟨j,I,H,h3⟩
    . show z
    show absurd ((d.mem j).mpr ⟨I,H,h3⟩) (by simp)
   subst e0;show kf g B O d
 | [r],_,d=>
   show eq2 (λh=>absurd h (by simp)) λh=>yT ?_;obtain⟨E,a0,V⟩:=l.set d;let Q:top<N:=()
   let T:=l.tn
   let s2:Mx.mK A0 N w top p (2^((N-top+1)*(e+1))) ⟨A,U,C⟩ (Mx.setB c p top r):=by
    let a:=l.low S.lo.1;show⟨E.tn,E.up,⟨λi q I H=>Xy (E.lo.1 i q I H) a,λi q I H=>Xy (E.lo.2.1 i q I H) a,λi q I H=>Xy (E.lo.2.2 i q I H) a⟩,E.zs,E.tp,E.z1⟩
   show de B.eb rfl (aB rfl (show eF ([r].map λ(k:Nat)=>D.int (k:Int)) 0=some (.int (r:Int))from rfl) ?_);show⟨b,y,t,v,N,w,top,r,c.A,c.U,c.C,rfl,B,T.isA,T.fB,T.ig,Q,V,λG s l2 f2=>?_⟩;obtain⟨l1,aq,l3,l4,l5⟩:=O.lo
   let aO:n0<=g.length:=by
    let:=(Xs.mp B.eb).1;lia
   let O2:Bo n0 st G b g.length (g.length+1) (g.length+2):=by
    show⟨⟨l1,aq,by lia,by lia,by lia⟩,λm X h0=>?_,?_⟩
    . rw[f2 m () ()];show O.fr m X h0
    obtain⟨z,e⟩:=O.tb;show⟨z,by rw[f2 0 () ()];show e⟩
   let T1:=T.Of Q V;show aR s.eb rfl (aB (aE s.e1) (e_ (by let:=T1.isA.len;lia)) (aB rfl (qK (by rw[Mx.dQ T1.isA Q];show R)) ?_));show N_ (λh=>dN ?_) λh=>yT ?_
   . have es:Mx.setB c p top r=⟨Mx.jg (Mx.cB c.A top r) top,Mx.jg (Mx.cB c.U top r) top,Mx.jg (Mx.cB c.C top r) top⟩:=XB h;show de s.eb rfl ?_;show⟨b,_,_,_,N,w,top,_,_,_,rfl,s,T1.isA,T1.fB,T1.ig,Q,hN,hw,λah B3 l3 f3=>?_⟩;show kt ah _ _ _ c r (by rw[es];show B3) (O2.low f3) hR d Q s2
   have es:Mx.setB c p top r=⟨Mx.cB c.A top r,Mx.cB c.U top r,Mx.cB c.C top r⟩:=Xx (λz=>by unfold Mx.g at z;lia);show kt G _ _ _ c r (by rw[es];show s) O2 hR d Q s2
def j_:cf:=λg st K=>∃(b f c d N w top p e u:Nat) (A0 A U C:List (List Int)),g=[.ref b,.int top,.int p]/\Bn st b f c d A U C/\Mx.Tn A0 A U C N w/\N<=8/\w<=9/\p<w/\top<N/\0<Mx.g A top p/\(∀q,q<p->Mx.g A top q=0)/\
 (∀q,(Mx.g A top q).natAbs<=2^e/\(Mx.g U top q).natAbs<=2^e/\(Mx.g C top q).natAbs<=2^e)/\(∀i q,i<top->(Mx.g A i q).natAbs<=2^u/\(Mx.g U i q).natAbs<=2^u/\(Mx.g C i q).natAbs<=2^u)/\e<=60000000/\u<=60000000/\
 ∀a,Bn a b f c d (Mx.n9 p top top ⟨A,U,C⟩).A (Mx.n9 p top top ⟨A,U,C⟩).U (Mx.n9 p top top ⟨A,U,C⟩).C->(∀m,m≠f->m≠c->m≠d->a[m]?=st[m]?)->Mx.tP A0 N w top p e u ⟨A,U,C⟩ top (Mx.n9 p top top ⟨A,U,C⟩)->K .av a
def j0:List Str:=["self","top","place","k"]
def ur:DS:=(j5 (gO (ae (aa 1) ai)) (cM 3) (fz (cQ aI "take" nh (aa 0) (ae (aa 3) (ae (ak kH (ak aN (ak aN (bX aI "body" (aa 0)) (aa 3)) (aa 2)) (ak aN (ak aN (bX aI "body" (aa 0)) (aa 1)) (aa 2))) (ae (aa 1) ai))))))
def HE{X:List (List Int)}{i:Nat}(a:x∈X.getD i []):∃q,x=Mx.g X i q:=by
 obtain⟨c,b,rfl⟩:=Yh.mp a;show⟨c,by unfold Mx.g;rw[Mx.aJ b]⟩
def tN:Xq j_ 3 ur j0:=by
 rintro ds st K ⟨b,y,t,v,N,w,top,p,e,u,A0,A,U,C,rfl,B,T,X,S,G,E,o,R,d,h,he,hu,Q⟩;show⟨rfl,?_⟩;show jT ⟨by lia,by lia⟩ ?_;rw[Yb];show kq top (λk σ a=>∃z:Option D,σ=[some (.ref b),some (.int top),some (.int p),z]/\Bn a b y t v (Mx.n9 p top k ⟨A,U,C⟩).A (Mx.n9 p top k ⟨A,U,C⟩).U (Mx.n9 p top k ⟨A,U,C⟩).C/\(∀m,m≠y->m≠t->m≠v->a[m]?=st[m]?)/\Mx.tP A0 N w top p e u ⟨A,U,C⟩ k (Mx.n9 p top k ⟨A,U,C⟩)) ?_ ?_ ⟨none,rfl,B,λ_ _ _ _=>rfl,Mx.tP.start T λq=>(d q).2.2⟩
 . rintro σ a ⟨z,rfl,g,f,I⟩;show Q a g f I
 rintro k σ a rest hk ⟨z,rfl,g,f,I⟩ next
 show⟨_,rfl,?_⟩;let V:=I.step hk E G o R (λq=>⟨(d q).1,(d q).2.1⟩) h;generalize W:Mx.n9 p top k ⟨A,U,C⟩=c at*;let lA:=I.tn.isA.len;let H:k<N:=()
 let s:∀i q,k<=i->Mx.g c.A i q=Mx.g A i q:=λi q r=>by unfold Mx.g;rw[(I.rA i r).1]
 let Y:∀i q,k<=i->Mx.g c.U i q=Mx.g U i q:=λi q r=>by unfold Mx.g;rw[(I.rA i r).2]
 let Z:∀i q,i≠top->Mx.g c.C i q=Mx.g C i q:=λi q r=>by unfold Mx.g;rw[I.rC i r]
 let F:((Mx.g c.A k p).fdiv (Mx.g c.A top p)).natAbs<=2^u:=by
  rw[s k p (Xv _),s top p ()];show Xy (Mx.jw _ o) (h k p hk).1
 let n:Mx.g c.A top p≠0:=by rw[s top p ()];lia
 show de g.eb rfl (aR g.eb rfl (aB (aE g.e1) (e_ ()) (aB rfl (qK (by rw[Mx.dQ I.tn.isA H];show G)) (aR g.eb rfl (aB (aE g.e1) (e_ ()) (aB rfl (qK (by rw[Mx.dQ I.tn.isA E];show G)) (jv n ?_)))))));show⟨b,y,t,v,N,w,k,top,c.A,c.U,c.C,_,rfl,g,I.tn.isA,I.tn.fB,I.tn.ig,H,E,X,S,λx l=>?_,λx l=>?_,λx l=>?_,λP B2 l2 f2=>?_⟩
 . obtain⟨q,rfl⟩:=HE l;rw[s top q ()];show fx (by rw[Y4];show F) (d q).1 ()
 . obtain⟨q,rfl⟩:=HE l;rw[Y top q ()];show fx (by rw[Y4];show F) (d q).2.1 ()
 . obtain⟨q,rfl⟩:=HE l;rw[Z k q ()];show fx F (h k q hk).2.2 ()
 have O:Mx.n9 p top (k+1) ⟨A,U,C⟩=⟨Mx.cj c.A k ((Mx.g c.A k p).fdiv (Mx.g c.A top p)) top,Mx.cj c.U k ((Mx.g c.A k p).fdiv (Mx.g c.A top p)) top,Mx.cj c.C top (-((Mx.g c.A k p).fdiv (Mx.g c.A top p))) k⟩:=by rw[<-W];rfl
 show next _ _ ⟨_,rfl,?_,λm M L J=>(f2 m M L J).trans (f m M L J),?_⟩
 . rw[O];show B2
 rw[O];show V
structure Bk(st st':ag):Prop where
 le:st.length<=st'.length
 fr:∀m,m<st.length->m≠0->st'[m]?=st[m]?
 tb:∃f,st'[0]?=some (fP f)
def pN:cf:=λb st K=>∃(d:D) (N w e0:Nat) (A:List (List Int)) (f:Bool),b=[d]/\ki st d A/\Mx.dy N w A/\1<=N/\N<=8/\w<=9/\Mx.gS A N 0 (2^e0)/\(∀t,t<=N->Mx.Ez N e0 t<=50000000/\Mx.Vz N e0 t<=60000000)/\st[0]?=some (fP f)/\
 ∀a (top:Nat) (c:Mx.B3) (ld:Nat->Nat),Mx.rW A N w top c->Mx.ix A N w c top w ld (Mx.Ez N e0 top) (Mx.Vz N e0 top)->Bk st a->K (.tup [cw (c.A.take top),cw c.U,cw (Mx.jk c.C N)]) a
def yH:List Str:=["rows","bench","top","place","back"]
def Ii:DS:=(aw (aK 1 (pP aI mB (ae (aa 0) ai)))
 (aw (aK 2 (dC (.int 0)))
 (aw (j5 (gO (ae (bS dO (ae (ak aN (aa 0) (dC (.int 0))) ai)) ai)) (cM 3) (cK (aQ (cQ aI "gather" om (aa 1) (ae (aa 2) (ae (aa 3) ai)))) (aw (fz (cQ aI "lower_above" j_ (aa 1) (ae (aa 2) (ae (aa 3) ai))))
 (GY 2 (DQ (λi j=>i+j)) (dC (.int 1)))) cF))
 (aw (aK 4 (aA mi (ae (bX aI "back_columns" (aa 1)) (ae (bS dO (ae (aa 0) ai)) ai))))
 (aX (df (ae (aA qY (ae (iI (bX aI "body" (aa 1)) gh (kg (aa 2))) ai)) (ae (aA qY (ae (bX aI "turn" (aa 1)) ai)) (ae (aa 4) ai)))))))))
def J1{xs:List D}{j:Nat}:L3.cutD xs none (some (j:Int))=xs.take j:=by
 unfold L3.cutD;rw[HT.vS,HT.sY,abU,aby];by_cases h:j<=xs.length
 . rw[aaj h]
 rw[aaH (),List.take_length,Yz ()]
def vx{st a:ag}(c:st[0]?=some (fP f))(fr:∀m,m<st.length->m≠0->a[m]?=st[m]?)(h:items? st d=some xs):items? a d=some xs:=by
 cases d with
 |ref n=>
  have e:=Ke h;let b:n≠0:=vI e c;rw[aE ((fr n (Xs.mp e).1 b).trans e)]
 |_=>show h
def AZ{st a:ag}(b:st[0]?=some (fP f))(fr:∀m,m<st.length->m≠0->a[m]?=st[m]?):∀ {c:List D} {A:List (List Int)},dg st c A->dg a c A
 | [],[],_=>trivial
 |_::_,_::_,h=>⟨vx b fr h.1,AZ b fr h.2⟩
def zd{st a:ag}(b:st[0]?=some (fP f))(fr:∀m,m<st.length->m≠0->a[m]?=st[m]?)(h:ki st d A):ki a d A:=by
 obtain⟨g,e,c⟩:=h.ex;show⟨g,vx b fr e,AZ b fr c⟩
def Fs:Xq pN 1 Ii yH:=by
 rintro ds st K ⟨d,N,w,b,A,f,rfl,hd,hA,a7,Y,hw,ar,u,h0,kk⟩;show⟨rfl,?_⟩;let lA:=hA.len;let W:0<st.length:=(Xs.mp h0).1;let a0:ki (st++[Cell.ins aI []]) d A:=zd h0 (λm M _=>XA M) hd;show⟨st.length,N,d,A,rfl,by simp,a0,lA,Y,λs B1 l1 f1=>⟨rfl,?_⟩⟩;let av:(st++[Cell.ins aI []]).length=st.length+1:=by simp
 let X:∀m,m<st.length->s[m]?=st[m]?:=λm M=>by rw[f1 m () (),XA M]
 let O1:Bo st.length st s st.length (st.length+1) (st.length+1+1) (st.length+1+2):=⟨⟨W,by lia,by lia,by lia,by lia⟩,λm M _=>X m M,f,(X 0 W).trans h0⟩
 rw[av]at B1;let Q:∀ {a:ag},(∀m,m<st.length->m≠0->a[m]?=st[m]?)->ki a d A:=λh=>zd h0 h hd;obtain⟨da,aO,L⟩:=(Q O1.fr).ex;let a6:=L.len
 let E:∃d0,da[0]?=some d0/\items? s d0=some (ao (A.getD 0 [])):=by
  let F:0<da.length:=()
  obtain⟨r,e1,e2⟩:=dg.get L (XC F);show⟨da[0],XC F,?_⟩;let:A.getD 0 []=r:=by rw[XD,e1];rfl
  rw[this];show e2
 obtain⟨d0,a4,az⟩:=E;let er:(ao (A.getD 0 [])).length=w:=by unfold ao;rw[Xr];show Mx.dQ hA ()
 try dsimp only[ai]
 show dJ (A:=aK 2 _) (λσ a=>σ=[some d,some (.ref st.length),some (.int 0),none,none]/\a=s) (λnx h=>h _ _ ⟨rfl,rfl⟩) ?_;rintro _ _ ⟨rfl,rfl⟩;show dJ (A:=j5 _ _ _) (λσ a=>∃(top l g k:Nat) (C:Option D) (c:Mx.B3) (n:Nat->Nat),σ=[some d,some (.ref st.length),some (.int top),C,none]/\Bn a st.length l g k c.A c.U c.C/\Bo st.length st a st.length l g k/\Mx.rW A N w top c/\Mx.ix A N w c top w n (Mx.Ez N b top) (Mx.Vz N b top)) (λnx aq=>?_) ?_
 . show aB aO (show eF da 0=some d0 from fb (j:=0) a4) (cJ az ?_);rw[er];show jT ⟨by lia,by lia⟩ ?_;rw[Yb];show kq w (λp σ a=>∃(top l g k:Nat) (C:Option D) (c:Mx.B3) (n:Nat->Nat),σ=[some d,some (.ref st.length),some (.int top),C,none]/\Bn a st.length l g k c.A c.U c.C/\Bo st.length st a st.length l g k/\Mx.rW A N p top c/\Mx.ix A N w c top p n (Mx.Ez N b top) (Mx.Vz N b top)) ?_ ?_ ⟨0,_,_,_,none,⟨A,Mx.units N,Mx.units N⟩,λ_=>0,rfl,B1,O1,.start,Mx.ix.start hA ar⟩
   . rintro σ a ⟨top,l,g,k,C,c,n,rfl,B,O,H,S⟩;show aq _ _ ⟨top,l,g,k,C,c,n,rfl,B,O,H,S⟩
   rintro p σ a rest hp ⟨top,l,g,k,C,c,n,rfl,B,O,H,S⟩ next
   show⟨_,rfl,?_⟩;let P:=S.le
   let ab:(N-top+1)*(Mx.Ez N b top+1)<=60000000:=by
    by_cases t:top<N
    . show Xy (u (top+1) t).1 ⋯
    have e:N-top=0:=()
    rw[e];let:=(u top P).1;lia
   show de B.eb rfl ?_;show⟨st.length,st.length,l,g,k,N,w,top,p,_,_,A,c.A,c.U,c.C,n,rfl,B,⟨O.lo,λ_ _ _=>rfl,O.tb⟩,S,Y,hw,hp,ab,λo B2 G Z=>?_,λo z x y c2 r B2 G hR Z t v=>?_⟩
   . show yT (next _ _ ⟨top,l,g,k,_,c,n,rfl,B2,⟨G.lo,λm V U=>(G.fr m V U).trans (O.fr m V U),G.tb⟩,.next H (.none Z),S.skip Z⟩)
   show dN ?_;let O2':Bo st.length st o st.length z x y:=⟨G.lo,λm V U=>(G.fr m V U).trans (O.fr m V U),G.tb⟩
   let ah:∀i q,i<top->Mx.g (Mx.setB c2 p top r).A i q=Mx.g c.A i q/\Mx.g (Mx.setB c2 p top r).U i q=Mx.g c.U i q/\Mx.g (Mx.setB c2 p top r).C i q=Mx.g c.C i q:=λi q F=>by
    obtain⟨a1,a2,a3⟩:=v.up i F;unfold Mx.g;rw[a1,a2,a3];show⟨rfl,rfl,rfl⟩
   show de B2.eb rfl ?_;show⟨st.length,z,x,y,N,w,top,p,Mx.Ez N b (top+1),Mx.Vz N b top,A,_,_,_,rfl,B2,v.tn,Y,hw,hp,t,v.tp,λq hq=>v.zs top q (Xv _) t hq,λq=>⟨v.lo.1 top q (Xv _) t,v.lo.2.1 top q (Xv _) t,v.lo.2.2 top q (Xv _) t⟩,λi q F=>?_,Xy (u (top+1) t).1 ⋯,Xy (u top P).2 ⋯,λa5 B3 f3 I=>?_⟩
   . obtain⟨a1,a2,a3⟩:=ah i q F;rw[a1,a2,a3];show S.hi i q F
   have hS:=Mx.mK.next (e':=Mx.Ez N b (top+1)) (u':=Mx.Vz N b (top+1)) S v t I Y (by change _<=Mx.Vz N b top+Mx.Vz N b top+Mx.Ez N b (top+1)+5;lia) (by change _<=Mx.Vz N b top+Mx.Vz N b top+Mx.Ez N b (top+1)+5;lia);show next _ _ ⟨top+1,z,x,y,_,_,_,rfl,B3,O2'.low f3,.next H (.one hR Z),hS⟩
 rintro σ o ⟨top,l,g,k,C,c,n,rfl,B,O,H,S⟩;let T:=S.tn;let lN:=T.isA.len;show aR B.eb rfl ?_;obtain⟨bb,R,J⟩:=(Q O.fr).ex;show cJ R ?_;rw[J.len,lA];show⟨_,c.C,N,rfl,⟨_,aE B.e3,dg.lst⟩,T.ig.jN,by rw[T.ig.len];lia,by lia,?_⟩;show aR B.eb rfl (K5 B.e1 ?_);rw[J1,<-abb];show⟨_,c.A.take top,rfl,⟨_,rfl,dg.lst⟩,by rw[YD];lia,?_⟩;show aR B.eb rfl ?_;show⟨_,c.U,rfl,⟨_,aE B.e2,dg.lst⟩,by rw[T.fB.len];lia,?_⟩;show⟨by change 3<=sizeLine;decide,?_⟩;show kk o top c n H S ⟨?_,O.fr,O.tb⟩;let:=(Xs.mp B.eb).1;lia
def drop_cons{F:List (List Int)}{i:Nat}{rest:List D}(a:d::rest=(F.map aj).drop i):i<F.length/\d=aj (F.getD i [])/\rest=(F.map aj).drop (i+1):=by
 let b:i<F.length:=by
  rcases ZK i F.length with h|h
  . show h
  rw[Zo (by rw[Xr];show h)]at a;cases a
 rw[X9 (by rw[Xr];show b),ZM]at a;obtain⟨e,c⟩:=aba a;show⟨b,by rw[Mx.aJ b];show e,c⟩
def drop_nil{F:List (List Int)}{i:Nat}(a: []=(F.map aj).drop i):F.length<=i:=by
 let:=YK List.length a;rw[YG,Xr,Zf]at this;lia
structure Wg(F:List (List Int))(m w f:Nat):Prop where
 is:Mx.dy m w F
 st:Mx.fj F m w (Mx.dw F)
 m8:m<=8
 w8:w<=8
 sm:∀k c,k<m->c<w->(Mx.g F k c).natAbs<=2^f
abbrev Wf(F:List (List Int))(m w:Nat):Prop:=Wg F m w 887
def Wg.lead{F:List (List Int)}{m w f i:Nat}(h:Wg F m w f)(b:i<m):Mx.dw F i<w/\0<Mx.g F i (Mx.dw F i)/\(F.getD i []).length=w/\jt (F.getD i [])= .int ((Mx.dw F i:Nat):Int):=by
 obtain⟨d,a,c⟩:=h.st.lead i b;show⟨d,a,h.is.row b,?_⟩;unfold jt;rw[Bf c (ZL a)]
def Wg.row{F:List (List Int)}{m w f i:Nat}(h:Wg F m w f)(a:i<m):∀x∈F.getD i [],x.natAbs<=2^f:=λx b=>by
 obtain⟨c,d,rfl⟩:=Yh.mp b;let e:=h.is.row a;let:=h.sm i c a ();unfold Mx.g at this;rwa [Mx.aJ d]at this
def bo{i:Nat}{st:ag}{K:DK}(h:σ[i]?=some (some d))(k:K d st):aa i σ st K:=by
 unfold aa;simp![h];show k
def q_:cf:=λd st K=>∃(c:D) (F:List (List Int)) (r:List Int) (m w f:Nat),d=[cw F,c]/\Wg F m w f/\items? st c=some (ao r)/\r.length=w/\(∀i,i<m->∀b∈F.getD i [],IntMulOk (-(Mx.qL F (Mx.eZ F r i) i)) b)/\∀a,Ext st a->K (.tup [aj (Mx.qh F r m),aj (Mx.eZ F r m)]) a
def A4:List Str:=["form","row","weights","left","each","lead","weight"]
def Ll:DS:=(aw (aK 2 (Af ai))
 (aw (aK 3 (bS qX (ae (aa 1) ai)))
 (aw (j5 (fU (aa 0)) (cM 4) (aw (aK 5 (aA iG (ae (aa 4) ai)))
 (aw (aK 6 (ak kH (ak aN (aa 3) (aa 5)) (ak aN (aa 4) (aa 5))))
 (aw (fz (jf (aa 2) (aa 6)))
 (aK 3 (aA mW (ae (aa 3) (ae (nU jd (aa 6)) (ae (aa 4) ai)))))))))
 (aX (df (ae (bS cY (ae (aa 2) ai)) (ae (bS cY (ae (aa 3) ai)) ai)))))))
def GQ:Xq q_ 2 Ll A4:=by
 rintro O st K ⟨G,F,r,m,w,f,rfl,d,A,y,B,k⟩;show⟨rfl,?_⟩;let t:=d.is.len;let J:=d.m8;let I:=d.w8;show⟨Xz rfl,?_⟩;let v:Ext st (st++[.lst []]):=Ext.push;let E:(st++[Cell.lst []])[st.length]?=some (.lst (ao [])):=by simp
 show v7 (v.items A) (jV ?_);show jS (λrest σ b=>∃(i:Nat) (l h g:Option D),i<=m/\rest=(F.map aj).drop i/\σ=[some (cw F),some G,some (.ref st.length),some (cm (Mx.eZ F r i)),l,h,g]/\Ext st b/\b[st.length]?=some (.lst (ao (Mx.qh F r i)))) ?_ ?_ _ _ _ ⟨0,none,none,none,Yc _,rfl,rfl,v,E⟩
 . rintro σ b ⟨i,l,h,g,u,a,rfl,X,e⟩;let C:i=m:=abF u (by rw[<-t];show drop_nil a);subst C;show⟨trivial,cL (aE e) (cL rfl ⟨Xz rfl,k b X⟩)⟩
 rintro x rest σ b ⟨i,l,h,g,u,a,rfl,X,e⟩ next
 obtain⟨o,rfl,rfl⟩:=drop_cons a;let c:i<m:=by rw[<-t];show o
 obtain⟨N,M,H,p⟩:=d.lead c;let L:=Mx.pU d.is y (i:=i) (YN c);show⟨trivial,_,rfl,_,F.getD i [],rfl,rfl,?_⟩;rw[p];let s:eF (ao (F.getD i [])) ((Mx.dw F i:Nat):Int)=some (.int (Mx.g F i (Mx.dw F i))):=mT ();let q:eF (ao (Mx.eZ F r i)) ((Mx.dw F i:Nat):Int)=some (.int ((Mx.eZ F r i).getD (Mx.dw F i) 0)):=mT ();show aB rfl q (aB rfl s (jv () ?_));change aw _ _ _ [_,_,_,_,_,_,some (.int (Mx.qL F (Mx.eZ F r i) i))] _;let z:(Mx.qh F r i).length=i:=by unfold Mx.qh;simp
 show vo (by rfl) e (bo rfl (sf e (by rw[ZC,Xr,z];lia) ?_));let n:=(Xs.mp e).1;show jb ?_;show⟨_,_,_,Mx.eZ F r i,F.getD i [],rfl,rfl,rfl,by lia,B i c,?_⟩;show next _ _ ⟨i+1,_,_,_,c,rfl,rfl,X.set (Xv _),?_⟩
 rw[XE n,ints_app];congr 3;unfold Mx.qh;rw[ZW,YR];rfl
def An:cf:=λd st K=>∃(c:D) (F:List (List Int)) (r:List Int) (m w f:Nat),d=[cw F,c]/\Wg F m w f/\items? st c=some (ao r)/\r.length=w/\(∀i,i<m->∀b∈F.getD i [],IntMulOk (-(Mx.qL F (Mx.eZ F r i) i)) b)/\∀a,Ext st a->K (aj (Mx.eZ F r m)) a
def FH:List Str:=["form","row"]
def P9:DS:=(aX (ak aN (aA q_ (ae (aa 0) (ae (aa 1) ai))) (dC (.int 1))))
def Mv:Xq An 2 P9 FH:=by
 rintro h st K ⟨g,F,r,m,w,f,rfl,e,c,b,d,k⟩;show⟨rfl,g,F,r,m,w,f,rfl,e,c,b,d,λa X=>aB rfl rfl (k a X)⟩
def CU(st:ag):List D->List Rat->Prop
 | [],[]=>True
 |d::ds,q::qs=>items? st d=some [.int q.num,.int ((q.den:Nat):Int)]/\CU st ds qs
 |_,_=>False
def CU.of{st:ag}:∀ {a:List Rat},CU st (a.map lY) a
 | []=>trivial
 |_::_=>⟨rfl,CU.of⟩
def rE:cf:=λc st K=>∃(b a:D) (xs:List D) (ps:List Rat) (r:List Int) (t e:Nat),c=[b,a]/\items? st b=some xs/\CU st xs ps/\items? st a=some (ao r)/\Mx.Pb ps t/\(∀x∈r,x.natAbs<=2^e)/\t+ps.length*(e+1)<=60000000/\K (lY (Mx.nS 0 ps r)) st
def wO:List Str:=["parts","row","total","one","number"]
def Ff:DS:=(aw (aK 2 (aA oq (ae (dC (.int 0)) ai)))
 (aw (j5 (pB (ae (aa 0) (ae (aa 1) ai))) (gN 3 4) (aK 2 (aA Dm (ae (aa 2) (ae (aA zR (ae (aa 3) (ae (aA oq (ae (aa 4) ai)) ai))) ai)))))
 (aX (aa 2))))
def Eb:Xq rE 2 Ff wO:=by
 rintro V st K ⟨R,Q,L,H,r,t,e,rfl,B,y,A,P,z,U,k⟩;show⟨rfl,?_⟩;show⟨_,rfl,?_⟩;show lQ B A λok J=>?_;show jS (λrest σ o=>o=st/\∃(c:List D) (b:List Rat) (g:List Int) (jh:Rat) (T C:Nat) (v u:Option D),rest=fF c (ao g)/\CU st c b/\σ=[some R,some Q,some (lY jh),v,u]/\Mx.Sz jh T/\Mx.Pb b C/\(∀x∈g,x∈r)/\Mx.nS jh b g=Mx.nS 0 H r/\T+C+b.length*(e+1)<=60000000) ?_ ?_ _ _ _ ⟨rfl,L,H,r,0,0,t,none,none,rfl,y,rfl,⟨by decide,by decide⟩,P,λ_ h=>h,rfl,by lia⟩
 . rintro σ o ⟨rfl,c,b,g,jh,T,C,v,u,l,f,rfl,F,I,_,q,m⟩;show⟨J _ B A,?_⟩
   let:Mx.nS jh b g=jh:=by
    match c,b,g,f,l with
    | [],[],_,_,_=>unfold Mx.nS;rfl
    |_::_,_::_,[],_,_=>unfold Mx.nS;rfl
    |_::_,_::_,_::_,_,l=>cases l
   rw[<-q,this]at k;show k
 rintro x rest σ o ⟨rfl,c,b,g,jh,T,C,v,u,l,f,rfl,F,I,s,q,m⟩ next
 match c,b,g,l,f,I,s,q,m with
 | [],[],_,l,_,_,_,_,_=>cases l
 |_::_,_::_,[],l,_,_,_,_,_=>cases l
 |d::c,p::b,n::g,l,f,⟨a,S,E,G,O⟩,s,q,m=>
  have M:fF (d::c) (ao (n::g))= .tup [d,.int n]::fF c (ao g):=rfl;rw[M,aaS]at l;obtain⟨rfl,rfl⟩:=l;let N:=z n (s n XX);rw[XT,Y7]at m;let w:=Mx.Sz.int N;show⟨J _ B A,_,rfl,?_⟩;show⟨_,rfl,d,_,p,(n:Rat),a,e,rfl,⟨f.1,E⟩,Fq.of w,by lia,?_⟩;show⟨_,_,jh,p*(n:Rat),T,a+e,rfl,Fq.of F,Fq.of (E.mul w),by lia,?_⟩;show next _ _ ⟨rfl,c,b,g,_,_,S,_,_,rfl,f.2,rfl,F.add (E.mul w),G,λx y=>s x (XN _ y),q,by lia⟩
def rN:cf:=λa st K=>∃(F:List (List Int)) (R:List Int) (m w l:Nat),a=[cw F,aj R,.int l]/\Wf F m w/\R.length=w/\l<w/\∀b:Int,Mx.Gu F m l (R.getD l 0) b->K (.int b) st
def w9:List Str:=["form","rest","place","row"]
def Fb:DS:=(aw (j5 (fU (aa 0)) (cM 3) (cK (aQ (ak i8 (aA iG (ae (aa 3) ai)) (aa 2))) (aX (ak aN (aa 3) (aa 2))) cF))
 (aX (ak cP (dC (.int 2)) (bS uN (ae (ak aN (aa 1) (aa 2)) ai)))))
def EC:Xq rN 3 Fb w9:=by
 rintro z st K ⟨F,R,m,w,l,rfl,n,t,y,k⟩;show⟨rfl,?_⟩;let o:=n.is.len;show jV ?_;show jS (λrest σ b=>b=st/\∃(i:Nat) (d:Option D),i<=m/\rest=(F.map aj).drop i/\σ=[some (cw F),some (aj R),some (.int l),d]/\∀k,k<i->Mx.dw F k≠l) ?_ ?_ _ _ _ ⟨rfl,0,none,Yc _,rfl,rfl,λk h=>absurd h (XZ _)⟩
 . rintro σ b ⟨rfl,i,d,p,a,rfl,e⟩;let:=drop_nil a;show⟨trivial,aB rfl (mT ()) (yJ (cR (dj ⋯ ⋯) (k _ (.inr ⟨λk hk=>e k (),rfl⟩))))⟩
 rintro x rest σ b ⟨rfl,i,d,p,a,rfl,e⟩ next
 obtain⟨f,rfl,rfl⟩:=drop_cons a;let c:i<m:=by rw[<-o];show f
 obtain⟨v,u,s,g⟩:=n.lead c;show⟨trivial,_,rfl,_,F.getD i [],rfl,rfl,?_⟩;rw[g];show eq2 (λh=>dN ?_) λh=>next _ _ ⟨rfl,i+1,_,c,rfl,rfl,λk hk=>?_⟩
 . have r:Mx.dw F i=l:=()
   show aB rfl (mT ()) (k _ (.inl ⟨i,c,r,rfl⟩))
 by_cases q:k=i
 . subst q;lia
 show e k ()
def Bp:∀(r:List Int) (i l:Nat),lB r i=some l->∃k,l=i+k/\k<r.length/\r.getD k 0≠0/\∀c,c<k->r.getD c 0=0
 | [],_,_,h=>by cases h
 |x::r,i,l,h=>by
  unfold lB at h;split at h
  . rename_i d;obtain⟨k,e,hk,f,b⟩:=Bp r (i+1) l h;show⟨k+1,by lia,abw hk,f,λc a=>?_⟩;cases c with
    |zero=>show d
    |succ c=>show b c (Nat.lt_of_succ_lt_succ a)
  cases h;show⟨0,rfl,Nat.succ_pos _,by assumption,λc a=>absurd a (XZ _)⟩
def w_{r:List Int}(h:qk r=some l):l<r.length/\r.getD l 0≠0/\∀c,c<l->r.getD c 0=0:=by
 obtain⟨k,e,d,b,a⟩:=Bp r 0 l h;rw[Z5]at e;subst e;show⟨d,b,a⟩
def nN:cf:=λd st K=>∃(F:List (List Int)) (R:List Int) (m w e l:Nat),d=[cw F,aj R]/\Wf F m w/\R.length=w/\qk R=some l/\(∀c,c<w->(R.getD c 0).natAbs<=2^e)/\e<=10000/\∀a b,Ext st a->Mx.Gu F m l (R.getD l 0) b->Mx.Pb (Mx.pF F m w l (Mx.lO w l b) m) 10000000->K (.tup ((Mx.pF F m w l (Mx.lO w l b) m).map lY)) a
def rB:List Str:=["form","rest","place","parts","k","lead","owed"]
def ym:DS:=(aw (aK 2 (aA iG (ae (aa 1) ai)))
 (aw (aK 3 (ak yk (Av (ae (aA oq (ae (dC (.int 0)) ai)) ai)) (bS dO (ae (aa 1) ai))))
 (aw (dD (aa 3) (aa 2) (aA qv (ae (dC (.int 1)) (ae (aA rN (ae (aa 0) (ae (aa 1) (ae (aa 2) ai)))) ai))))
 (aw (j5 (Ad (ae (ak jr (bS dO (ae (aa 0) ai)) (dC (.int 1))) (ae (nU jd (dC (.int 1))) (ae (nU jd (dC (.int 1))) ai)))) (cM 4) (aw (aK 5 (aA iG (ae (ak aN (aa 0) (aa 4)) ai)))
 (cK (aQ (ak sH (aa 5) (aa 2))) (aw (aK 6 (aA zZ (ae (aA oq (ae (dC (.int 0)) ai)) (ae (aA rE (ae (aa 3) (ae (ak aN (aa 0) (aa 4)) ai))) ai))))
 (dD (aa 3) (aa 5) (aA EA (ae (aa 6) (ae (aA oq (ae (ak aN (ak aN (aa 0) (aa 4)) (aa 5)) ai)) ai))))) cF)))
 (aX (bS cY (ae (aa 3) ai)))))))
def oN(a:Int)(n:Nat):(ju a n).length=n:=by unfold ju;simp
def IZ{m i:Nat}{rest:List D}(a:d::rest=(ju ((m:Int)-1) m).drop i):i<m/\d= .int ((m-1-i:Nat):Int)/\rest=(ju ((m:Int)-1) m).drop (i+1):=by
 let b:i<m:=by
  rcases ZK i m with h|h
  . show h
  rw[Zo (by rw[oN];show h)]at a;cases a
 let c:i<(ju ((m:Int)-1) m).length:=by rw[oN];show b
 rw[X9 c]at a;obtain⟨g,f⟩:=aba a;show⟨b,?_,f⟩;let e:(ju ((m:Int)-1) m)[i]=D.int ((m:Int)-1+(i:Nat)*(-1)):=by simp[ju]
 rw[g,e];congr 1;lia
def AB{A:List (List Int)}{k:Nat}(h:k<A.length):eF (A.map aj) (k:Int)=some (aj (A.getD k [])):=by
 show fb ?_;rw[XJ,XC h,Mx.aJ h];rfl
def DH{α:Type}(d:α):∀n:Nat,(List.replicate n [d]).flatten=List.replicate n d
 |0=>rfl
 |n+1=>by rw[Yw,YZ,DH d n,Yw];rfl
def Wk{a:List Rat}{r:List Int}(d:a.length=w)(b:r.length=w):Mx.nS 0 a r=Mx.dq a w λc=>r.getD c 0:=by
 rw[Mx.K_ a r 0 d b];grind
def x8:Xq nN 2 ym rB:=by
 rintro ds st K ⟨F,R,m,w,e,l,rfl,f,J,V,bR,he,k⟩;show⟨rfl,?_⟩;let lF:=f.is.len;let m8:=f.m8;let w8:=f.w8;obtain⟨z,L,_⟩:=w_ V;rw[J]at z;let S:jt R= .int (l:Int):=by unfold jt;rw[V]
 show⟨_,R,rfl,rfl,?_⟩;rw[S];show⟨_,rfl,Xz rfl,cJ rfl (O6 ⟨by lia,by rw[Xr];lia,cD (by simp;lia)⟩ ?_)⟩;rw[Xr,J,Yb,DH];let er:List.replicate w (lY ((0:Int):Rat))=(List.replicate w (0:Rat)).map lY:=by rw[List.map_replicate];rfl
 rw[er];let W:Ext st (st++[.lst ((List.replicate w (0:Rat)).map lY)]):=Ext.push;let T:(st++[Cell.lst ((List.replicate w (0:Rat)).map lY)])[st.length]?=some (.lst ((List.replicate w (0:Rat)).map lY)):=by simp
 generalize st++[Cell.lst ((List.replicate w (0:Rat)).map lY)]=st1 at W T⊢;show⟨F,R,m,w,l,rfl,f,J,z,λb O=>?_⟩;let b0:=O.pos f.st L
 let bb:b.natAbs<=2^(e+888):=by
  rcases O with⟨k,hk,_,rfl⟩|⟨_,rfl⟩
  . show Xy (f.sm k l hk z) (XO ⋯ ())
  have:=bR l z;rw[show e+888=e+887+1 by lia,YI];let p:2^e<=2^(e+887):=XO ⋯ ();lia
 show⟨_,_,rfl,by lia,?_⟩
 let B:∀ {n i:Nat},i<n->kE n (i:Int)=some i:=λ{n i} h=>by
  unfold kE;simp![aao,Yb];simp[h]
 show fE T (B (by simpa using z)) ?_;let M:=(Xs.mp T).1;show cJ rfl (gX (jb (jb ?_)));rw[Xr,lF];show OH ⟨by lia,by lia,by decide,by decide⟩ ?_;rw[show((m:Int)-1- -1).toNat=m by lia]
 let Z:Mx.Pb (Mx.lO w l b) (e+888):=by
  let:=(Mx.Pb.rep w).set (k:=l) (Mx.Sz.of (t:=1) () (show(1:Int).natAbs<=2^(e+888)from ZX ⋯) bb);rwa [Z5]at this
 show jS (λrest σ d=>∃(i t:Nat) (I H G:Option D),i<=m/\rest=(ju ((m:Int)-1) m).drop i/\σ=[some (cw F),some (aj R),some (.int l),some (.ref st.length),I,H,G]/\Ext st d/\d[st.length]?=some (.lst ((Mx.pF F m w l (Mx.lO w l b) i).map lY))/\Mx.Pb (Mx.pF F m w l (Mx.lO w l b) i) t/\t+8000<=2^i*(e+8888)) ?_ ?_ _ _ _ ⟨0,e+888,none,none,none,Yc _,rfl,rfl,W.set (Xv _),by rw[XE M,<-Y8];rfl,Z,by lia⟩
 . rintro σ d ⟨i,t,I,H,G,U,c,rfl,X,y,u,ht⟩
   let e1:i=m:=by
    let:=YK List.length c;rw[YG,oN,Zf]at this;lia
   subst e1;let v:2^i<=256:=Xy (XO ⋯ m8) ⋯;let:=Yj v (show e+8888<=18888 by lia);show⟨trivial,cL (aE y) (k d b X O (u.mono ()))⟩
 rintro x rest σ d ⟨i,t,I,H,G,U,c,rfl,X,y,u,ht⟩ next
 obtain⟨C,rfl,rfl⟩:=IZ c;let P:=Mx.qz.all b f.st z (i:=i) U;let a:Mx.pF F m w l (Mx.lO w l b) (i+1)=Mx.K7 F w l (Mx.pF F m w l (Mx.lO w l b) i) (m-1-i):=rfl;generalize Mx.pF F m w l (Mx.lO w l b) i=ps at P u y a;generalize hj:m-1-i=j at a;let g:j<m:=()
 obtain⟨l1,l2,Y,Q⟩:=f.lead g;let lp:=P.len;let q:eF (F.map aj) (j:Int)=some (aj (F.getD j [])):=AB ();show⟨trivial,_,rfl,aB rfl q ⟨_,F.getD j [],rfl,rfl,?_⟩⟩;rw[Q];let v:2^i<=128:=Xy (XO ⋯ (show i<=7 by lia)) ⋯;let ab:=Yj v (show e+8888<=18888 by lia);let e2:2^(i+1)*(e+8888)=2^i*(e+8888)+2^i*(e+8888):=by rw[YI,Nat.mul_two,aag]
 unfold Mx.K7 at a;show N_ (λN=>dN ?_) λN=>?_
 . rw[XB ()]at a;let ah:ps.length*(887+1)<=8*888:=Yj () ⋯;show⟨_,rfl,aB rfl q ⟨_,_,_,ps,F.getD j [],t,887,rfl,aE y,CU.of,rfl,u,f.row g,by lia,?_⟩⟩;let E:=Mx.Pb.nS (r:=F.getD j []) (x:=0) (s:=0) ⟨by decide,by decide⟩ u (f.row g);rw[Wk lp Y]at E⊢;show⟨_,_,0,_,0,_,rfl,Fq.of ⟨by decide,by decide⟩,Fq.of E,by lia,?_⟩
   let o:(((Mx.g F j (Mx.dw F j):Int)):Rat).num≠0:=by
    change Mx.g F j (Mx.dw F j)≠0;lia
   let sg:=Mx.Sz.int (f.sm j _ g l1);show aB rfl q (aB rfl (mT ()) ⟨_,rfl,_,_,_,_,_,_,rfl,Fq.of E.neg,Fq.of sg,by lia,o,?_⟩);show fE y (B (by rw[Xr];lia)) ?_;let A:=(Xs.mp y).1;show next _ _ ⟨i+1,t+(0+t+ps.length*(887+1)+887),_,_,_,C,rfl,rfl,X.set (Xv _),?_,?_,?_⟩
   . rw[XE A,<-Y8,a];rfl
   . rw[a];show u.set (E.neg.div sg o)
   lia
 rw[Xx ()]at a;show next _ _ ⟨i+1,t,_,_,_,C,rfl,rfl,X,?_,?_,?_⟩
 . rw[a];show y
 . rw[a];show u
 lia
structure Vw(A:List (List Int))(N w:Nat)(r:List Int):Prop where
 is:Mx.dy N w A
 n1:1<=N
 n8:N<=8
 w8:w<=8
 bA:∀r∈A,∀x∈r,x.natAbs<=2^28
 lr:r.length=w
 br:∀x∈r,x.natAbs<=2^70
def oj:cf:=λc st K=>∃(U:List (List Int)) (N m e1:Nat) (f:Bool),c=[cw U,.int m]/\Mx.dy N N U/\m<=N/\N<=8/\Mx.gS (U.drop m) (N-m) 0 (2^e1)/\(∀t,t<=N-m->Mx.Ez (N-m) e1 t<=50000000/\Mx.Vz (N-m) e1 t<=60000000)/\st[0]?=some (fP f)/\∀a F b,Bk st a->b<=N-m->Wg F b N (Mx.Uz (N-m) e1 b)->Mx.zN F b (Mx.dw F)->Mx.Vg (U.drop m) (N-m) F b N->K (cw F) a
def sv:List Str:=["turn","many"]
def zS:DS:=(aX (JZ (aQ (ak sH (aa 1) (bS dO (ae (aa 0) ai)))) (ak aN (aA pN (ae (iI (aa 0) (kg (aa 1)) gh) ai)) (dC (.int 0))) (df ai)))
def xR{xs:List D}{j:Nat}:L3.cutD xs (some (j:Int)) none=xs.drop j:=by
 unfold L3.cutD;rw[HT.vS,HT.sY];by_cases h:j<=xs.length
 . rw[aaj h,Yz (by rw[YG];lia)]
 rw[aaH (),ZY (Xv _),ZY ()];simp
def Bk.ext{st b a:ag}(B:Bk st b)(X:Ext b a):Bk st a:=by
 let h:=B.le;obtain⟨f,e⟩:=B.tb;let c:=(Xs.mp e).1;show⟨by let:=X.len;lia,λm d g=>by rw[X.same m (),B.fr m d g],f,by rw[X.same 0 c];show e⟩
def Rl:8*((9*2^48)^9*(9*2^48)^8)<=2^887:=by decide+kernel
def fu{A:List (List Int)}{t i c:Nat}(h:i<t):Mx.g (A.take t) i c=Mx.g A i c:=by
 let e:(A.take t).getD i []=A.getD i []:=by rw[XD,XD,List.getElem?_take,XB h]
 unfold Mx.g;rw[e]
def QH{A:List (List Int)}{N w top e u:Nat}{c:Mx.B3}{ld:Nat->Nat}(H:Mx.ix A N w c top w ld e u)(g:Mx.dy N w A)(m:N<=8)(h:w<=8)(v:∀r∈A,∀x∈r,x.natAbs<=2^48):Wf (c.A.take top) top w:=by
 let le:=H.le;let z:=H.tn.isA.len
 let s:Mx.fj (c.A.take top) top w ld:=⟨λi a=>by
  obtain⟨t,p,o⟩:=H.lead i a;show⟨t,by rw[fu a];show p,λc f=>by rw[fu a];show o c f⟩,H.mono⟩
 let l:=(H.small m (b:=2^48) (ZX ⋯) λi c a f=>by
  let y:=g.len;let d:=g.row a;unfold Mx.g;show v _ (by rw[Mx.aJ ()];show Yd _) _ (getD_mem ())).2
 show⟨⟨by rw[YD];lia,λr d=>H.tn.isA.jN r (aac d)⟩,s.VZ,by lia,h,λk q hk n=>by rw[fu hk];show Xy (l k q hk n) Rl⟩
def yQ:Xq oj 2 zS sv:=by
 rintro M st K ⟨U,N,m,G,f,rfl,l,L,o,p,sz,n,k⟩;show⟨rfl,?_⟩;show cJ rfl ?_;rw[Xr,l.len];show N_ (λh=>dN ?_) λh=>?_
 . show mX ?_;rw[xR,<-abY];let t:Mx.dy (N-m) N (U.drop m):=⟨by rw[YG,l.len],λr a=>l.jN r (List.mem_of_mem_drop a)⟩
   show⟨_,N-m,N,G,U.drop m,f,rfl,vO,t,by lia,by lia,by lia,p,sz,n,λg top c v A H B=>aB rfl rfl ?_⟩;obtain⟨u,I⟩:=A.WH t p () (Xv _);let le:=H.le;let J:=H.tn.isA.len
   let s:Mx.fj (c.A.take top) top N v:=⟨λi d=>by
    obtain⟨F,E,C⟩:=H.lead i d;show⟨F,by rw[fu d];show E,λc y=>by rw[fu d];show C c y⟩,H.mono⟩
   show k g _ top B le ⟨⟨by rw[YD];lia,λr a=>H.tn.isA.jN r (aac a)⟩,s.VZ,by lia,o,λk q hk _=>by rw[fu hk];show(I.hi k q hk).1⟩ (λi j b e=>by rw[s.dw e,fu (aan b e),fu e];show H.red i j b e) ⟨λk hk=>by
    obtain⟨z,w⟩:=H.out k hk;show⟨z,λq x=>(w q x).trans (Mx.aG λi d=>by rw[fu d])⟩,λk hk=>(H.in k hk).eq λq _=>fu hk⟩
 show⟨Yc _,k st [] 0 ⟨Xv _,λ_ _ _=>rfl,f,n⟩ (Yc _) ⟨⟨rfl,λr a=>by cases a⟩,⟨λi h=>absurd h (XZ _),λi j _ h=>absurd h (XZ _)⟩,Yc _,o,λk c h=>absurd h (XZ _)⟩ (λi j _ h=>absurd h (XZ _)) ⟨λk h=>absurd h (),λk h=>absurd h (XZ _)⟩⟩
structure La(A:List (List Int))(N w:Nat)(r a:List Int)(F:List (List Int))(m f:Nat)(c:Mx.B3)(top:Nat):Prop where
 tn:Mx.Tn A c.A c.U c.C N w
 le:top<=N
 zs:∀i q,top<=i->i<N->q<w->Mx.g c.A i q=0
 wf:Wf (c.A.take top) top w
 rd:Mx.zN (c.A.take top) top (Mx.dw (c.A.take top))
 bU:∀i q,i<N->(Mx.g c.U i q).natAbs<=2^60000000
 bC:∀i q,i<N->(Mx.g c.C i q).natAbs<=2^60000000
 wg:Wg F m N f
 red:Mx.zN F m (Mx.dw F)
 JU:∀x,(∀q,q<w->(Mx.S N λn=>x n*Mx.g A n q)=0)↔Mx.gR F m N x
 la:a.length=N
 sum:∀q,q<w->(Mx.S N λn=>a.getD n 0*Mx.g A n q)=r.getD q 0
 Tb:∀i,i<m->0<=a.getD (Mx.dw F i) 0/\a.getD (Mx.dw F i) 0<Mx.g F i (Mx.dw F i)
 tok:∀j,top<=j->j<N->∀i,i<m->∀b∈F.getD i [],IntMulOk (-(Mx.qL F (Mx.eZ F (c.U.getD j []) i) i)) b
 rest:∀j,top<=j->j<N->Mx.gR F m N (Mx.g c.U j)
def W2(A:List (List Int))(N w:Nat)(r:List Int)(y:D):Prop:=
 (∃a F m f c top,La A N w r a F m f c top/\y= .tup [.str "told",aj a,cw F,cw c.U,cw (Mx.jk c.C N)])\/
 (∃b:List Rat,y= .tup [.str "none",.tup (b.map lY)]/\b.length=w/\Mx.Pb b 10000000/\(∀n,n<N->Mx.Wh (Mx.dq b w (Mx.g A n)))/\¬Mx.Wh (Mx.dq b w λc=>r.getD c 0))
def vd:cf:=λd st K=>∃(c b:D) (A:List (List Int)) (r:List Int) (N w:Nat) (f:Bool),d=[c,b]/\ki st c (Mx.jk A w)/\items? st b=some (ao r)/\Vw A N w r/\1<=w/\st[0]?=some (fP f)/\∀a y,Bk st a->W2 A N w r y->K y a
def Ba:List Str:=["rows","due","wide","told","form","turn","fallen","steps","answer"]
def LN:DS:=(aw (aK 2 (bS dO (ae (ak aN (aa 0) (dC (.int 0))) ai)))
 (aw (aK 3 (aA pN (ae (aA mi (ae (aa 0) (ae (aa 2) ai))) ai)))
 (aw (aK 4 (ak aN (aa 3) (dC (.int 0))))
 (aw (aK 5 (ak aN (aa 3) (dC (.int 1))))
 (aw (aK 6 (aA q_ (ae (aa 4) (ae (aa 1) ai))))
 (aw (cK (aQ (ak nP (aA iG (ae (ak aN (aa 6) (dC (.int 1))) ai)) (dC .av))) (aX (df (ae (dC (.str "none")) (ae (aA nN (ae (aa 4) (ae (ak aN (aa 6) (dC (.int 1))) ai))) ai)))) cF)
 (aw (aK 7 (aA oj (ae (aa 5) (ae (bS dO (ae (aa 4) ai)) ai))))
 (aw (aK 8 (aA An (ae (aa 7) (ae (aA xw (ae (ak aN (aa 6) (dC (.int 0))) (ae (iI (aa 5) gh (kg (bS dO (ae (aa 4) ai)))) (ae (aa 2) ai)))) ai))))
 (aX (df (ae (dC (.str "told")) (ae (aa 8) (ae (aa 7) (ae (aa 5) (ae (ak aN (aa 3) (dC (.int 2))) ai)))))))))))))))
def Gm{A:List (List Int)}{N w:Nat}(a:Mx.dy N w A):Mx.jk (Mx.jk A w) N=A:=
 (Mx.vc (Mx.vc a)).ext a λi j c b=>by rw[Mx.yn (Mx.vc a) b c,Mx.yn a c b]
def Hf{F:List (List Int)}{r:List Int}{m w e f:Nat}(a:Wg F m w f)(g:r.length=w)(p:∀c,c<w->(r.getD c 0).natAbs<=2^e)(s:e+m*(f+1)<=130000000):∀i,i<m->∀b∈F.getD i [],IntMulOk (-(Mx.qL F (Mx.eZ F r i) i)) b:=λi d b l=>by
 obtain⟨k,h,_⟩:=a.lead d;let o:=Mx.vX a.is g a.st a.sm p (YN d) _ k;let q:(Mx.qL F (Mx.eZ F r i) i).natAbs<=2^(e+i*(f+1)):=Xy (Mx.jw _ h) o;let n:(i+1)*(f+1)<=m*(f+1):=YV _ d;rw[Y7]at n;show fx (by rw[Y4];show q) (a.row d b l) ()
def IF:Xq vd 2 LN Ba:=by
 rintro ds st K ⟨d0,dr,A,r,N,w,f,rfl,ah,hr,⟨hA,n1,n8,w8,bA,L,br⟩,w1,h0,k⟩;show⟨rfl,?_⟩;let iT:=Mx.vc hA;let lT:=iT.len;obtain⟨da,a3,ra⟩:=ah.ex;obtain⟨bh,a5,a0⟩:=ra.at (k:=0) ();show aB a3 a5 (cJ a0 ?_);rw[Xr,iT.row (i:=0) w1];show⟨_,Mx.jk A w,N,rfl,ah,iT.jN,by lia,by lia,?_⟩;rw[Gm hA]
 let T:Mx.gS A N 0 (2^28):=λi c _ e=>by
  let lA:=hA.len;unfold Mx.g;by_cases hc:c<(A.getD i []).length
  . show bA _ (by rw[Mx.aJ ()];show Yd _) _ (getD_mem hc)
  rw[Mx.k5 ()];show Yc _
 show⟨_,N,w,28,A,f,rfl,vO,hA,n1,n8,by lia,T,λt ht=>Mx.S8 N () t (),h0,λbc top c ld hC H B=>?_⟩;let g:=QH H hA n8 w8 λr hr x hx=>Xy (bA r hr x hx) ⋯;let lF:=g.is.len;let M:∀i q,i<top->Mx.g (c.A.take top) i q=Mx.g c.A i q:=λi q e=>fu e;let t8:=g.m8;let le:=H.le;let a4:=g
 let aO:Mx.zN (c.A.take top) top (Mx.dw (c.A.take top)):=λi j Z o=>by
  let s:Mx.fj (c.A.take top) top w ld:=⟨λi e=>by
   obtain⟨E,v,h3⟩:=H.lead i e;show⟨E,by rw[fu e];show v,λc hc=>by rw[fu e];show h3 c hc⟩,H.mono⟩
  rw[s.dw o,fu (aan Z o),fu o];show H.red i j Z o
 generalize hF:c.A.take top=F at g lF M;let Q:∀c,c<w->(r.getD c 0).natAbs<=2^70:=λc hc=>br _ (getD_mem ());show aB rfl rfl (aB rfl rfl ?_);show⟨dr,F,r,top,w,887,rfl,g,vx h0 B.fr hr,L,Hf g L Q (),λbb X=>?_⟩;let B2:=B.ext X;let lR:=Mx.pU g.is L (Xv top);let Tb:=Mx.AD g.is L g.st (Xv top);let sm:=Mx.FI g.is L (Xv top);let ab:=Mx.vX g.is L g.st g.sm Q (Xv top);show aB rfl rfl ⟨_,Mx.eZ F r top,rfl,rfl,?_⟩;cases el:qk (Mx.eZ F r top)with
 |some l=>
  have eD:jt (Mx.eZ F r top)= .int (l:Int):=by unfold jt;rw[el]
  rw[eD];obtain⟨hl,Y,hz⟩:=w_ el;rw[lR]at hl;show jO rfl (dN (aB rfl rfl ⟨F,Mx.eZ F r top,top,w,70+top*(887+1),l,rfl,g,lR,el,ab,by lia,λJ b X3 hb hP=>⟨Xz rfl,?_⟩⟩));let P:=Mx.qz.all b g.st hl (Xv top);let wF:∀i,i<top->Mx.Wh (Mx.dq (Mx.pF F top w l (Mx.lO w l b) top) w (Mx.g F i)):=λi e=>P.whole g.st hl hb Y e;show k J _ (B2.ext X3) (.inr ⟨_,rfl,P.len,hP,λn hn=>?_,λz=>?_⟩)
  . have e1:Mx.dq (Mx.pF F top w l (Mx.lO w l b) top) w (Mx.g A n)=Mx.dq (Mx.pF F top w l (Mx.lO w l b) top) w λq=>Mx.S top λk=>Mx.g c.C k n*Mx.g F k q:=Mx.xv λq u=>by
     rw[H.back hn u];show Mx.aG λk hk=>by rw[M k q hk]
    rw[e1,Mx.Ep];show Mx.Hw λi e=>(wF i e).mul _
  have e1:Mx.dq (Mx.pF F top w l (Mx.lO w l b) top) w (λq=>r.getD q 0)=Mx.dq (Mx.pF F top w l (Mx.lO w l b) top) w (λq=>(Mx.eZ F r top).getD q 0)+Mx.dq (Mx.pF F top w l (Mx.lO w l b) top) w (λq=>Mx.S top λj=>Mx.qL F (Mx.eZ F r j) j*Mx.g F j q):=by
   rw[<-Mx.Sl];show Mx.xv λq _=>sm q
  let w2:Mx.Wh (Mx.dq (Mx.pF F top w l (Mx.lO w l b) top) w (λq=>Mx.S top λj=>Mx.qL F (Mx.eZ F r j) j*Mx.g F j q)):=by
   rw[Mx.Ep];show Mx.Hw λi e=>(wF i e).mul _
  show P.not g.st hl hb Y hz (λi e=>Tb.red i e) ?_;let:=z.add w2.neg;rw[e1]at this;let e2:∀a b:Rat,a+b+ -b=a:=by grind
  rwa [e2]at this
 |none=>
  have eD:jt (Mx.eZ F r top)= .av:=by unfold jt;rw[el]
  rw[eD];show jO rfl ?_;obtain⟨f2,t2⟩:=B2.tb;let lU:=H.tn.fB.len;show cJ rfl ?_;rw[Xr,lF]
  let I:∀j q,top<=j->j<N->(Mx.g c.U j q).natAbs<=2^Mx.zu N top:=λj q E v=>by
   unfold Mx.zu;by_cases h:top=0
   . rw[XB h,hC.WD h];change(Mx.g (Mx.units N) j q).natAbs<=1;by_cases u:q<N
     . rw[Mx.mG v u];unfold Mx.dl;split<;>decide
     unfold Mx.g;rw[Mx.k5 (by rw[(Mx.tU N).row v];lia)];decide
   rw[Xx h];show H.lo.2.1 j q E v
  show⟨c.U,N,top,Mx.zu N top,f2,rfl,H.tn.fB,le,n8,λi q _ e=>by rw[Mx.CZ];show I (top+i) q () (),λt ht=>(Mx.NS N () top () t ()).1,t2,λJ G m B3 hm O V C=>?_⟩;let B3':Bk st J:=⟨Xy B2.le B3.le,λm hm h0=>(B3.fr m (XR hm B2.le) h0).trans (B2.fr m hm h0),B3.tb⟩
  show aB rfl rfl (cJ rfl (mX ?_));rw[Xr,lF,J1,<-abb];let lw:(Mx.qh F r top).length=top:=by unfold Mx.qh;simp
  let R:∀j,j<top->(Mx.qh F r top).getD j 0=Mx.qL F (Mx.eZ F r j) j:=λj o=>by
   unfold Mx.qh;rw[Mx.aJ (by simpa using o),ZM,aa7]
  obtain⟨a7,a6⟩:=Mx.S8 N () top ()
  let bw:∀j,j<top->((Mx.qh F r top).getD j 0).natAbs<=2^(70+j*(887+1)):=λj o=>by
   rw[R j o];obtain⟨l1,l2,_⟩:=g.lead o;show Xy (Mx.jw _ l2) (Mx.vX g.is L g.st g.sm Q (YN o) _ l1)
  let bu:∀i p,i<top->(Mx.g (c.U.take top) i p).natAbs<=2^Mx.Vz N 28 top:=λi p e=>by
   rw[fu e];show(H.hi i p e).2.1
  let wU:∀q∈c.U.take top,q.length=N:=λq u=>H.tn.fB.jN q (aac u);let az:(c.U.take top).length=top:=by rw[YD];lia
  show⟨_,_,N,Mx.qh F r top,c.U.take top,rfl,rfl,vO,wU,by lia,λx hx q u y hy=>?_,?_⟩
  . obtain⟨j,o,rfl⟩:=Yh.mp hx;let bj:=bw j ();rw[Mx.aJ o]at bj;obtain⟨i,e,rfl⟩:=Yh.mp u;obtain⟨p,hp,rfl⟩:=Yh.mp hy;let hU:=bu i p ();unfold Mx.g at hU;rw[Mx.aJ e,Mx.aJ hp]at hU;show fx bj hU ()
  let U:(Mx.fT (Mx.qh F r top) (c.U.take top) (List.replicate N 0)).length=N:=Mx.Bm (by simp) wU
  let bW:∀n,n<N->((Mx.fT (Mx.qh F r top) (c.U.take top) (List.replicate N 0)).getD n 0).natAbs<=2^(Mx.Vz N 28 top+8000):=λn hn=>by
   rw[Mx.x_ (n:=N) n (by simp) wU (),Mx.ee,Z4,az]
   let e3:top*2^(7174+Mx.Vz N 28 top)<=2^(Mx.Vz N 28 top+8000):=by
    show Xy (YV _ (show top<=2^3 by lia)) ?_;rw[<-Za];show XO ⋯ ()
   show Xy (Mx.HR λj o=>?_) e3;rw[Yt,Za];show Yj (Xy (bw j o) (XO ⋯ ())) (bu j n o)
  obtain⟨_,ar,aq⟩:=Mx.NS N () top () m ()
  let S:∀q,q<w->(Mx.S N λn=>(Mx.fT (Mx.qh F r top) (c.U.take top) (List.replicate N 0)).getD n 0*Mx.g A n q)=r.getD q 0:=λq u=>by
   show Mx.L6 H lw (λq u=>?_) u;rw[sm q,yu _ 0 el q,Z4];show Mx.aG λj o=>by rw[R j o,M j q o]
  generalize Mx.fT (Mx.qh F r top) (c.U.take top) (List.replicate N 0)=W at U bW S
  let JU:∀x,(∀q,q<w->(Mx.S N λn=>x n*Mx.g A n q)=0)↔Mx.gR G m N x:=λx=>by
   rw[H.kernel];show⟨λh=>Mx.gR.trans C.to h,λh=>Mx.gR.trans C.of h⟩
  let gW:∀j,top<=j->j<N->∀q,q<N->((c.U.getD j []).getD q 0).natAbs<=2^Mx.zu N top:=λj E v q _=>I j q E v;let hE:2^Mx.Ez N 28 top<=2^60000000:=XO ⋯ ();let hV:2^Mx.Vz N 28 top<=2^60000000:=XO ⋯ ();let fl:=Mx.AD O.is U O.st (Xv m);show⟨_,G,W,m,N,_,rfl,O,rfl,U,Hf O U bW ar,λav X4=>aB rfl rfl ⟨Xz rfl,?_⟩⟩;show k av _ (B3'.ext X4) (.inl ⟨Mx.eZ G W m,G,m,_,c,top,⟨H.tn,le,H.zs,a4,aO,λi q e=>?_,λi q e=>?_,O,V,JU,Mx.pU O.is U (Xv m),λq u=>?_,λi e=>fl.red i e,λj E v=>Hf O (H.tn.fB.row v) (gW j E v) aq,λj E v=>?_⟩,rfl⟩)
  . by_cases h:i<top
    . show Xy (H.hi i q h).2.1 hV
    show Xy (H.lo.2.1 i q (ZI h) e) hE
  . by_cases h:i<top
    . show Xy (H.hi i q h).2.2 hV
    show Xy (H.lo.2.2 i q (ZI h) e) hE
  . have d:=(JU λn=>W.getD n 0-(Mx.eZ G W m).getD n 0).mpr fl.sum q u
    let e5:(Mx.S N λn=>(W.getD n 0-(Mx.eZ G W m).getD n 0)*Mx.g A n q)=(Mx.S N λn=>W.getD n 0*Mx.g A n q)-Mx.S N λn=>(Mx.eZ G W m).getD n 0*Mx.g A n q:=by
     rw[aap,<-Mx.zi,<-Mx.kc];show Mx.aG λn _=>by rw[Int.sub_mul,aap]
    rw[e5,S q u]at d;lia
  show(JU (Mx.g c.U j)).mp λq u=>?_;rw[<-H.tn.ua j q v u];show H.zs j q E v u
def Fv:pl (n+1) (aj r)=true:=by
 unfold pl;show P_
def AW:∀(r s:List Int),jZ (ao r) (ao s)=decide (r=s)
 | [],[]=>by unfold jZ;rfl
 | [],_::_=>by unfold jZ;rfl
 |_::_,[]=>by unfold jZ;rfl
 |a::r,b::s=>by
  let d:=AW r s;unfold ao at d⊢;rw[Yg,Yg];unfold jZ;rw[d];unfold cO;by_cases c:a=b
  . subst c;simp
  have:(a==b)=false:=by simpa using c
  rw[this,Bool.false_and];show(XW λh=>c (aba h).1).symm
def uD(a:List Int):Prop:=∀x∈a,-(2^64)<x/\x<2^64
def oF:cf:=λe st K=>∃(d c b:D) (a l h:List Int),e=[d,c,b]/\items? st d=some (ao a)/\items? st c=some (ao l)/\items? st b=some (ao h)/\a.length<=1000/\uD a/\K (.int (Pl.iJ a l h)) st
def wW:List Str:=["numbers","low","high"]
def EZ:DS:=(aX (bS uR (ae (dW (G_ (ae (aa 0) (ae (aa 1) (ae (aa 2) ai)))) [none,none,none] (nZ 0 1 2) cT (bS AG (ae (ak cP (aa 0) (aa 1)) (ae (ak cP (aa 0) (aa 2)) ai)))) ai)))
def BC:∀(a l h:List Int),∃ns:List Int,(eA (ao a) (ao l) (ao h)).map (λd=>match d with| .tup [.int a,.int l,.int h]=> .int (if a*h<a*l then a*h else a*l)|_=> .av)=ao ns/\ns.sum=Pl.iJ a l h
 | [],_,_=>⟨[],by unfold eA;rfl,by unfold Pl.iJ;rfl⟩
 |_::_,[],_=>⟨[],by unfold eA;rfl,by unfold Pl.iJ;rfl⟩
 |_::_,_::_,[]=>⟨[],by unfold eA;rfl,by unfold Pl.iJ;rfl⟩
 |a::as,l::ls,h::hs=>by
  obtain⟨ns,c,b⟩:=BC as ls hs;show⟨(if a*h<a*l then a*h else a*l)::ns,?_,?_⟩
  . have e:eA (ao (a::as)) (ao (l::ls)) (ao (h::hs))= .tup [.int a,.int l,.int h]::eA (ao as) (ao ls) (ao hs):=rfl;rw[e,Yg,c];rfl
  rw[ZQ,b];change _=min (a*l) (a*h)+Pl.iJ as ls hs;split<;>lia
def Ew:∀(a l h:List Int),∃ns:List Int,(eA (ao a) (ao l) (ao h)).map (λd=>match d with| .tup [.int a,.int l,.int h]=> .int (if a*h>a*l then a*h else a*l)|_=> .av)=ao ns/\ns.sum=Pl.mf a l h
 | [],_,_=>⟨[],by unfold eA;rfl,by unfold Pl.mf;rfl⟩
 |_::_,[],_=>⟨[],by unfold eA;rfl,by unfold Pl.mf;rfl⟩
 |_::_,_::_,[]=>⟨[],by unfold eA;rfl,by unfold Pl.mf;rfl⟩
 |a::as,l::ls,h::hs=>by
  obtain⟨ns,c,b⟩:=Ew as ls hs;show⟨(if a*h>a*l then a*h else a*l)::ns,?_,?_⟩
  . have e:eA (ao (a::as)) (ao (l::ls)) (ao (h::hs))= .tup [.int a,.int l,.int h]::eA (ao as) (ao ls) (ao hs):=rfl;rw[e,Yg,c];rfl
  rw[ZQ,b];change _=max (a*l) (a*h)+Pl.mf as ls hs;split<;>lia
def A8(h:d∈eA (ao r) (ao s) (ao t)):∃a b c,a∈r/\d= .tup [.int a,.int b,.int c]:=by
 obtain⟨n,f,e⟩:=Yh.mp h;let m:(eA (ao r) (ao s) (ao t))[n]?=some d:=by rw[XC f,e]
 obtain⟨x,y,z,ex,l,k,rfl⟩:=uV m;obtain⟨a,g,rfl⟩:=X8.mp (XS ex);obtain⟨b,_,rfl⟩:=X8.mp (XS l);obtain⟨c,_,rfl⟩:=X8.mp (XS k);show⟨a,b,c,g,rfl⟩
def DN:Xq oF 3 EZ wW:=by
 rintro w st K ⟨C,B,A,a,l,h,rfl,e,c,b,v,p,k⟩;show⟨rfl,?_⟩;show F_ e c b λok t=>⟨cD (by rw[qW];simp;lia),?_⟩
 obtain⟨u,s,r⟩:=BC a l h;show comp_map (g:=λd=>match d with| .tup [.int a,.int l,.int h]=> .int (if a*h<a*l then a*h else a*l)|_=> .av) (t st e c b) _ (λd o E q=>?_) ?_
 . obtain⟨x,y,z,n,rfl⟩:=A8 o;obtain⟨m,f⟩:=p x n;show⟨_,rfl,cR (dj m f) (cR (dj m f) (Lp q))⟩
 rw[s];show CT (ints_map _) ?_;rw[r];show k
def sS:cf:=λe st K=>∃(d c b:D) (a l h:List Int),e=[d,c,b]/\items? st d=some (ao a)/\items? st c=some (ao l)/\items? st b=some (ao h)/\a.length<=1000/\uD a/\K (.int (Pl.mf a l h)) st
def yz:List Str:=["numbers","low","high"]
def HN:DS:=(aX (bS uR (ae (dW (G_ (ae (aa 0) (ae (aa 1) (ae (aa 2) ai)))) [none,none,none] (nZ 0 1 2) cT (bS zY (ae (ak cP (aa 0) (aa 1)) (ae (ak cP (aa 0) (aa 2)) ai)))) ai)))
def EW:Xq sS 3 HN yz:=by
 rintro w st K ⟨C,B,A,a,l,h,rfl,e,c,b,v,p,k⟩;show⟨rfl,?_⟩;show F_ e c b λok t=>⟨cD (by rw[qW];simp;lia),?_⟩
 obtain⟨u,s,r⟩:=Ew a l h;show comp_map (g:=λd=>match d with| .tup [.int a,.int l,.int h]=> .int (if a*h>a*l then a*h else a*l)|_=> .av) (t st e c b) _ (λd o E q=>?_) ?_
 . obtain⟨x,y,z,n,rfl⟩:=A8 o;obtain⟨m,f⟩:=p x n;show⟨_,rfl,cR (dj m f) (cR (dj m f) (J5 q))⟩
 rw[s];show CT (ints_map _) ?_;rw[r];show k
def LT(d:D)(ns:List Int):Prop:=d=cm ns\/d=aj ns
def Jw(d:D)(R:List (List Int)):Prop:=d=N3 R\/d=cw R
def LT.it(h:LT d ns)(st:ag):items? st d=some (ao ns):=by rcases h with rfl|rfl<;>rfl
def Jw.ex{R:List (List Int)}(h:Jw d R):∃b,(∀st,items? st d=some b)/\b.length=R.length/\∀i,i<R.length->∃e,b[i]?=some e/\LT e (R.getD i []):=by
 rcases h with rfl|rfl
 . show⟨_,λ_=>rfl,Xr _,λi a=>⟨cm (R.getD i []),?_,.inl rfl⟩⟩;rw[XJ,XC a,Mx.aJ a];rfl
 show⟨_,λ_=>rfl,Xr _,λi a=>⟨aj (R.getD i []),?_,.inr rfl⟩⟩;rw[XJ,XC a,Mx.aJ a];rfl
def Jw.rows(h:Jw d R)(st:ag):ki st d R:=by
 rcases h with rfl|rfl
 . show Oy
 show vO
def LT.from{ns:List Int}{st:ag}{K:DK}(h:LT d ns)(k:∀e,LT e (ns.drop p)->K e st):kv d (some (p:Int)) none st K:=by
 let e:L3.cutD (ao ns) (some (p:Int)) none=ao (ns.drop p):=by rw[xR];show abY.symm
 rcases h with rfl|rfl
 . show A6 ?_;rw[e];show k _ (.inl rfl)
 show mX ?_;rw[e];show k _ (.inr rfl)
structure rM(T:Pl.Tk):Prop where
 ok:T.Ok
 n1:1<=T.n
 n8:T.n<=16
 w8:T.w<=16
 m8:T.m<=T.n
 sc:uD T.c
 sR:∀r∈T.R,uD r
abbrev rD(dc dr dd dl dh:D)(F:List (List Int)):List (Str×D):=[("costs",dc),("rows",dr),("due",dd),("low",dl),("high",dh),("steps",cw F)]
structure K0(T:Pl.Tk)(dc dr dd dl dh:D):Prop where
 c:LT dc T.c
 r:Jw dr T.R
 d:LT dd T.d
 l:LT dl T.l
 h:LT dh T.h
def Ak(st:ag)(T:Pl.Tk)(a t:Nat):Prop:=st[a]?=some (.ins dF [("place",.int ((T.e9 t:Nat):Int)),("lows",.lst ((List.range T.w).map λj=> .int (T.low t j))),("highs",.lst ((List.range T.w).map λj=> .int (T.high t j))),("open_cost",.int (T.cut t T.c))])
def jE:cf:=λd st K=>∃(a b t:Nat) (T:Pl.Tk) (dc dr dd dl dh:D),d=[.ref a,.ref b,.int ((T.e9 t:Nat):Int)]/\a≠b/\st[a]?=some (.ins dF [])/\st[b]?=some (.ins aU (rD dc dr dd dl dh T.F))/\rM T/\K0 T dc dr dd dl dh/\∀c,Ak c T a t->c.length=st.length->(∀m,m≠a->c[m]?=st[m]?)->K .av c
def mx:List Str:=["self","task","place","low","high"]
def yd:DS:=(aw (aK 3 (iI (bX aU "low" (aa 1)) (kg (aa 2)) gh))
 (aw (aK 4 (iI (bX aU "high" (aa 1)) (kg (aa 2)) gh))
 (aw (fD dF "place" (aa 0) (aa 2))
 (aw (fD dF "lows" (aa 0) (dW (pB (ae (bX aU "rows" (aa 1)) (ae (bX aU "due" (aa 1)) ai))) [none,none,some 2,some 3,some 4] (gN 0 1) cT (ak jr (aa 1) (aA sS (ae (iI (aa 0) (kg (aa 2)) gh) (ae (aa 3) (ae (aa 4) ai)))))))
 (aw (fD dF "highs" (aa 0) (dW (pB (ae (bX aU "rows" (aa 1)) (ae (bX aU "due" (aa 1)) ai))) [none,none,some 2,some 3,some 4] (gN 0 1) cT (ak jr (aa 1) (aA oF (ae (iI (aa 0) (kg (aa 2)) gh) (ae (aa 3) (ae (aa 4) ai)))))))
 (fD dF "open_cost" (aa 0) (aA oF (ae (iI (bX aU "costs" (aa 1)) (kg (aa 2)) gh) (ae (aa 3) (ae (aa 4) ai))))))))))
def zip_rows{st:ag}{c:List D}{R:List (List Int)}{ns:List Int}(r:c.length=R.length)(G:ns.length=R.length)(A:∀i,i<R.length->∃e,c[i]?=some e/\LT e (R.getD i [])){h:Nat->Int}{K:List D->ag->Prop}(t:ok st)
 (z:∀i e,i<R.length->LT e (R.getD i [])->∀w,w (.int (h i)) st->∃f,m (.tup [e,.int (ns.getD i 0)]) l=some f/\n f st w) (k:K ((List.range R.length).map λi=> .int (h i)) st):eB m cT n ok l (fF c (ao ns)) [] st K:=by
 show gY (λrest b a=>st=a/\∃i,i+rest.length=R.length/\rest=(fF c (ao ns)).drop i/\b=(List.range i).map λi=> .int (h i)) ?_ ?_ _ _ _ ⟨rfl,0,by rw[gD,Xr];lia,rfl,rfl⟩
 . rintro b a ⟨rfl,i,g,_,rfl⟩;rw[Zf,abz]at g;subst g;show⟨t,k⟩
 rintro x rest b a ⟨rfl,i,g,d,rfl⟩ next
 rw[XT]at g;let q:i<(fF c (ao ns)).length:=by rw[gD,Xr];lia
 rw[X9 q]at d;injection d with e1 e2;let F:(fF c (ao ns))[i]?=some x:=by rw[XC q,e1]
 obtain⟨u,v,s,ev,rfl⟩:=n6 F;obtain⟨e,B,r⟩:=A i ();rw[B]at s;cases s
 let p:v= .int (ns.getD i 0):=by
  rw[XJ,XC (show i<ns.length by lia)]at ev;cases ev;rw[Mx.aJ ()]
 subst p;obtain⟨f,E,C⟩:=z i _ () r (λy o=>eB m cT n ok l rest (((List.range i).map λi=> .int (h i))++[y]) o K) (next _ _ ⟨rfl,i+1,by lia,e2,by rw[ZW,YR];rfl⟩);show⟨t,f,E,C⟩
def uD.drop{a:List Int}(h:uD a):uD (a.drop p):=λx b=>h x (List.mem_of_mem_drop b)
def wx:Xq jE 3 yd mx:=by
 rintro ds st K ⟨a,b,t,T,dc,Z,dd,dl,dh,rfl,J,O,N,to,p,k⟩;show⟨rfl,?_⟩;let o:=to.ok;let F:=o.lR.len;let la:a<st.length:=(Xs.mp O).1;show aR N rfl (p.l.from λL G=>aR N rfl (p.h.from λM H=>?_));let E:∀ {s:ag} {fs:List (Str×D)} {v:D} {f:Str},s[b]?=some (.ins aU (rD dc Z dd dl dh T.F))->s[a]?=some (.ins dF fs)->(s.set a (.ins dF (putD f v fs)))[b]?=some (.ins aU (rD dc Z dd dl dh T.F))/\(s.set a (.ins dF (putD f v fs)))[a]?=some (.ins dF (putD f v fs)):=λh1 z=>⟨by rw[Xu J];show h1,XE (Xs.mp z).1⟩
 obtain⟨rs,C,S,W⟩:=p.r.ex;let y:T.d.length=T.R.length:=by rw[o.NJ,F]
 let w8:=to.w8;let n8:=to.n8
 let len:∀i,i<T.R.length->((T.R.getD i []).drop (T.e9 t)).length<=1000:=λi r=>by
  rw[YG,o.lR.row ()];let:=to.n8;lia
 let R:∀i,i<T.R.length->uD ((T.R.getD i []).drop (T.e9 t)):=λi r=>(to.sR _ (by rw[Mx.aJ r];show Yd _)).drop;show dP O (Xz rfl) ?_;obtain⟨d,n⟩:=E (f:="place") (v:= .int ((T.e9 t:Nat):Int)) N O;generalize x:st.set a _=s1 at d n⊢;let Y:∀m,m≠a->s1[m]?=st[m]?:=λm g=>by rw[<-x,Xu (XI g)]
 let V:s1.length=st.length:=by rw[<-x,XH]
 clear x;show aR d rfl (aR d rfl (lQ (C _) (p.d.it _) λok Q=>⟨cD (by rw[gD,Xr];lia),?_⟩));show zip_rows (h:=λi=>T.low t i) S y W (Q _ (C _) (p.d.it _)) (λi e r I K' q=>⟨_,rfl,I.from λP z=>?_⟩) ?_
 . show⟨P,L,M,_,_,_,rfl,z.it _,G.it _,H.it _,len i r,R i r,gX q⟩
 show dP n (Xz rfl) ?_;rw[F];obtain⟨c,l⟩:=E (f:="lows") (v:= .lst ((List.range T.w).map λj=> .int (T.low t j))) d n;generalize w:s1.set a _=s2 at c l⊢;let X:∀m,m≠a->s2[m]?=st[m]?:=λm g=>by rw[<-w,Xu (XI g),Y m g]
 let U:s2.length=st.length:=by rw[<-w,XH,V]
 clear w Y V n d;show aR c rfl (aR c rfl (lQ (C _) (p.d.it _) λok Q=>⟨cD (by rw[gD,Xr];lia),?_⟩));show zip_rows (h:=λi=>T.high t i) S y W (Q _ (C _) (p.d.it _)) (λi e r I K' q=>⟨_,rfl,I.from λP z=>?_⟩) ?_
 . show⟨P,L,M,_,_,_,rfl,z.it _,G.it _,H.it _,len i r,R i r,gX q⟩
 show dP l (Xz rfl) ?_;rw[F];obtain⟨A,B⟩:=E (f:="highs") (v:= .lst ((List.range T.w).map λj=> .int (T.high t j))) c l;generalize u:s2.set a _=s3 at A B⊢;let f3:∀m,m≠a->s3[m]?=st[m]?:=λm g=>by rw[<-u,Xu (XI g),X m g]
 let l3:s3.length=st.length:=by rw[<-u,XH,U]
 clear u X U l c;show aR A rfl (p.c.from λec hc=>?_);show⟨ec,L,M,_,_,_,rfl,hc.it _,G.it _,H.it _,by rw[YG,o.lc];lia,to.sc.drop,?_⟩;show dP B (Xz rfl) ?_;show k _ ?_ (by rw[XH,l3]) λm g=>by rw[Xu (XI g),f3 m g]
 unfold Ak;rw[XE ()];rfl
def dX(st:ag)(b:Nat)(T:Pl.Tk):Prop:=∃(e a d dl c:D) (L:Nat),K0 T e a d dl c/\st[b]?=some (.ins aU (rD e a d dl c T.F++([("layers",.lst ((List.range (T.m+1)).map λj=> .ref (L+j)))]:List (Str×D))))/\∀t,t<=T.m->Ak st T (L+t) t
def nc:cf:=λc st K=>∃(b:Nat) (T:Pl.Tk) (dc dr dd dl dh:D),c=[.ref b,dc,dr,dd,dl,dh,cw T.F]/\st[b]?=some (.ins aU [])/\rM T/\K0 T dc dr dd dl dh/\∀a,dX a b T->st.length<=a.length->(∀m,m<st.length->m≠b->a[m]?=st[m]?)->K .av a
def ni:List Str:=["self","costs","rows","due","low","high","steps"]
def zx:DS:=(aw (fD aU "costs" (aa 0) (aa 1))
 (aw (fD aU "rows" (aa 0) (aa 2))
 (aw (fD aU "due" (aa 0) (aa 3))
 (aw (fD aU "low" (aa 0) (aa 4))
 (aw (fD aU "high" (aa 0) (aa 5))
 (aw (fD aU "steps" (aa 0) (aa 6))
 (fD aU "layers" (aa 0) (ak cW (dW (fU (aa 6)) [none,some 0] (cM 0) cT (pP dF jE (ae (aa 1) (ae (aA iG (ae (aa 0) ai)) ai)))) (Av (ae (pP dF jE (ae (aa 0) (ae (bS dO (ae (aa 1) ai)) ai))) ai))))))))))
def C2{F:List (List Int)}{m n k:Nat}{ld:Nat->Nat}(d:Mx.dy m n F)(s:Mx.fj F m n ld)(hk:k<m):jt (F.getD k [])= .int ((ld k:Nat):Int):=by
 obtain⟨c,b,a⟩:=s.lead k hk;unfold jt;rw[Bf a (ZL b)]
def xQ:Xq nc 7 zx ni:=by
 rintro ds st K ⟨b,T,h,d,g,dl,e,rfl,eb,to,B,k⟩;show⟨rfl,?_⟩;let o:=to.ok;let n8:=to.n8;let L:b<st.length:=(Xs.mp eb).1;let q:∀ {s:ag} {fs:List (Str×D)} {v:D} {f:Str},s[b]?=some (.ins aU fs)->s.length=st.length->(∀m,m≠b->s[m]?=st[m]?)->(s.set b (.ins aU (putD f v fs)))[b]?=some (.ins aU (putD f v fs))/\(s.set b (.ins aU (putD f v fs))).length=st.length/\∀m,m≠b->(s.set b (.ins aU (putD f v fs)))[m]?=st[m]?:=λh1 V h3=>⟨XE (),by rw[XH,V],λm c=>by rw[Xu (XI c)];show h3 m c⟩
 show dP eb (Xz rfl) ?_;obtain⟨I,R,f1⟩:=q (f:="costs") (v:=h) eb rfl λ_ _=>rfl;generalize st.set b _=s1 at I R f1⊢;show dP I (Xz rfl) ?_;obtain⟨H,Q,f2⟩:=q (f:="rows") (v:=d) I R f1;generalize s1.set b _=s2 at H Q f2⊢;show dP H (Xz rfl) ?_;obtain⟨G,P,f3⟩:=q (f:="due") (v:=g) H Q f2;generalize s2.set b _=s3 at G P f3⊢;show dP G (Xz rfl) ?_;obtain⟨F,O,Z⟩:=q (f:="low") (v:=dl) G P f3;generalize s3.set b _=s4 at F O Z⊢;show dP F (Xz rfl) ?_;obtain⟨E,N,Y⟩:=q (f:="high") (v:=e) F O Z;generalize s4.set b _=s5 at E N Y⊢;show dP E (Xz rfl) ?_;obtain⟨w,l6,f6⟩:=q (f:="steps") (v:=cw T.F) E N Y;generalize s5.set b _=s6 at w l6 f6⊢;clear I R f1 H Q f2 G P f3 F O Z E N Y;let w:s6[b]?=some (.ins aU (rD h d g dl e T.F)):=w;let lF:=o.lF.len;let m8:=to.m8;show jV ⟨cD (by rw[Xr];lia),?_⟩;show gY (λrest p a=>∃i,i+rest.length=T.m/\rest=(T.F.map aj).drop i/\p=((List.range i).map λj=> .ref (st.length+j))/\a.length=st.length+i/\(∀j,j<i->Ak a T (st.length+j) j)/\∀m,m<st.length->a[m]?=s6[m]?) ?_ ?_ _ _ _ ⟨0,by rw[Xr];lia,rfl,rfl,l6,λj hj=>absurd hj (XZ _),λ_ _=>rfl⟩
 . rintro p a ⟨i,C,_,rfl,l,U,u⟩;rw[Zf,abz]at C;subst C;show⟨trivial,?_⟩;let S:T.e9 T.m=T.n:=Xx ();show cJ (B.c.it _) ?_;rw[Xr,o.lc,<-S]
   let n:(a++[Cell.ins dF []])[b]?=some (.ins aU (rD h d g dl e T.F)):=by
    rw[XA (),u b L];show w
   show⟨a.length,b,T.m,T,h,d,g,dl,e,rfl,by lia,by simp,n,to,B,λy J M X=>⟨rfl,?_⟩⟩;let r:∀m,m<a.length->y[m]?=a[m]?:=λm c=>by rw[X m (),XA c]
   let e8:y[b]?=some (.ins aU (rD h d g dl e T.F)):=by rw[r b (),u b L];show w
   show⟨Xz rfl,?_⟩;show Ow (cD (by simp;lia)) ?_;show dP e8 (Xz rfl) ?_;let ab:y.length=st.length+T.m+1:=by rw[M,YC,l];rfl
   show k _ ⟨h,d,g,dl,e,st.length,B,?_,λt ht=>?_⟩ (by rw[XH];lia) λm c A=>?_
   . rw[XE ()];let:((List.range T.m).map λj=>D.ref (st.length+j))++[.ref a.length]=(List.range (T.m+1)).map λj=> .ref (st.length+j):=by rw[ZW,YR,l];rfl
     rw[this];rfl
   . unfold Ak;rw[Xu ()];by_cases z:t=T.m
     . subst z;rw[<-l];show J
     rw[r _ ()];show U t ()
   rw[Xu (XI A),r m (),u m c,f6 m A]
 rintro x rest p a ⟨i,C,hx,rfl,l,U,u⟩ next
 rw[XT]at C;let li:i<(T.F.map aj).length:=by rw[Xr];lia
 rw[X9 li]at hx;injection hx with h1 V;let W:x=aj (T.F.getD i []):=by rw[h1,ZM,Mx.aJ ()]
 subst W;show⟨trivial,_,rfl,?_⟩;show⟨_,_,rfl,rfl,?_⟩;rw[C2 o.lF o.st (show i<T.m by lia)];let S:T.e9 i=T.ld i:=XB ();rw[<-S]
 let n:(a++[Cell.ins dF []])[b]?=some (.ins aU (rD h d g dl e T.F)):=by
  rw[XA (),u b L];show w
 show⟨a.length,b,i,T,h,d,g,dl,e,rfl,by lia,by simp,n,to,B,λy J M X=>⟨rfl,?_⟩⟩;let r:∀m,m<a.length->y[m]?=a[m]?:=λm c=>by rw[X m (),XA c]
 show next _ _ ⟨i+1,by lia,V,by rw[ZW,YR,l];rfl,by rw[M,YC,l];rfl,λj hj=>?_,λm c=>by rw[r m (),u m c]⟩
 by_cases z:j=i
 . subst z;rw[<-l];show J
 unfold Ak;rw[r _ ()];show U j ()
def jL:cf:=λa st K=>∃(b t:Nat) (T:Pl.Tk),a=[.ref b,.int (t:Int)]/\dX st b T/\T.Ok/\K (.bl (decide (t=T.m))) st
def pA:List Str:=["self","taken"]
def BU:DS:=(aX (ak i8 (aa 1) (bS dO (ae (bX aU "steps" (aa 0)) ai))))
def zL:Xq jL 2 BU pA:=by
 rintro d st K ⟨b,t,T,rfl,⟨l,e,g,dl,f,L,c,a,_⟩,o,k⟩;show⟨rfl,aR a rfl (cJ rfl (eq2 (λh=>?_) λh=>?_))⟩
 . rw[Xr,o.lF.len]at h;rw[X7 ()]at k;show k
 rw[Xr,o.lF.len]at h;rw[XW ()]at k;show k
def kr:cf:=λa st K=>∃(b t:Nat) (T:Pl.Tk) (dr:D) (row:List Int),a=[.ref b,.int (t:Int),dr]/\dX st b T/\t<=T.m/\LT dr row/\K (aj (row.take (T.e9 t))) st
def qd:List Str:=["self","taken","row"]
def DP:DS:=(aX (bS cY (ae (iI (aa 2) gh (kg (bX dF "place" (ak aN (bX aU "layers" (aa 0)) (aa 1))))) ai)))
def dX.lay{st:ag}{T:Pl.Tk}(a:t<=T.m):eF ((List.range (T.m+1)).map λj=>D.ref (L+j)) (t:Int)=some (.ref (L+t)):=by
 show fb ?_;rw[XJ,ZO ()];rfl
def LT.to{ns:List Int}{st:ag}{K:DK}(h:LT d ns)(k:∀e,LT e (ns.take p)->K e st):kv d none (some (p:Int)) st K:=by
 let e:L3.cutD (ao ns) none (some (p:Int))=ao (ns.take p):=by
  unfold L3.cutD;rw[HT.vS,HT.sY];simp![abU,aby];unfold ao;rw[Xr,<-abb];congr 1;by_cases z:p<=ns.length
  . rw[aaj z]
  rw[aaH (),Yz (Xv _),Yz ()]
 rcases h with rfl|rfl
 . show A6 ?_;rw[e];show k _ (.inl rfl)
 show mX ?_;rw[e];show k _ (.inr rfl)
def BJ:Xq kr 3 DP qd:=by
 rintro l st K ⟨b,t,T,m,row,rfl,⟨p,q,o,dl,n,L,h,g,c⟩,a,d,k⟩;show⟨rfl,?_⟩;show aR g rfl (aB rfl (dX.lay (st:=st) a) (aR (c t a) rfl (d.to λe f=>cL (f.it _) k)))
def lG:cf:=λa st K=>∃(b c:Nat) (T:Pl.Tk) (dr:D) (row:List Int),a=[.ref b,.int (c:Int),dr]/\dX st b T/\T.Ok/\LT dr row/\row.length=T.n/\c<T.n/\K (.bl (!(decide (T.l.getD c 0<=row.getD c 0)&&decide (row.getD c 0<=T.h.getD c 0)))) st
def lE:List Str:=["self","place","row"]
def wz:DS:=(aX (zc (aQ (oV yZ yZ (ak aN (bX aU "low" (aa 0)) (aa 1)) (ak aN (aa 2) (aa 1)) (ak aN (bX aU "high" (aa 0)) (aa 1))))))
def LT.at{ns:List Int}{st:ag}{K:DK}(h:LT d ns)(a:c<ns.length)(k:K (.int (ns.getD c 0)) st):aN d (.int (c:Int)) st K:=
 aB (h.it st) (fb (by rw[XJ,XC a,Mx.aJ a];rfl)) k
def uP:Xq lG 3 wz lE:=by
 rintro m st K ⟨b,c,T,n,row,rfl,⟨r,s,q,dl,p,L,d,f,l⟩,o,h,g,a,k⟩;show⟨rfl,?_⟩;show aR f rfl (d.l.at (by rw[o.ll];show a) (h.at (by rw[g];show a) (yo ?_)));cases e:decide (T.l.getD c 0<=row.getD c 0)with
 |false=>rw[e]at k;show k
 |true=>
  rw[e]at k;show aR f rfl (d.h.at (by rw[o.lh];show a) (yo k))
def mq:cf:=λa st K=>∃(b j t:Nat) (T:Pl.Tk) (f:List Int),a=[.ref b,.int (j:Int),.int (t:Int),aj f]/\dX st b T/\rM T/\t<=T.m/\j<T.w/\K (.bl (!(decide (T.low t j<=Mx.aP (T.R.getD j []) f)&&decide (Mx.aP (T.R.getD j []) f<=T.high t j)))) st
def mI:List Str:=["self","k","taken","fixed","layer"]
def xg:DS:=(aw (aK 4 (ak aN (bX aU "layers" (aa 0)) (aa 2)))
 (aX (zc (aQ (oV yZ yZ (ak aN (bX dF "lows" (aa 4)) (aa 1)) (aA wa (ae (ak aN (bX aU "rows" (aa 0)) (aa 1)) (ae (aa 3) ai))) (ak aN (bX dF "highs" (aa 4)) (aa 1)))))))
def JV{h:Nat->Int}{w j:Nat}(a:j<w):eF ((List.range w).map λj=>D.int (h j)) (j:Int)=some (.int (h j)):=by
 show fb ?_;rw[XJ,ZO a];rfl
def uD.dot{a b:List Int}(h:uD a):∀x∈a,∀y∈b,IntMulOk x y:=λx c _ _=>dj (h x c).1 (h x c).2
def wm:Xq mq 4 xg mI:=by
 rintro v st K ⟨b,j,t,T,f,rfl,⟨y,z,x,dl,w,L,h,g,d⟩,to,a,c,k⟩;show⟨rfl,?_⟩;let o:=to.ok;let u:=o.lR.len;let r:=to.n8;obtain⟨q,p,s,l⟩:=h.r.ex;obtain⟨e,n,m⟩:=l j ();let mem:T.R.getD j []∈T.R:=by rw[Mx.aJ ()];show Yd _
 show aR g rfl (aB rfl (dX.lay (st:=st) a) (aR (d t a) rfl (aB rfl (JV c) (aR g rfl (aB (p _) (fb n) ?_)))));show⟨e,aj f,_,f,rfl,m.it _,rfl,by rw[o.lR.row c];lia,(to.sR _ mem).dot,yo ?_⟩;cases e:decide (T.low t j<=Mx.aP (T.R.getD j []) f)with
 |false=>rw[e]at k;show k
 |true=>
  rw[e]at k;show aR (d t a) rfl (aB rfl (JV c) (yo k))
def iW:cf:=λa st K=>∃(b t:Nat) (T:Pl.Tk) (f:List Int),a=[.ref b,.int (t:Int),aj f]/\dX st b T/\rM T/\t<=T.m/\K (.int (Mx.aP T.c f+T.cut t T.c)) st
def lI:List Str:=["self","taken","fixed"]
def wq:DS:=(aX (ak cW (aA wa (ae (bX aU "costs" (aa 0)) (ae (aa 2) ai))) (bX dF "open_cost" (ak aN (bX aU "layers" (aa 0)) (aa 1)))))
def u6:Xq iW 3 wq lI:=by
 rintro h st K ⟨b,t,T,f,rfl,⟨n,o,m,dl,l,L,d,c,e⟩,to,a,k⟩;show⟨rfl,?_⟩;let g:=to.n8;show aR c rfl ⟨_,_,_,f,rfl,d.c.it _,rfl,by rw[to.ok.lc];lia,to.sc.dot,?_⟩;show aR c rfl (aB rfl (dX.lay (st:=st) a) (aR (e t a) rfl (c_ k)))
def mE:cf:=λa st K=>∃(b t:Nat) (T:Pl.Tk) (f p:List Int) (c:Int),a=[.ref b,.int (t:Int),aj f,.int c,aj p]/\dX st b T/\rM T/\t<=T.m/\∀v:Bool,K (.bl v) st
def mD:List Str:=["self","taken","fixed","cost","plan","least"]
def yc:DS:=(aw (aK 5 (cQ aU "least_cost" iW (aa 0) (ae (aa 1) (ae (aa 2) ai))))
 (aX (MN (ak ue (aa 5) (aa 3)) (qS (ak i8 (aa 5) (aa 3)) (ak Dj (aa 2) (bS cY (ae (iI (aa 4) gh (kg (bS dO (ae (aa 2) ai)))) ai)))))))
def As:oY (n+1) (aj f) (aj p)=true:=by
 unfold oY;show Yu.mpr λj a=>?_;rw[YW,Xr,Xr]at a
 let e:∀ {q:List Int},j<q.length->(ao q).getD j .av= .int (q.getD j 0):=λ{q} h=>by
  rw[XD,XJ,XC h,Mx.aJ h];rfl
 change(pl 30 ((ao f).getD j .av)&&pl 30 ((ao p).getD j .av)&&oY n ((ao f).getD j .av) ((ao p).getD j .av))=true;rw[e (),e ()];cases n<;>rfl
def wA:Xq mE 5 yc mD:=by
 rintro n st K ⟨b,t,T,f,p,c,rfl,tk,to,d,k⟩;show⟨rfl,?_⟩;let a:=tk;obtain⟨r,s,q,dl,o,L,l,h,m⟩:=a;show de h rfl ⟨b,t,T,f,rfl,tk,to,d,Cg ?_⟩;cases (decide (c<Mx.aP T.c f+T.cut t T.c))with
 |true=>show k true
 |false=>
  show yj ?_;cases (decide (Mx.aP T.c f+T.cut t T.c=c))with
  |false=>show k false
  |true=>
   show cJ rfl ?_;rw[Xr];show LT.to (.inr rfl) λe g=>cL (g.it _) (Se As (k _))
structure Upd(st:ag)(n:Nat)(st':ag):Prop where
 len:st'.length=st.length
 same:∀m,m≠n->st'[m]?=st[m]?
def Upd.refl{st:ag}:Upd st n st:=⟨rfl,λ_ _=>rfl⟩
def Upd.trans{st d c:ag}(a:Upd st n d)(b:Upd d n c):Upd st n c:=⟨b.len.trans a.len,λm h=>(b.same m h).trans (a.same m h)⟩
def Upd.set{st:ag}:Upd st n (st.set n c):=⟨XH,λm h=>Xu (XI h)⟩
abbrev Ky:=Pl.Ky
abbrev k0:Ky:=(0,[],0,[])
def kD(k:Ky):D:= .tup [.int k.1,aj k.2.1,.int k.2.2.1,aj k.2.2.2]
abbrev Hp(H:List Ky):Prop:=Pl.Heap Pl.mO k0 H
structure iZ(st:ag)(a hc:Nat)(H:List Ky):Prop where
 ea:st[a]?=some (.ins b9 [("heap",.ref hc)])
 eh:st[hc]?=some (.lst (H.map kD))
 ne:a≠hc
def ky:cf:=λc st K=>∃(a:Nat),c=[.ref a]/\st[a]?=some (.ins b9 [])/\∀b,iZ b a st.length []->b.length=st.length+1->(∀m,m<st.length->m≠a->b[m]?=st[m]?)->K .av b
def kC:List Str:=["self"]
def vf:DS:=(fD b9 "heap" (aa 0) (Af ai))
def uu:Xq ky 1 vf kC:=by
 rintro g st K ⟨a,rfl,c,k⟩;let d:=(Xs.mp c).1;let f:(st++[Cell.lst []])[a]?=some (.ins b9 []):=by rw[XA d];show c
 show⟨rfl,⟨Xz rfl,dP f (Xz rfl) (k _ ⟨?_,?_,by lia⟩ (by simp) λm e b=>?_)⟩⟩
 . rw[XE (by simp;lia)];rfl
 . rw[Xu ()];simp
 rw[Xu (XI b),XA e]
def iz:cf:=λc st K=>∃(a b:Nat) (H:List Ky),c=[.ref a]/\iZ st a b H/\K (.bl (decide (H.length=0))) st
def kP:List Str:=["self"]
def uB:DS:=(aX (ak i8 (bS dO (ae (bX b9 "heap" (aa 0)) ai)) (dC (.int 0))))
def uj:Xq iz 1 uB kP:=by
 rintro c st K ⟨a,b,H,rfl,w,k⟩;show⟨rfl,aR w.ea rfl (cJ (aE w.eh) (yj ?_))⟩;rw[Xr];let:decide ((H.length:Int)=0)=decide (H.length=0):=ZJ.mpr ();rw[this];show k
def ph:cf:=λe st K=>∃(a c:Nat) (H:List Ky) (x:Ky),e=[.ref a,kD x]/\iZ st a c H/\Hp H/\H.length<=16000000/\∀b d,iZ b a c d->Hp d->d.Perm (x::H)->Upd st c b->K .av b
def pj:List Str:=["self","thing","heap","place"]
def BK:DS:=(aw (aK 2 (bX b9 "heap" (aa 0)))
 (aw (aK 3 (bS dO (ae (aa 2) ai)))
 (aw (fz (jf (aa 2) (aa 1)))
 (aw (nq (rm (aQ (ak ue (aa 3) (dC (.int 0)))) (aQ (ak tW (aa 1) (ak aN (aa 2) (ak mn (ak jr (aa 3) (dC (.int 1))) (dC (.int 2))))))) (aw (dD (aa 2) (aa 3) (ak aN (aa 2) (ak mn (ak jr (aa 3) (dC (.int 1))) (dC (.int 2)))))
 (aK 3 (ak mn (ak jr (aa 3) (dC (.int 1))) (dC (.int 2))))))
 (dD (aa 2) (aa 3) (aa 1))))))
def A7{e l:Nat->Bool}:∀(k i:Nat),ij e l a k (i+1)=ij (λj=>e (j+1)) (λj=>l (j+1)) a k i
 |0,_=>rfl
 |k+1,i=>by
  change(if e (i+1)=true then ij e l a k (i+1+1)else l (i+1))=if e (i+1)=true then ij (λj=>e (j+1)) (λj=>l (j+1)) a k (i+1)else l (i+1)
  rw[A7 k (i+1)]
def eq_int{i j:Int}:cO (.int i) (.int j)=decide (i=j):=by unfold cO;show FT i j
def D8:∀(f g:List Int),nv false (n+1) (aj f) (aj g)=Pl.kn f g
 | [],[]=>rfl
 | [],_::_=>rfl
 |_::_,[]=>rfl
 |x::f,y::g=>by
  let a:=D8 (n:=n) f g;change ij (λj=>cO ((ao (x::f)).getD j .av) ((ao (y::g)).getD j .av)) (λj=>nv false n ((ao (x::f)).getD j .av) ((ao (y::g)).getD j .av)) (decide ((ao (x::f)).length<(ao (y::g)).length)) (min (ao (x::f)).length (ao (y::g)).length) 0=if x=y then Pl.kn f g else decide (x<y)
  let b:min (ao (x::f)).length (ao (y::g)).length=min (ao f).length (ao g).length+1:=by simp
  let c:decide ((ao (x::f)).length<(ao (y::g)).length)=decide ((ao f).length<(ao g).length):=ZJ.mpr (by simp);rw[b,c];unfold ij;change(if cO (.int x) (.int y)=true then _ else nv false n (.int x) (.int y))=_;rw[eq_int];by_cases h:x=y
  . rw[XB (X7 h),XB h,A7];show a
  rw[Xx (by rw[XW h];decide),Xx h];cases n<;>rfl
def Jk{f g:List Int}:cO (aj f) (aj g)=decide (f=g):=by unfold cO;show AW f g
def RY(a b:Ky):nv false 3 (kD a) (kD b)=Pl.mO a b:=by
 obtain⟨p,o,n,m⟩:=a;obtain⟨l,k,h,g⟩:=b;change(if cO (.int p) (.int l)=true then(if cO (aj o) (aj k)=true then(if cO (.int n) (.int h)=true then(if cO (aj m) (aj g)=true then decide (4<4)else nv false 2 (aj m) (aj g))else nv false 2 (.int n) (.int h))else nv false 2 (aj o) (aj k))else nv false 2 (.int p) (.int l))=_;rw[eq_int,eq_int,Jk,Jk,D8,D8];unfold Pl.mO Pl.sG;dsimp only;by_cases e:p=l
 . rw[XB (X7 e),XB e];by_cases d:o=k
   . rw[XB (X7 d),XB d];by_cases c:n=h
     . rw[XB (X7 c),XB c];by_cases f:m=g
       . rw[XB (X7 f),f,Pl.vL];rfl
       rw[Xx (by rw[XW f];decide)]
     rw[Xx (by rw[XW c];decide),Xx c];rfl
   rw[Xx (by rw[XW d];decide),Xx d]
 rw[Xx (by rw[XW e];decide),Xx e];rfl
def Tg(a b:Ky):oY 3 (kD a) (kD b)=true:=by
 let e:oY 2 (aj a.2.1) (aj b.2.1)=true:=As;let d:oY 2 (aj a.2.2.2) (aj b.2.2.2)=true:=As;let p:∀f:List Int,pl 30 (aj f)=true:=λf=>Fv;change((List.range 4).all λj=>pl 30 ([D.int a.1,aj a.2.1,.int a.2.2.1,aj a.2.2.2].getD j .av)&&pl 30 ([D.int b.1,aj b.2.1,.int b.2.2.1,aj b.2.2.2].getD j .av)&&oY 2 ([D.int a.1,aj a.2.1,.int a.2.2.1,aj a.2.2.2].getD j .av) ([D.int b.1,aj b.2.1,.int b.2.2.1,aj b.2.2.2].getD j .av))=true;show Yu.mpr λj c=>?_;let c:j<4:=YW.mp c;match j,c with
 |0,_=>rfl
 |1,_=>change(pl 30 (aj a.2.1)&&pl 30 (aj b.2.1)&&oY 2 (aj a.2.1) (aj b.2.1))=true;rw[p,p,e];rfl
 |2,_=>rfl
 |3,_=>change(pl 30 (aj a.2.2.2)&&pl 30 (aj b.2.2.2)&&oY 2 (aj a.2.2.2) (aj b.2.2.2))=true;rw[p,p,d];rfl
def z9{st:ag}{K:DK}{a b:Ky}(k:K (.bl (Pl.mO a b)) st):tW (kD a) (kD b) st K:=RI (Tg a b) (by rw[RY];show k)
def qx{L:List Ky}{i:Nat}(h:i<L.length):eF (L.map kD) (i:Int)=some (kD (L.getD i k0)):=fb (by rw[XJ,XC h,Mx.aJ h];rfl)
def half{p:Nat}(h:0<p):((p:Int)-1).fdiv 2=(((p-1)/2:Nat):Int):=by
 rw[Ys _ ⋯];lia
def zA:Xq ph 2 BK pj:=by
 rintro C st K ⟨a,c,H,x,rfl,w,y,B,k⟩;show⟨rfl,?_⟩;let v:=(Xs.mp w.eh).1;show aR w.ea rfl (cJ (aE w.eh) ?_);rw[Xr];show vo rfl w.eh (bo rfl (sf w.eh (by rw[ZC,Xr];lia) ?_));let A:H.map kD++[kD x]=(H++[x]).map kD:=by rw[YR];rfl
 rw[A];let s:Upd st c (st.set c (.lst ((H++[x]).map kD))):=Upd.set;let r:(st.set c (.lst ((H++[x]).map kD)))[c]?=some (.lst ((H++[x]).map kD)):=XE v;generalize st.set c (.lst ((H++[x]).map kD))=s0 at s r⊢;let t:Pl.Up Pl.mO k0 (H++[x]) H.length x:=Pl.Up.start y
 let u:((H++[x]).set H.length x).Perm (x::H):=by
  rw[show(H++[x]).set H.length x=H++[x] by simp];show abc x H
 show⟨λm σ b=>∃L:List Ky,σ=[some (.ref a),some (kD x),some (.ref c),some (.int (m:Int))]/\b[c]?=some (.lst (L.map kD))/\Pl.Up Pl.mO k0 L m x/\(L.set m x).Perm (x::H)/\Upd st c b,⟨H.length,H++[x],rfl,r,t,u,s⟩,?_⟩;rintro m σ b ⟨L,rfl,h,l,q,U⟩;let n:=l.lp;let f:=(Xs.mp h).1
 let g:Pl.Heap Pl.mO k0 (L.set m x)->(dD (aa 2) (aa 3) (aa 1)) {nx:=λ_ b=>K .av b,rt:=K} [some (.ref a),some (kD x),some (.ref c),some (.int (m:Int))] b:=λz=>by
  show fE h (by rw[Xr];show f9 n) ?_;let p:(L.map kD).set m (kD x)=(L.set m x).map kD:=by rw[Y8]
  rw[p];show k _ (L.set m x) ⟨?_,XE f,w.ne⟩ z q (U.trans Upd.set);rw[Xu (XI w.ne),U.same a w.ne];show w.ea
 show Rb (λd=>?_) λd=>?_
 . have d:0<m:=()
   let o:(m-1)/2<L.length:=()
   show gX (pW ⋯ ⋯ ?_);rw[half d];show aB (aE h) (qx o) (z9 ?_);cases e:Pl.mO x (L.getD ((m-1)/2) k0)with
   |false=>show g (l.done (.inr e))
   |true=>
    show dN ?_;show gX (pW ⋯ ⋯ ?_);rw[half d];show aB (aE h) (qx o) (fE h (by rw[Xr];show f9 n) ?_);let p:(L.map kD).set m (kD (L.getD ((m-1)/2) k0))=(L.set m (L.getD ((m-1)/2) k0)).map kD:=by rw[Y8]
    rw[p];show gX (pW ⋯ ⋯ ?_);rw[half d];show⟨(m-1)/2,by lia,_,rfl,XE f,l.step Pl.oO d e,?_,U.trans Upd.set⟩;show(Pl.swap_perm n o ()).trans q
 show g (l.done (.inl ()))
structure gS(L:List Ky)(p b:Nat):Prop where
 b0:0<b
 lt:b<L.length
 par:(b-1)/2=p
 le:∀i,0<i->i<L.length->(i-1)/2=p->Pl.mO (L.getD i k0) (L.getD b k0)=false
def ff:cf:=λd st K=>∃(a c p:Nat) (L:List Ky),d=[.ref a,.int (p:Int)]/\iZ st a c L/\p<L.length/\L.length<=16000000/\(L.length<=2*p+1->K .av st)/\∀b,gS L p b->K (.int (b:Int)) st
def iL:List Str:=["self","place","left"]
def rF:DS:=(aw (aK 2 (ak cW (ak cP (dC (.int 2)) (aa 1)) (dC (.int 1))))
 (aw (cK (aQ (ak F1 (aa 2) (bS dO (ae (bX b9 "heap" (aa 0)) ai)))) (aX (dC .av)) cF)
 (aw (cK (rm (aQ (ak sH (ak cW (aa 2) (dC (.int 1))) (bS dO (ae (bX b9 "heap" (aa 0)) ai)))) (aQ (ak tW (ak aN (bX b9 "heap" (aa 0)) (ak cW (aa 2) (dC (.int 1)))) (ak aN (bX b9 "heap" (aa 0)) (aa 2))))) (aX (ak cW (aa 2) (dC (.int 1)))) cF)
 (aX (aa 2)))))
def qO:Xq ff 2 rF iL:=by
 rintro s st K ⟨a,f,p,L,rfl,w,q,r,n,d⟩;show⟨rfl,cR (dj ⋯ ⋯) (c_ ?_)⟩;let o:(2:Int)*(p:Int)+1=((2*p+1:Nat):Int):=()
 rw[o];show aR w.ea rfl (cJ (aE w.eh) (Og ?_));rw[Xr];by_cases h:L.length<=2*p+1
 . rw[X7 ()];show n h
 rw[XW ()];let c:2*p+1<L.length:=()
 show c_ (aR w.ea rfl (cJ (aE w.eh) (CD ?_)));rw[Xr];let g:((2*p+1:Nat):Int)+1=((2*p+2:Nat):Int):=()
 rw[g];let b:=Pl.oO.uC;by_cases m:2*p+2<L.length
 . rw[X7 ()];show aR w.ea rfl (c_ ?_);rw[g];show aB (aE w.eh) (qx m) (aR w.ea rfl (aB (aE w.eh) (qx c) (z9 ?_)));cases e:Pl.mO (L.getD (2*p+2) k0) (L.getD (2*p+1) k0)with
   |true=>
    show dN (c_ ?_);rw[g];show d _ ⟨by lia,m,by lia,λi k l f=>?_⟩;let:i=2*p+1\/i=2*p+2:=()
    rcases this with rfl|rfl
    . show Pl.oO.HM e
    show b _
   |false=>
    show d _ ⟨by lia,c,by lia,λi k l f=>?_⟩;let:i=2*p+1\/i=2*p+2:=()
    rcases this with rfl|rfl
    . show b _
    show e
 rw[XW ()];show d _ ⟨by lia,c,by lia,λi k l f=>?_⟩;let:i=2*p+1:=()
 subst this;show b _
def nW:cf:=λe st K=>∃(a c:Nat) (L:List Ky) (x:Ky),e=[.ref a,kD x]/\iZ st a c L/\Pl.Dn Pl.mO k0 L 0 x/\L.length<=16000000/\∀b d,iZ b a c d->Hp d->d.Perm (L.set 0 x)->Upd st c b->K .av b
def oo:List Str:=["self","thing","heap","place","below"]
def zT:DS:=(aw (aK 2 (bX b9 "heap" (aa 0)))
 (aw (aK 3 (dC (.int 0)))
 (aw (aK 4 (cQ b9 "lesser_below" ff (aa 0) (ae (aa 3) ai)))
 (aw (nq (rm (aQ (ak nP (aa 4) (dC .av))) (aQ (ak tW (ak aN (aa 2) (aa 4)) (aa 1)))) (aw (dD (aa 2) (aa 3) (ak aN (aa 2) (aa 4)))
 (aw (aK 3 (aa 4))
 (aK 4 (cQ b9 "lesser_below" ff (aa 0) (ae (aa 3) ai))))))
 (dD (aa 2) (aa 3) (aa 1))))))
def y6:Xq nW 2 zT oo:=by
 rintro T st K ⟨a,g,o,x,rfl,w,r,Q,k⟩;show⟨rfl,?_⟩;show aR w.ea rfl ?_;let wt:∀ {f:ag} {L:List Ky},Upd st g f->f[g]?=some (.lst (L.map kD))->iZ f a g L:=λU e=>⟨(U.same a w.ne).trans w.ea,e,w.ne⟩
 let N:∀(L:List Ky) (p:Nat) (l:D) (f:ag),(l= .av/\L.length<=2*p+1)\/(∃b:Nat,l= .int (b:Int)/\gS L p b)->f[g]?=some (.lst (L.map kD))->Pl.Dn Pl.mO k0 L p x->(L.set p x).Perm (o.set 0 x)->Upd st g f->L.length=o.length->aw (nq (rm (aQ (ak nP (aa 4) (dC .av))) (aQ (ak tW (ak aN (aa 2) (aa 4)) (aa 1)))) (aw (dD (aa 2) (aa 3) (ak aN (aa 2) (aa 4)))
  (aw (aK 3 (aa 4))
  (aK 4 (cQ b9 "lesser_below" ff (aa 0) (ae (aa 3) ai))))))
  (dD (aa 2) (aa 3) (aa 1)) {nx:=λ_ f=>K .av f,rt:=K} [some (.ref a),some (kD x),some (.ref g),some (.int (p:Int)),some l] f:=by
  intro L p l f B q s u U v;show⟨λm σ f=>∃(L:List Ky) (p:Nat) (l:D),m=o.length-p/\σ=[some (.ref a),some (kD x),some (.ref g),some (.int (p:Int)),some l]/\((l= .av/\L.length<=2*p+1)\/∃b:Nat,l= .int (b:Int)/\gS L p b)/\f[g]?=some (.lst (L.map kD))/\Pl.Dn Pl.mO k0 L p x/\(L.set p x).Perm (o.set 0 x)/\Upd st g f/\L.length=o.length,⟨_,L,p,l,rfl,rfl,B,q,s,u,U,v⟩,?_⟩;clear B q s u U v;rintro m σ f ⟨L,p,l,rfl,rfl,B,q,s,u,U,v⟩;let G:=s.lp;let y:=(Xs.mp q).1
  let z:Pl.Heap Pl.mO k0 (L.set p x)->(dD (aa 2) (aa 3) (aa 1)) {nx:=λ_ f=>K .av f,rt:=K} [some (.ref a),some (kD x),some (.ref g),some (.int (p:Int)),some l] f:=λR=>by
   show fE q (by rw[Xr];show f9 G) ?_;let I:(L.map kD).set p (kD x)=(L.set p x).map kD:=by rw[Y8]
   rw[I];show k _ (L.set p x) (wt (U.trans Upd.set) (XE y)) R u (U.trans Upd.set)
  rcases B with⟨rfl,C⟩|⟨b,rfl,h⟩
  . show jO rfl ?_;show z (s.done Pl.oO λi J M g=>by lia)
  show jO rfl ?_;show aB (aE q) (qx h.lt) (z9 ?_);cases e:Pl.mO (L.getD b k0) x with
  |false=>
   show z (s.done Pl.oO λi J M g=>Pl.oO.le e (h.le i J M g))
  |true=>
   show dN ?_;show aB (aE q) (qx h.lt) (fE q (by rw[Xr];show f9 G) ?_);let I:(L.map kD).set p (kD (L.getD b k0))=(L.set p (L.getD b k0)).map kD:=by rw[Y8]
   rw[I];let F:=U.trans (Upd.set (st:=f) (n:=g) (c:= .lst ((L.set p (L.getD b k0)).map kD)));let E:(f.set g (.lst ((L.set p (L.getD b k0)).map kD)))[g]?=some (.lst ((L.set p (L.getD b k0)).map kD)):=XE y;let A:=s.step Pl.oO h.b0 h.lt h.par h.le e;let O:=h.par;let b0:=h.b0;let t:=(Pl.swap_perm (x:=x) (d:=k0) G h.lt ()).trans u;let P:=h.lt;show de (wt F E).ea rfl ?_;show⟨a,g,b,L.set p (L.getD b k0),rfl,wt F E,by rw[XH];show P,by rw[XH];lia,λC=>?_,λS H=>?_⟩
   . show⟨o.length-b,by lia,_,b,_,rfl,rfl,.inl ⟨rfl,C⟩,E,A,t,F,by rw[XH];show v⟩
   show⟨o.length-b,by lia,_,b,_,rfl,rfl,.inr ⟨S,rfl,H⟩,E,A,t,F,by rw[XH];show v⟩
 show de w.ea rfl ?_;show⟨a,g,0,o,rfl,w,r.lp,Q,λC=>?_,λb h=>?_⟩
 . show N o 0 _ st (.inl ⟨rfl,C⟩) w.eh r (abV _) Upd.refl rfl
 show N o 0 _ st (.inr ⟨b,rfl,h⟩) w.eh r (abV _) Upd.refl rfl
def gL:cf:=λe st K=>∃(a c:Nat) (H:List Ky),e=[.ref a]/\iZ st a c H/\Hp H/\0<H.length/\H.length<=16000000/\∀b d,iZ b a c d->Hp d->H.Perm (H.getD 0 k0::d)->Upd st c b->K (kD (H.getD 0 k0)) b
def jF:List Str:=["self","heap","least","last"]
def sQ:DS:=(aw (aK 1 (bX b9 "heap" (aa 0)))
 (aw (aK 2 (ak aN (aa 1) (dC (.int 0))))
 (aw (aK 3 (vT (aa 1)))
 (aw (cK (aQ (ak ue (bS dO (ae (aa 1) ai)) (dC (.int 0)))) (fz (cQ b9 "sink" nW (aa 0) (ae (aa 3) ai))) cF)
 (aX (aa 2))))))
def sj:Xq gL 1 sQ jF:=by
 rintro I st K ⟨a,c,H,rfl,w,t,p,G,k⟩;show⟨rfl,?_⟩;let s:=(Xs.mp w.eh).1;show aR w.ea rfl (aB (aE w.eh) (qx (i:=0) p) ?_)
 let b:(H.map kD)[(H.map kD).length-1]?=some (kD (H.getD (H.length-1) k0)):=by
  rw[Xr,XJ,XC (),Mx.aJ ()];rfl
 show OD (λJ h=>h) w.eh b ?_;let v:(H.map kD).dropLast=H.dropLast.map kD:=List.map_dropLast.symm;rw[v];let e:Upd st c (st.set c (.lst (H.dropLast.map kD))):=Upd.set;let n:(st.set c (.lst (H.dropLast.map kD)))[c]?=some (.lst (H.dropLast.map kD)):=XE s;generalize st.set c (.lst (H.dropLast.map kD))=s0 at e n⊢;let f:iZ s0 a c H.dropLast:=⟨(e.same a w.ne).trans w.ea,n,w.ne⟩
 show cJ (aE n) (Cg ?_);rw[Xr]
 obtain⟨y,T,rfl⟩:∃y T,H=y::T:=by cases H with
  |nil=>simp at p
  |cons y T=>show⟨y,T,rfl⟩
 by_cases m:0<(y::T).dropLast.length
 . rw[X7 ()];show dN (de f.ea rfl ?_);show⟨a,c,_,_,rfl,f,Pl.Dn.start t m,by rw[Z_];lia,λg C r l o U=>?_⟩;show k g C r l ?_ (e.trans U);let d:T≠ []:=λz=>by subst z;simp at m
   let B:(y::T).dropLast=y::T.dropLast:=List.dropLast_cons_of_ne_nil d;let E:0<T.length:=List.length_pos_iff.mpr d
   let A:(y::T).getD ((y::T).length-1) k0=T.getLast d:=by
    rw[Mx.aJ (by simp),List.getLast_eq_getElem];let:(y::T).length-1=(T.length-1)+1:=by simp;lia
    simp![this,List.getElem_cons_succ]
   rw[B,A,List.set_cons_zero]at o;let x:((y::T).getD 0 k0)=y:=rfl;rw[x];show List.Perm.cons y ?_;show List.Perm.trans ?_ o.symm;let q:=abc (T.getLast d) T.dropLast;rw[List.dropLast_concat_getLast]at q;show q
 rw[XW ()]
 let d:T=[]:=by
  cases T with
  |nil=>rfl
  |cons z T=>simp at m
 subst d;show k s0 [] f (λi F u=>by simp at u) (abV _) e
structure yx(T:Pl.Tk)(x0:List Int)(B W:Nat):Prop where
 to:rM T
 red:Mx.zN T.F T.m T.ld
 lx:x0.length=T.n
 x0:∀k,k<T.m->0<=x0.getD (T.ld k) 0/\x0.getD (T.ld k) 0<Mx.g T.F k (T.ld k)
 lo:∀c,c<T.n->(T.l.getD c 0).natAbs<=B
 hi:∀c,c<T.n->(T.h.getD c 0).natAbs<=B
 S_:B<=2^40
 sp:∀c,c<T.n->T.h.getD c 0-T.l.getD c 0<=(W:Int)
 wt:(W+2)^T.m<=16000000
structure r_(T:Pl.Tk)(x0:List Int)(B t:Nat)(row:List Int):Prop where
 len:row.length=T.n
 ex:∃z:Nat->Int,(∀k,k<t->(z k).natAbs<=2^k*(B+1))/\∀c,c<T.n->row.getD c 0=x0.getD c 0+Mx.S t λk=>z k*Mx.g T.F k c
def kids(T:Pl.Tk)(t:Nat)(row:List Int):Nat:=(T.lst t row+1-T.jA t row).toNat
def qm(T:Pl.Tk)(t:Nat)(row:List Int)(i:Nat):List Int:=Mx.bg row (T.jA t row+i) (T.F.getD t [])
def gZ:cf:=λa st K=>∃(b t B W:Nat) (T:Pl.Tk) (x0 row:List Int),a=[.ref b,.int (t:Int),aj row]/\dX st b T/\yx T x0 B W/\t<T.m/\r_ T x0 B t row/\K (.tup [.int (T.jA t row),.lst ((List.range (kids T t row)).map λi=>aj (qm T t row i))]) st
def qG:List Str:=["task","taken","row","step","lead","first","last"]
def xt:DS:=(aw (aK 3 (ak aN (bX aU "steps" (aa 0)) (aa 1)))
 (aw (aK 4 (aA iG (ae (aa 3) ai)))
 (aw (aK 5 (nU jd (ak kH (ak jr (ak aN (aa 2) (aa 4)) (ak aN (bX aU "low" (aa 0)) (aa 4))) (ak aN (aa 3) (aa 4)))))
 (aw (aK 6 (ak kH (ak jr (ak aN (bX aU "high" (aa 0)) (aa 4)) (ak aN (aa 2) (aa 4))) (ak aN (aa 3) (aa 4))))
 (aX (df (ae (aa 5) (ae (dW (si (ae (aa 5) (ae (ak cW (aa 6) (dC (.int 1))) ai))) [none,some 2,some 3] (cM 0) cT (bS cY (ae (aA mW (ae (aa 1) (ae (aa 0) (ae (aa 2) ai)))) ai))) ai))))))))
def jw{x s:Int}(a:0<s)(h:x.natAbs<=s.natAbs*M):(x.fdiv s).natAbs<=M:=by
 rw[Ys _ ()];obtain⟨c,rfl⟩:∃c:Nat,s=(c:Int):=⟨s.toNat,by lia⟩
 rw[Int.natAbs_natCast]at h;let d:x<=(c:Int)*(M:Int):=by rw[<-Int.natCast_mul];lia
 let b: -((c:Int)*(M:Int))<=x:=by rw[<-Int.natCast_mul];lia
 let f:x/(c:Int)<=(M:Int):=Int.ediv_le_of_le_mul a (by rw[Zd];show d);let e: -(M:Int)<=x/(c:Int):=(aaE a).mpr (by rw[Zq,Zd];show b);lia
def FV{z f:Nat->Int}:∀t,(∀k,k<t->(z k).natAbs<=2^k*(B+1))->(∀k,k<t->(f k).natAbs<=s)->(Mx.S t λk=>z k*f k).natAbs<=s*((2^t-1)*(B+1))
 |0,_,_=>by change(0:Int).natAbs<=_;simp
 |t+1,a,b=>by
  let d:=FV t (λk hk=>a k ()) λk hk=>b k ();change((Mx.S t λk=>z k*f k)+z t*f t).natAbs<=_;let h:=Int.natAbs_add_le (Mx.S t λk=>z k*f k) (z t*f t);let g:(z t*f t).natAbs<=2^t*(B+1)*s:=by rw[Yt];show Yj (a t ()) (b t ())
  let e:s*((2^(t+1)-1)*(B+1))=s*((2^t-1)*(B+1))+2^t*(B+1)*s:=by
   let p:0<2^t:=ZX ⋯;let c:2^(t+1)-1=(2^t-1)+2^t:=by rw[YI];lia
   rw[c,aag,Nat.mul_add,Y1 (2^t*(B+1)) s]
  lia
def r_.near{T:Pl.Tk}(a:yx T d B W)(h:r_ T d B t row)(c:t<T.m):(T.jA t row).natAbs<=2^t*(B+1)/\(T.lst t row).natAbs<=2^t*(B+1):=by
 let o:=a.to.ok;obtain⟨b,f,E⟩:=o.st.lead t c;obtain⟨z,q,g⟩:=h.ex;let g:=g (T.ld t) b;obtain⟨C,A⟩:=a.x0 t c
 let x:∀k,k<t->(Mx.g T.F k (T.ld t)).natAbs<=(Mx.g T.F t (T.ld t)).natAbs:=λk hk=>by
  let:=a.red k t hk c;lia
 let r:=FV t q x;let s:=a.lo (T.ld t) b;let w:=a.hi (T.ld t) b;let p:0<2^t:=ZX ⋯
 let key:∀y:Int,y.natAbs<=B->(row.getD (T.ld t) 0-y).natAbs<=(Mx.g T.F t (T.ld t)).natAbs*(2^t*(B+1)):=λy F=>by
  let e:2^t*(B+1)=(2^t-1)*(B+1)+(B+1):=by
   rw[<-Y7];congr 1;lia
  rw[e,Nat.mul_add];let n:1<=(Mx.g T.F t (T.ld t)).natAbs:=()
  let m:(Mx.g T.F t (T.ld t)).natAbs*(B+1)=(Mx.g T.F t (T.ld t)).natAbs*B+(Mx.g T.F t (T.ld t)).natAbs:=Nat.mul_succ _ _;let l:B<=(Mx.g T.F t (T.ld t)).natAbs*B:=abK _ n;generalize(Mx.g T.F t (T.ld t)).natAbs*((2^t-1)*(B+1))=u at r⊢;generalize(Mx.g T.F t (T.ld t)).natAbs*B=v at m l⊢;lia
 constructor
 . unfold Pl.Tk.jA;rw[Y4];show jw f (key _ s)
 unfold Pl.Tk.lst;show jw f ?_;let:=key _ w;lia
def yx.kids{T:Pl.Tk}{e row:List Int}(c:yx T e B W)(g:t<T.m):kids T t row<=W+1:=by
 obtain⟨f,d,h⟩:=c.to.ok.st.lead t g;let k:=c.sp (T.ld t) f;unfold Prog.kids Pl.Tk.jA Pl.Tk.lst;rw[Ys _ (),Ys _ ()];let o:=Int.ediv_mul_le (T.h.getD (T.ld t) 0-row.getD (T.ld t) 0) (ZL d);let n:=Int.ediv_mul_le (row.getD (T.ld t) 0-T.l.getD (T.ld t) 0) (ZL d);generalize(T.h.getD (T.ld t) 0-row.getD (T.ld t) 0)/Mx.g T.F t (T.ld t)=a at*;generalize(row.getD (T.ld t) 0-T.l.getD (T.ld t) 0)/Mx.g T.F t (T.ld t)=b at*;let m:(a+b)*Mx.g T.F t (T.ld t)<=W:=by rw[Int.add_mul];lia
 let l:a+b<=W:=by
  rcases Int.lt_or_le (a+b) 0 with z|z
  . lia
  have:=Zi (show(1:Int)<=Mx.g T.F t (T.ld t) by lia) z;lia
 lia
def Uc(d:B<=2^40)(a:t<=16):2^t*(B+1)<=2^58:=by
 let c:2^t<=2^16:=XO ⋯ a;let b:B+1<=2^41:=()
 show Xy (Yj c b) ⋯
def wj:Xq gZ 3 xt qG:=by
 rintro S st K ⟨b,t,B,W,T,E,row,rfl,⟨X,Y,V,dl,U,L,n,l,J⟩,a,c,p,k⟩;show⟨rfl,?_⟩;let o:=a.to.ok;let H:=a.to.n8;let I:=a.to.m8;obtain⟨r,P,O⟩:=o.st.lead t c;let N:=o.lF.len;let M:=p.len;let v:=o.lF.row c;let e:eF (T.F.map aj) (t:Int)=some (aj (T.F.getD t [])):=fb (by rw[XJ,XC (),Mx.aJ ()];rfl);obtain⟨G,F⟩:=p.near a c;let u:=Uc a.S_ (show t<=16 by lia);show aR l rfl (aB rfl e ⟨_,_,rfl,rfl,?_⟩);rw[C2 o.lF o.st c];let tr:LT (aj row) row:= .inr rfl;let m:LT (aj (T.F.getD t [])) (T.F.getD t []):= .inr rfl;let h:(T.F.getD t []).getD (T.ld t) 0=Mx.g T.F t (T.ld t):=rfl;show tr.at () (aR l rfl (n.l.at (by rw[o.ll];show r) (gX (m.at () (jv (by rw[h];lia) (jb ?_))))));show aR l rfl (n.h.at (by rw[o.lh];show r) (tr.at () (gX (m.at () (jv (by rw[h];lia) ?_)))));rw[h];let C: -((row.getD (T.ld t) 0-T.l.getD (T.ld t) 0).fdiv (Mx.g T.F t (T.ld t)))=T.jA t row:=rfl;let A:(T.h.getD (T.ld t) 0-row.getD (T.ld t) 0).fdiv (Mx.g T.F t (T.ld t))=T.lst t row:=rfl;rw[C,A];show c_ (FU ⟨by lia,by lia,by lia,by lia⟩ ?_)
 let cl:kids T t row<=16000000:=by
  let R:=a.kids (row:=row) c;let Q:=a.wt;let w:(W+2)^1<=(W+2)^T.m:=XO () ();rw[Nat.pow_one]at w;lia
 show⟨by rw[jG,ZC];unfold kids at cl;lia,?_⟩
 let y:∀i,i<kids T t row->((T.jA t row+i:Int)).natAbs<=2^58:=λi f=>by
  unfold kids at f;lia
 show comp_map (g:=λd=>match d with| .int z=>aj (Mx.bg row z (T.F.getD t []))|_=> .av) trivial _ (λd s Z q=>?_) ?_
 . unfold fg at s;obtain⟨i,f,rfl⟩:=X8.mp s;let f:=YW.mp f;let:=y i f;show⟨_,rfl,_,_,_,_,_,rfl,rfl,rfl,by lia,λb _=>dj () (),cL rfl q⟩
 have x:(fg (T.jA t row) (T.lst t row+1-T.jA t row).toNat).map (λd=>match d with| .int z=>aj (Mx.bg row z (T.F.getD t []))|_=>D.av)=(List.range (kids T t row)).map λi=>aj (qm T t row i):=by
  unfold fg;rw[X6];rfl
 rw[x];show⟨Xz rfl,k⟩
def k_:cf:=λa st K=>∃(b t:Nat) (T:Pl.Tk) (row:List Int),a=[.ref b,.int (t:Int),aj row]/\dX st b T/\rM T/\t<=T.m/\row.length=T.n/\(T.Open t row->K .av st)/\(¬T.Open t row->∀s (i:Nat),K (.tup [.str s,.int (i:Int)]) st)
def su:List Str:=["task","taken","row","fixed","place","k"]
def AF:DS:=(aw (aK 3 (cQ aU "fixed" kr (aa 0) (ae (aa 1) (ae (aa 2) ai))))
 (aw (j5 (gO (ae (bS dO (ae (aa 3) ai)) ai)) (cM 4) (cK (aQ (cQ aU "is_outside" lG (aa 0) (ae (aa 4) (ae (aa 2) ai)))) (aX (df (ae (dC (.str "out")) (ae (aa 4) ai)))) cF))
 (aw (j5 (gO (ae (bS dO (ae (bX aU "rows" (aa 0)) ai)) ai)) (cM 5) (cK (aQ (cQ aU "is_broken" mq (aa 0) (ae (aa 5) (ae (aa 1) (ae (aa 3) ai))))) (aX (df (ae (dC (.str "row")) (ae (aa 5) ai)))) cF))
 (aX (dC .av)))))
def zk:Xq k_ 3 AF su:=by
 rintro N st K ⟨b,t,T,row,rfl,tk,to,w,y,B,v⟩;show⟨rfl,?_⟩;let o:=to.ok;let H:=to.n8;let F:=to.w8;let M:=o.yV t;let A:=o.lR.len;let m:=tk;obtain⟨Q,R,P,dl,O,L,x,l,I⟩:=m;obtain⟨G,E,p,J⟩:=x.r.ex;show de l rfl ⟨b,t,T,_,row,rfl,tk,w,.inr rfl,?_⟩;show cJ rfl ?_;let lt:(ao (row.take (T.e9 t))).length=T.e9 t:=by rw[Xr,YD];lia
 rw[lt];show jT ⟨by lia,by lia⟩ ?_;rw[Yb];show kq (T.e9 t) (λj σ s=>s=st/\(∃f d:Option D,σ=[some (.ref b),some (.int (t:Int)),some (aj row),some (aj (row.take (T.e9 t))),f,d])/\∀c,c<j->T.l.getD c 0<=row.getD c 0/\row.getD c 0<=T.h.getD c 0) ?_ ?_ ⟨rfl,⟨none,none,rfl⟩,λc q=>absurd q (XZ _)⟩
 . rintro σ s ⟨rfl,⟨f,d,rfl⟩,a⟩;show aR l rfl (cJ (E _) ?_);rw[p,A];show jT ⟨by lia,by lia⟩ ?_;rw[Yb];show kq T.w (λj σ n=>n=s/\(∃f d:Option D,σ=[some (.ref b),some (.int (t:Int)),some (aj row),some (aj (row.take (T.e9 t))),f,d])/\∀i,i<j->T.low t i<=Mx.aP (T.R.getD i []) (row.take (T.e9 t))/\Mx.aP (T.R.getD i []) (row.take (T.e9 t))<=T.high t i) ?_ ?_ ⟨rfl,⟨_,_,rfl⟩,λc q=>absurd q (XZ _)⟩
   . rintro σ n ⟨rfl,⟨f,d,rfl⟩,g⟩;show B ⟨a,g⟩
   rintro j σ n rest k ⟨rfl,⟨f,d,rfl⟩,g⟩ next
   show⟨_,rfl,?_⟩;show de l rfl ⟨b,j,t,T,_,rfl,tk,to,w,k,?_⟩;cases e:(decide (T.low t j<=Mx.aP (T.R.getD j []) (row.take (T.e9 t)))&&decide (Mx.aP (T.R.getD j []) (row.take (T.e9 t))<=T.high t j))with
   |true=>
    rw[Ym,ZA,ZA]at e;show next _ _ ⟨rfl,⟨_,_,rfl⟩,λi C=>?_⟩
    by_cases z:i=j
    . subst z;show e
    show g i ()
   |false=>
    show dN ⟨Xz rfl,v (λh=>?_) _ _⟩;obtain⟨u,r⟩:=h.eqs j k;rw[X7 u,X7 r]at e;cases e
 rintro j σ s rest k ⟨rfl,⟨f,d,rfl⟩,a⟩ next
 show⟨_,rfl,?_⟩;show de l rfl ⟨b,j,T,_,row,rfl,tk,o,.inr rfl,y,by lia,?_⟩;cases e:(decide (T.l.getD j 0<=row.getD j 0)&&decide (row.getD j 0<=T.h.getD j 0))with
 |true=>
  rw[Ym,ZA,ZA]at e;show next _ _ ⟨rfl,⟨_,_,rfl⟩,λi C=>?_⟩
  by_cases z:i=j
  . subst z;show e
  show a i ()
 |false=>
  show dN ⟨Xz rfl,v (λh=>?_) _ _⟩;obtain⟨u,r⟩:=h.box j k;rw[X7 u,X7 r]at e;cases e
def dX.upd{st a:ag}(h:dX st b T)(U:Upd st d a)(e:st[d]?=some (.lst xs)):dX a b T:=by
 obtain⟨p,q,o,dl,n,L,f,l,g⟩:=h
 let c:∀ {m:Nat} {C:Addr} {fs:List (Str×D)},st[m]?=some (.ins C fs)->a[m]?=some (.ins C fs):=λ{m C fs} h=>by
  rw[U.same m λz=>by subst z;rw[e]at h;cases h];show h
 show⟨p,q,o,dl,n,L,f,c l,λt k=>c (g t k)⟩
def jR:cf:=λf st K=>∃(a b d t:Nat) (T:Pl.Tk) (row:List Int) (H:List Ky),f=[.ref a,.ref b,.int (t:Int),aj row]/\dX st b T/\rM T/\t<=T.m/\row.length=T.n/\iZ st a d H/\Hp H/\H.length<=16000000/\(T.Open t row->∀c e,iZ c a d e->Hp e->e.Perm (T.key t row::H)->Upd st d c->K .av c)/\(¬T.Open t row->K .av st)
def ug:List Str:=["waiting","task","taken","row","fixed"]
def BE:DS:=(cK (aQ (ak zj (aA k_ (ae (aa 1) (ae (aa 2) (ae (aa 3) ai)))) (dC .av))) (aw (aK 4 (cQ aU "fixed" kr (aa 1) (ae (aa 2) (ae (aa 3) ai))))
 (fz (cQ b9 "put" ph (aa 0) (ae (df (ae (cQ aU "least_cost" iW (aa 1) (ae (aa 2) (ae (aa 4) ai))) (ae (aa 4) (ae (aa 2) (ae (aa 3) ai))))) ai)))) cF)
def AI:Xq jR 4 BE ug:=by
 rintro z st K ⟨a,b,u,t,T,row,H,rfl,tk,to,e,l,w,o,r,m,n⟩;show⟨rfl,?_⟩;let c:=tk;obtain⟨C,E,B,dl,A,L,x,g,y⟩:=c;show⟨b,t,T,row,rfl,tk,to,e,l,λp=>o7 rfl ?_,λq s i=>o7 rfl (n q)⟩;show de g rfl ⟨b,t,T,_,row,rfl,tk,e,.inr rfl,?_⟩;show de w.ea rfl ?_;show de g rfl ⟨b,t,T,_,rfl,tk,to,e,⟨Xz rfl,?_⟩⟩;show⟨a,u,H,T.key t row,rfl,w,o,r,λd v h f k U=>m p d v h f k U⟩
def rJ:cf:=λc st K=>∃(b B W:Nat) (T:Pl.Tk) (x0:List Int),c=[.ref b,aj x0]/\dX st b T/\yx T x0 B W/\((∀x,T.fJ x->T.l9 0 x0 x->False)->∀a,Ext st a->K .av a)/\∀row a,Ext st a->T.fJ row->(∀x,T.fJ x->T.l9 0 x0 x->Pl.ltB (Mx.aP T.c x,x) (Mx.aP T.c row,row)=false)->K (aj row) a
def wL:List Str:=["task","answer","waiting","least","taken","row"]
def Fp:DS:=(aw (aK 2 (pP b9 ky ai))
 (aw (fz (aA jR (ae (aa 2) (ae (aa 0) (ae (dC (.int 0)) (ae (aa 1) ai))))))
 (aw (nq (i3 (aQ (cQ b9 "is_empty" iz (aa 2) ai))) (aw (aK 3 (cQ b9 "take_least" gL (aa 2) ai))
 (aw (aK 4 (ak aN (aa 3) (dC (.int 2))))
 (aw (cK (aQ (cQ aU "is_end" jL (aa 0) (ae (aa 4) ai))) (aX (ak aN (aa 3) (dC (.int 3)))) cF)
 (j5 (fU (ak aN (aA gZ (ae (aa 0) (ae (aa 4) (ae (ak aN (aa 3) (dC (.int 3))) ai)))) (dC (.int 1)))) (cM 5) (fz (aA jR (ae (aa 2) (ae (aa 0) (ae (ak cW (aa 4) (dC (.int 1))) (ae (aa 5) ai)))))))))))
 (aX (dC .av)))))
def Ext.ups{st s s':ag}(X:Ext st s)(U:Upd s a s')(h:st.length<=a):Ext st s':=⟨by rw[U.len];show X.len,λm b=>(U.same m ()).trans (X.same m b)⟩
def dX.ext{st a:ag}(h:dX st b T)(X:Ext st a):dX a b T:=by
 obtain⟨n,o,l,dl,k,L,d,g,e⟩:=h;let c:∀ {m:Nat} {x:Cell},st[m]?=some x->a[m]?=some x:=λh=>(X.same _ (Xs.mp h).1).trans h;show⟨n,o,l,dl,k,L,d,c g,λt f=>c (e t f)⟩
def SM(W m:Nat)(k:Ky):Nat:=(W+2)^(m-k.2.2.1.toNat)
def jh(W m:Nat)(H:List Ky):Nat:=(H.map (SM W m)).sum
def xh{H a:List Ky}(h:H.Perm a):jh W m H=jh W m a:=(h.map _).sum_nat
def z8:∀H:List Ky,H.length<=jh W m H
 | []=>Xv _
 |k::H=>by
  let a:=z8 (W:=W) (m:=m) H;let e:jh W m (k::H)=SM W m k+jh W m H:=by unfold jh;rw[Yg,ZQ]
  let p:0<SM W m k:=ZX ();rw[e,XT];lia
def Good(T:Pl.Tk)(a:List Int)(B:Nat)(H:List Ky):Prop:=∀k∈H,∃t row,t<=T.m/\k=T.key t row/\T.Open t row/\r_ T a B t row
def Cv(T:Pl.Tk)(H:List Ky)(x:List Int):Prop:=∃t row,T.key t row∈H/\t<=T.m/\row.length=T.n/\T.l9 t row x
def r_.qm{T:Pl.Tk}{B W t i:Nat}(b:yx T a B W)(h:r_ T a B t row)(l:t<T.m)(o:i<kids T t row):r_ T a B (t+1) (qm T t row i):=by
 let d:=b.to.ok.lF.row l;obtain⟨z,m,n⟩:=h.ex;obtain⟨r,q⟩:=h.near b l;unfold kids at o;show⟨by unfold Prog.qm;rw[Mx.fR (by rw[h.len,d])];show h.len,λk=>if k<t then z k else T.jA t row+i,λk hk=>?_,λc p=>?_⟩
 . by_cases e:k<t
   . dsimp only;rw[XB e];show m k e
   dsimp only;rw[Xx e];let:k=t:=()
   subst this;lia
 unfold Prog.qm;rw[Mx.i_ (by rw[h.len,d]),n c p];change _=a.getD c 0+(Mx.S t (λk=>(if k<t then z k else T.jA t row+i)*Mx.g T.F k c)+(if t<t then z t else T.jA t row+i)*Mx.g T.F t c);rw[Xx (YM t),Mx.aG (f:=λk=>(if k<t then z k else T.jA t row+(i:Int))*Mx.g T.F k c) (g:=λk=>z k*Mx.g T.F k c) λk hk=>by rw[XB hk],abX];rfl
def DB:Xq rJ 2 Fp wL:=by
 rintro ds st K ⟨b,B,W,T,f,rfl,tk,F,kN,kR⟩;show⟨rfl,?_⟩;let to:=F.to;let o:=to.ok;let lF:=o.lF.len;let e1:(st++[Cell.ins b9 []]).length=st.length+1:=by simp
 show⟨st.length,rfl,by simp,λaq w2 l2 f2=>⟨rfl,?_⟩⟩;rw[e1]at w2 l2 f2;let X2:Ext st aq:=⟨by lia,λm hm=>by rw[f2 m () (),XA hm]⟩
 let S:=tk.ext X2;let av:st.length<=st.length+1:=()
 generalize st.length+1=J at w2 av;let sX:∀ {s s':ag},Ext st s->Upd s J s'->Ext st s':=λX U=>X.ups U av;generalize ha:st.length=a at w2⊢
 let Q:∀(H:List Ky) (s:ag) (v3 v4 y:Option D),iZ s a J H->Hp H->Good T f B H->(∀x,T.fJ x->T.l9 0 f x->Cv T H x)->jh W T.m H<=16000000->dX s b T->Ext st s->(aw (nq (i3 (aQ (cQ b9 "is_empty" iz (aa 2) ai))) (aw (aK 3 (cQ b9 "take_least" gL (aa 2) ai))
  (aw (aK 4 (ak aN (aa 3) (dC (.int 2))))
  (aw (cK (aQ (cQ aU "is_end" jL (aa 0) (ae (aa 4) ai))) (aX (ak aN (aa 3) (dC (.int 3)))) cF)
  (j5 (fU (ak aN (aA gZ (ae (aa 0) (ae (aa 4) (ae (ak aN (aa 3) (dC (.int 3))) ai)))) (dC (.int 1)))) (cM 5) (fz (aA jR (ae (aa 2) (ae (aa 0) (ae (ak cW (aa 4) (dC (.int 1))) (ae (aa 5) ai)))))))))))
  (aX (dC .av))) {nx:=λ_ a0=>K .av a0,rt:=K} [some (.ref b),some (aj f),some (.ref a),v3,v4,y] s:=by
  intro H s v3 v4 y w hp gd cv tl tk X;show⟨λm σ s=>∃(H:List Ky) (v3 v4 y:Option D),m=jh W T.m H/\σ=[some (.ref b),some (aj f),some (.ref a),v3,v4,y]/\iZ s a J H/\Hp H/\Good T f B H/\(∀x,T.fJ x->T.l9 0 f x->Cv T H x)/\jh W T.m H<=16000000/\dX s b T/\Ext st s,⟨_,H,v3,v4,y,rfl,rfl,w,hp,gd,cv,tl,tk,X⟩,?_⟩;clear w hp gd cv tl tk X;rintro m σ s ⟨H,v3,v4,y,rfl,rfl,w,hp,gd,cv,tl,tk,X⟩;let hl:=Xy (z8 (W:=W) (m:=T.m) H) tl;show de w.ea rfl ⟨a,J,H,rfl,w,?_⟩;by_cases h0:H.length=0
  . rw[X7 h0];show kN (λx s u=>?_) s X;obtain⟨t,row,hk,_⟩:=cv x s u;rw[List.eq_nil_of_length_eq_zero h0]at hk;cases hk
  rw[XW h0];show dN (de w.ea rfl ⟨a,J,H,rfl,w,hp,by lia,hl,λs3 H' w3 ah pm U3=>?_⟩)
  let R:∀k∈H,Pl.mO k (H.getD 0 k0)=false:=λk hk=>by
   obtain⟨i,q,rfl⟩:=Yh.mp hk;let:=hp.least Pl.oO i q;rw[Mx.aJ q]at this;show this
  let ar:H.getD 0 k0∈H:=by rw[Mx.aJ ()];show Yd _
  obtain⟨t,row,ht,el,op,rn⟩:=gd _ ar;rw[el]at R pm⊢;let X3:=sX X U3;let E:=tk.upd U3 w.eh;let aO:=E;obtain⟨dc,dR,dd,dl,dh,L,tf,eb,ly⟩:=aO;show aB rfl rfl (de eb rfl ⟨b,t,T,rfl,E,o,?_⟩);by_cases hm:t=T.m
  . rw[X7 hm];subst hm;show dN (aB rfl rfl (kR row s3 X3 (op.sol o rn.len) ?_))
    let wt:T.Wt (λx=>T.l9 0 f x) H:=⟨λk hk=>by
     obtain⟨t,r,l,g,v,h4⟩:=gd k hk;show⟨t,r,l,g,h4.len,v⟩,cv⟩
    show wt.best o R rn.len
  rw[XW hm];let ht:t<T.m:=()
  show aB rfl rfl ?_;show⟨b,t,B,W,T,f,row,rfl,E,F,ht,rn,aB rfl rfl (Gs ?_)⟩;let bc:=F.kids (row:=row) ht
  let et:jh W T.m H=(W+2)^(T.m-t)+jh W T.m H':=by
   rw[xh pm];unfold jh;rw[Yg,ZQ];rfl
  let ep:(W+2)^(T.m-t)=(W+1)*(W+2)^(T.m-(t+1))+(W+2)^(T.m-(t+1)):=by
   rw[show T.m-t=(T.m-(t+1))+1 by lia,YI,Y1,<-Y7]
  let pp:0<(W+2)^(T.m-(t+1)):=ZX ();let O:∀i,i<=kids T t row->i*(W+2)^(T.m-(t+1))<=(W+1)*(W+2)^(T.m-(t+1)):=λi q=>YV _ ();generalize hP:(W+2)^(T.m-(t+1))=P at ep pp O;show jS (λrest σ s=>∃(i:Nat) (n:List Ky) (y:Option D),i+rest.length=kids T t row/\rest=((List.range (kids T t row)).map λi=>aj (qm T t row i)).drop i/\σ=[some (.ref b),some (aj f),some (.ref a),some (kD (T.key t row)),some (.int (t:Int)),y]/\iZ s a J n/\Hp n/\Good T f B n/\jh W T.m n<=jh W T.m H'+i*P/\(∀x,T.fJ x->T.l9 0 f x->Cv T n x\/∃j,i<=j/\j<kids T t row/\T.l9 (t+1) (qm T t row j) x)/\dX s b T/\Ext st s) ?_ ?_ _ _ _ ⟨0,H',y,by simp,rfl,rfl,w3,ah,λk hk=>gd k (pm.symm.subset (XN _ hk)),by lia,λx p C=>?_,E,X3⟩
  . rintro σ s4 ⟨i,n,y,q,_,rfl,w4,I,M,az,N,A,X4⟩;rw[Zf,abz]at q;subst q;let:=O _ (Xv _);show⟨trivial,jh W T.m n,by lia,n,_,_,_,rfl,rfl,w4,I,M,λx p C=>?_,by lia,A,X4⟩;rcases N x p C with h|⟨j,l,g,_⟩
    . show h
    lia
  . rintro d rest σ s4 ⟨i,n,y,q,hd,rfl,w4,I,M,az,N,A,X4⟩ next
    rw[XT]at q;let li:i<((List.range (kids T t row)).map λi=>aj (qm T t row i)).length:=by rw[Xr,ZZ];lia
    rw[X9 li]at hd;injection hd with l g;rw[ZM,aa7]at l;subst l;let a5:i<kids T t row:=()
    let rk:=rn.qm F ht a5;let bi:=O i ();let bb:=O (i+1) ();rw[Y7]at bb;let a6:(t:Int)+1=((t+1:Nat):Int):=()
    show⟨trivial,_,rfl,c_ ?_⟩;rw[a6];let l4:=z8 (W:=W) (m:=T.m) n;show⟨a,b,J,t+1,T,qm T t row i,n,rfl,A,to,by lia,rk.len,w4,I,by lia,λop s5 H5 w5 a4 G U5=>?_,λab=>?_⟩
    . have e5:jh W T.m H5=P+jh W T.m n:=by
       rw[xh G,<-hP];unfold jh;rw[Yg,ZQ];rfl
      show next _ _ ⟨i+1,H5,_,by lia,g,rfl,w5,a4,λk hk=>?_,by rw[Y7];lia,λx p C=>?_,A.upd U5 w4.eh,sX X4 U5⟩
      . rcases XU.mp (G.subset hk)with rfl|hk
        . show⟨t+1,_,by lia,rfl,op,rk⟩
        show M k hk
      rcases N x p C with⟨V,Y,l,g,v⟩|⟨j,l,g,v⟩
      . show .inl ⟨V,Y,G.symm.subset (XN _ l),g,v⟩
      by_cases z:j=i
      . subst z;show .inl ⟨t+1,_,G.symm.subset XX,by lia,rk.len,v⟩
      show .inr ⟨j,by lia,g,v⟩
    show next _ _ ⟨i+1,n,_,by lia,g,rfl,w4,I,M,by rw[Y7];lia,λx p C=>?_,A,X4⟩
    rcases N x p C with h|⟨j,l,g,v⟩
    . show .inl h
    by_cases z:j=i
    . subst z;show absurd (v.VG o () rk.len p) ab
    show .inr ⟨j,by lia,g,v⟩
  obtain⟨V,Y,l,g,v,h4⟩:=cv x p C;rcases XU.mp (pm.subset l)with e|l
  . have a7:V=t:=by
     let:=YK (λk:Ky=>k.2.2.1) e;unfold Pl.Tk.key at this;dsimp only at this;lia
    let er:Y=row:=YK (λk:Ky=>k.2.2.2) e;subst a7 er;obtain⟨z,z1,z2,z3⟩:=h4.next o ht v p;show .inr ⟨(z-T.jA V Y).toNat,Yc _,by unfold kids;lia,?_⟩;unfold qm;rw[show T.jA V Y+((z-T.jA V Y).toNat:Int)=z by lia];show z3
  show .inl ⟨V,Y,l,g,v,h4⟩
 let a3:r_ T f B 0 f:=⟨F.lx,λ_=>0,λk hk=>absurd hk (XZ _),λc J=>(YH _).symm⟩
 show⟨a,b,J,0,T,f,[],rfl,S,to,Yc _,F.lx,w2,λi i0 q=>by simp at q,by simp,λop s3 H3 w3 ah Z U3=>?_,λab=>?_⟩
 . show Q H3 s3 none none none w3 ah (λk hk=>?_) (λx p C=>?_) ?_ (S.upd U3 w2.eh) (sX X2 U3)
   . have:=Z.subset hk;rw[YE]at this;subst this;show⟨0,f,Yc _,rfl,op,a3⟩
   . show⟨0,f,Z.symm.subset XX,Yc _,F.lx,C⟩
   rw[xh Z];show F.wt
 show Q [] aq none none none w2 (λi i0 q=>by simp at q) (λk hk=>by cases hk) (λx p C=>?_) (Yc _) S X2;show absurd (C.VG o (Yc _) F.lx p) ab
structure Sk(st:ag)(g b:Nat)(T:Pl.Tk)(dp dc:D):Prop where
 eg:st[g]?=some (.ins bV [("task",.ref b),("plan",dp),("told_cost",dc)])
 pl:(dp= .av/\dc= .av)\/∃p:List Int,dp=aj p/\dc= .int (Mx.aP T.c p)
def iY:cf:=λc st K=>∃(g b:Nat) (T:Pl.Tk) (dp:D),c=[.ref g,.ref b,dp]/\st[g]?=some (.ins bV [])/\(∀a,(∀m,m≠g->a[m]?=st[m]?)->dX a b T)/\rM T/\(dp= .av\/∃p:List Int,dp=aj p)/\∀a d,Sk a g b T dp d->Upd st g a->K .av a
def lH:List Str:=["self","task","plan"]
def wk:DS:=(aw (fD bV "task" (aa 0) (aa 1))
 (aw (fD bV "plan" (aa 0) (aa 2))
 (fD bV "told_cost" (aa 0) (JZ (aQ (ak nP (aa 2) (dC .av))) (aA wa (ae (bX aU "costs" (aa 1)) (ae (aa 2) ai))) (dC .av)))))
def vh:Xq iY 3 wk lH:=by
 rintro x st K ⟨g,b,T,a,rfl,n,t,to,r,k⟩;show⟨rfl,?_⟩;let v:=to.n8;show dP n (Xz rfl) ?_;let o:Upd st g (st.set g (.ins bV (putD "task" (.ref b) []))):=Upd.set;let f:(st.set g (.ins bV (putD "task" (.ref b) [])))[g]?=some (.ins bV [("task",.ref b)]):=XE (Xs.mp n).1;generalize st.set g _=s1 at o f⊢;show dP f (Xz rfl) ?_;let l:Upd st g (s1.set g (.ins bV (putD "plan" a [("task",.ref b)]))):=o.trans Upd.set;let e:(s1.set g (.ins bV (putD "plan" a [("task",.ref b)])))[g]?=some (.ins bV [("task",.ref b),("plan",a)]):=XE (Xs.mp f).1;generalize s1.set g _=s2 at l e⊢;let d:∀c,((a= .av/\c= .av)\/∃p:List Int,a=aj p/\c= .int (Mx.aP T.c p))->K .av (s2.set g (.ins bV (putD "told_cost" c [("task",.ref b),("plan",a)]))):=λc h=>k _ c ⟨XE (Xs.mp e).1,h⟩ (l.trans Upd.set);rcases r with rfl|⟨p,rfl⟩
 . show jO rfl (dP e (Xz rfl) (d .av (.inl ⟨rfl,rfl⟩)))
 show jO rfl (dN ?_);obtain⟨c,A,z,dl,y,L,q,u,w⟩:=t s2 λm s=>l.same m s;show aR u rfl ⟨_,_,_,p,rfl,q.c.it _,rfl,by rw[to.ok.lc];lia,to.sc.dot,?_⟩;show dP e (Xz rfl) (d _ (.inr ⟨p,rfl,rfl⟩))
def kW:cf:=λa st K=>∃(g b t:Nat) (T:Pl.Tk) (dp dc:D) (row:List Int),a=[.ref g,.int (t:Int),aj row]/\Sk st g b T dp dc/\dX st b T/\rM T/\t<=T.m/\∀v:Bool,K (.bl v) st
def kJ:List Str:=["self","taken","row"]
def vj:DS:=(aw (cK (aQ (ak zj (bX bV "plan" (aa 0)) (dC .av))) (aX (dC (.bl false))) cF)
 (aX (cQ aU "is_dearer" mE (bX bV "task" (aa 0)) (ae (aa 1) (ae (cQ aU "fixed" kr (bX bV "task" (aa 0)) (ae (aa 1) (ae (aa 2) ai))) (ae (bX bV "told_cost" (aa 0)) (ae (bX bV "plan" (aa 0)) ai)))))))
def uv:Xq kW 3 vj kJ:=by
 rintro l st K ⟨g,b,t,T,m,q,row,rfl,a,tk,to,d,k⟩;show⟨rfl,?_⟩;let c:=tk;obtain⟨s,r,o,dl,n,L,f,e,h⟩:=c;show aR a.eg rfl ?_;rcases a.pl with⟨rfl,rfl⟩|⟨p,rfl,rfl⟩
 . show o7 rfl (k false)
 show o7 rfl ?_;show aR a.eg rfl (de e rfl ?_);show aR a.eg rfl (de e rfl ⟨b,t,T,_,row,rfl,tk,d,.inr rfl,?_⟩);show aR a.eg rfl (aR a.eg rfl ⟨b,t,T,_,p,_,rfl,tk,to,d,k⟩)
def gy:Nat->cf
 |0=>λ_ _ _=>False
 |n+1=>λa st K=>∃(g b t B W:Nat) (T:Pl.Tk) (dp dc:D) (x0 row:List Int),a=[.ref g,.int (t:Int),aj row]/\Sk st g b T dp dc/\dX st b T/\yx T x0 B W/\t<=T.m/\T.m<=t+n/\r_ T x0 B t row/\∀d,K d st
def yX:∀a st K,¬gy 0 a st K:=λ_ _ _ h=>h
def o_:List Str:=["self","taken","row","against","further"]
def BS(a:cf):DS:=(aw (aK 3 (aA k_ (ae (bX bV "task" (aa 0)) (ae (aa 1) (ae (aa 2) ai)))))
 (aw (cK (aQ (ak nP (aa 3) (dC .av))) (aX (aa 3)) cF)
 (aw (cK (aQ (cQ bV "is_dearer" kW (aa 0) (ae (aa 1) (ae (aa 2) ai)))) (aX (df (ae (dC (.str "cost")) ai))) cF)
 (aw (cK (aQ (cQ aU "is_end" jL (bX bV "task" (aa 0)) (ae (aa 1) ai))) (aX (df (ae (dC (.str "here")) ai))) cF)
 (aw (aK 4 (aA gZ (ae (bX bV "task" (aa 0)) (ae (aa 1) (ae (aa 2) ai)))))
 (aX (df (ae (dC (.str "all")) (ae (ak aN (aa 4) (dC (.int 0))) (ae (bS cY (ae (dW (fU (ak aN (aa 4) (dC (.int 1)))) [none,some 0,some 1] (cM 0) cT (cQ bV "node" a (aa 1) (ae (ak cW (aa 2) (dC (.int 1))) (ae (aa 0) ai)))) ai)) ai))))))))))
def Ag:∀n l st K,gy (n+1) l st K->l.length=3/\BS (gy n) {nx:=λ_ a=>K .av a,rt:=K} (aL o_ l) st:=by
 rintro n l st K ⟨g,b,t,B,W,T,z,A,u,row,rfl,c,tk,e,f,M,p,k⟩;show⟨rfl,?_⟩;let to:=e.to;let o:=to.ok;let m:=tk;obtain⟨Q,P,O,dl,N,L,I,H,J⟩:=m;show aR c.eg rfl ⟨b,t,T,row,rfl,tk,to,f,p.len,λop=>?_,λC s i=>jO rfl (dN (k _))⟩;show jO rfl ?_;show de c.eg rfl ⟨g,b,t,T,z,A,row,rfl,c,tk,to,f,λv=>?_⟩;cases v with
 |true=>show dN ⟨Xz rfl,k _⟩
 |false=>
  show aR c.eg rfl (de H rfl ⟨b,t,T,rfl,tk,o,?_⟩);by_cases w:t=T.m
  . rw[X7 w];show dN ⟨Xz rfl,k _⟩
  rw[XW w];let f:t<T.m:=()
  show aR c.eg rfl ⟨b,t,B,W,T,u,row,rfl,tk,e,f,p,?_⟩;show aB rfl rfl (aB rfl rfl (Gs ⟨?_,?_⟩))
  . have q:=e.kids (row:=row) f;let y:=e.wt;let G:(W+2)^1<=(W+2)^T.m:=XO () ();rw[Nat.pow_one]at G;rw[Xr,ZZ,ZC];lia
  show gY (λrest h a=>st=a/\∃i,i+rest.length=kids T t row/\rest=((List.range (kids T t row)).map λi=>aj (qm T t row i)).drop i) ?_ ?_ _ _ _ ⟨rfl,0,by simp,rfl⟩
  . rintro h a ⟨rfl,_⟩;show⟨trivial,cL rfl ⟨Xz rfl,k _⟩⟩
  rintro d rest h a ⟨rfl,i,F,x⟩ next
  rw[XT]at F;let E:i<((List.range (kids T t row)).map λi=>aj (qm T t row i)).length:=by rw[Xr,ZZ];lia
  rw[X9 E]at x;injection x with q y;rw[ZM,aa7]at q;subst q;let r:(t:Int)+1=((t+1:Nat):Int):=()
  show⟨trivial,_,rfl,de c.eg rfl (c_ ?_)⟩;rw[r];cases n with
  |zero=>lia
  |succ n=>show⟨g,b,t+1,B,W,T,z,A,u,_,rfl,c,tk,e,by lia,by lia,p.qm e f (),λd=>next _ _ ⟨rfl,i+1,by lia,y⟩⟩
structure tV(T:Pl.Tk)(B W:Nat):Prop where
 n1:1<=T.n
 n8:T.n<=8
 w1:1<=T.w
 w8:T.w<=8
 lc:T.c.length=T.n
 lR:Mx.dy T.w T.n T.R
 NJ:T.d.length=T.w
 ll:T.l.length=T.n
 lh:T.h.length=T.n
 bR:∀r∈T.R,∀x∈r,x.natAbs<=2^28
 bd:∀x∈T.d,x.natAbs<=2^70
 sc:uD T.c
 lo:∀c,c<T.n->(T.l.getD c 0).natAbs<=B
 hi:∀c,c<T.n->(T.h.getD c 0).natAbs<=B
 S_:B<=2^40
 sp:∀c,c<T.n->T.h.getD c 0-T.l.getD c 0<=(W:Int)
 wt:(W+2)^T.n<=16000000
def jj:cf:=λk st K=>∃(h d g dl e:D) (T:Pl.Tk) (B W:Nat) (f:Bool),k=[h,d,g,dl,e]/\K0 T h d g dl e/\tV T B W/\st[0]?=some (fP f)/\((∀x,¬T.fJ x)->∀a c b,Bk st a->K (.tup [.str "none",.tup [c,b]]) a)/\∀x a c b,Bk st a->T.fJ x->(∀y,T.fJ y->Pl.ltB (Mx.aP T.c y,y) (Mx.aP T.c x,x)=false)->K (.tup [.str "told",.int (Mx.aP T.c x),aj x,.tup [c,b]]) a
def AM:List Str:=["costs","rows","due","low","high","told","task","grower","paper"]
def JP:DS:=(aw (aK 5 (aA vd (ae (aa 1) (ae (aa 2) ai))))
 (aw (cK (aQ (ak i8 (ak aN (aa 5) (dC (.int 0))) (dC (.str "none")))) (aX (df (ae (dC (.str "none")) (ae (df (ae (aa 5) (ae (df ai) ai))) ai)))) cF)
 (aw (aK 6 (pP aU nc (ae (aa 0) (ae (aa 1) (ae (aa 2) (ae (aa 3) (ae (aa 4) (ae (ak aN (aa 5) (dC (.int 2))) ai))))))))
 (aw (aK 7 (pP bV iY (ae (aa 6) (ae (aA rJ (ae (aa 6) (ae (ak aN (aa 5) (dC (.int 1))) ai))) ai))))
 (aw (aK 8 (df (ae (aa 5) (ae (cQ bV "node" (gy 9) (aa 7) (ae (dC (.int 0)) (ae (ak aN (aa 5) (dC (.int 1))) ai))) ai))))
 (aw (cK (aQ (ak zj (bX bV "plan" (aa 7)) (dC .av))) (aX (df (ae (dC (.str "none")) (ae (aa 8) ai)))) cF)
 (aX (df (ae (dC (.str "told")) (ae (bX bV "told_cost" (aa 7)) (ae (bX bV "plan" (aa 7)) (ae (aa 8) ai))))))))))))
def La.not{f:List (List Int)}{N a:Nat}{d:List Int}{x:Nat->Int}{b:List Rat}(k:∀n,n<N->Mx.Wh (Mx.dq b a (Mx.g f n)))(g:¬Mx.Wh (Mx.dq b a λc=>d.getD c 0))(h:∀q,q<a->(Mx.S N λn=>x n*Mx.g f n q)=1*d.getD q 0):False:=by
 let e:Mx.dq b a (λc=>d.getD c 0)=Mx.dq b a λq=>Mx.S N λn=>x n*Mx.g f n q:=Mx.xv λq l=>by rw[h q l,ZD]
 rw[e,Mx.Ep]at g;show g (Mx.Hw λi m=>(k i m).mul _)
def Mn(h:aj p=aj q):p=q:=by
 injection h with h;show List.map_inj_right (λ_ _ e=>D.int.inj e) |>.mp h
def Np{F:List (List Int)}{m n:Nat}{ld:Nat->Nat}(s:Mx.fj F m n ld):m<=n:=by
 let h:∀i,i<m->i<=ld i:=λi=>by
  induction i with
  |zero=>show λ_=>Yc _
  |succ i a=>show λb=>by let:=a ();let:=s.mono i (i+1) () b;lia
 by_cases z:m=0
 . lia
 have d:=h (m-1) ();let c:=(s.lead (m-1) ()).1;lia
def Cq(T:Pl.Tk)(F:List (List Int))(m:Nat):Pl.Tk:={T with m:=m,F:=F,ld:=Mx.dw F}
def Gr{T:Pl.Tk}(p:tV T B W){x:List Int}(s:T.fJ x)(a:q<T.w):(Mx.S T.n λn=>x.getD n 0*Mx.g (Mx.jk T.R T.n) n q)=T.d.getD q 0:=by
 let b:x.length=T.n:=by rw[<-(Pl.nu s.box).1];show p.ll
 let h:=s.eqs q a;rw[Mx.KW (by rw[p.lR.row a,b]),b]at h;rw[<-h];show Mx.aG λn c=>by rw[Mx.yn p.lR a c,Zd];rfl
def Gb{T:Pl.Tk}(p:tV T B W){m f top:Nat}(A:La (Mx.jk T.R T.n) T.n T.w T.d a F m f c top)(s:T.fJ x):(Cq T F m).l9 0 a x:=by
 let d:x.length=T.n:=by rw[<-(Pl.nu s.box).1];show p.ll
 show⟨d,?_⟩
 let k:Mx.gR F m T.n λn=>x.getD n 0-a.getD n 0:=(A.JU _).mp λq b=>by
  let e:(Mx.S T.n λn=>(x.getD n 0-a.getD n 0)*Mx.g (Mx.jk T.R T.n) n q)=(Mx.S T.n λn=>x.getD n 0*Mx.g (Mx.jk T.R T.n) n q)-Mx.S T.n λn=>a.getD n 0*Mx.g (Mx.jk T.R T.n) n q:=by
   rw[aap,<-Mx.zi,<-Mx.kc];show Mx.aG λn _=>by rw[Int.sub_mul,aap]
  rw[e,Gr p s b,A.sum q b,Int.sub_self]
 obtain⟨z,h⟩:=k;show⟨z,λq b=>?_⟩;let l:x.getD q 0-a.getD q 0=Mx.S m λk=>z k*Mx.g F k q:=h q b;change x.getD q 0=a.getD q 0+Mx.S (m-0) λk=>z k*Mx.g F (0+k) q;rw[aby,Mx.aG (g:=λk=>z k*Mx.g F k q) λk _=>by rw[Z5]];lia
def tV.W9{T:Pl.Tk}(p:tV T B W){m f top:Nat}(A:La (Mx.jk T.R T.n) T.n T.w T.d a F m f c top):yx (Cq T F m) a B W:=by
 let b:m<=T.n:=Np A.wg.st;let h:=p.n8;let g:=p.w8;show⟨⟨⟨p.lc,p.lR,p.NJ,p.ll,p.lh,A.wg.is,A.wg.st⟩,p.n1,by change T.n<=16;lia,by change T.w<=16;lia,b,p.sc,λr e x d=>by let:=p.bR r e x d;lia⟩,A.red,A.la,A.Tb,p.lo,p.hi,p.S_,p.sp,Xy (XO () b) p.wt⟩
def dX.keep{st a:ag}(h:dX st b T)(f:∀m,m<st.length->a[m]?=st[m]?):dX a b T:=by
 obtain⟨o,p,n,dl,l,L,d,k,e⟩:=h;let c:∀ {m:Nat} {x:Cell},st[m]?=some x->a[m]?=some x:=λh=>(f _ (Xs.mp h).1).trans h;show⟨o,p,n,dl,l,L,d,c k,λt g=>c (e t g)⟩
def w6{E:nr}{st:ag}{T:Pl.Tk}(tk:dX st b T)(q:yx T a B W)(n:T.m<=8)(z:h= .av\/∃p:List Int,h=aj p)
 (y:h= .av->∀g d,Ext st g->E.rt (.tup [.str "none",.tup [.tup [.str "told",aj a,cw F,t,u],d]]) g) (x:∀p,h=aj p->∀g d,Ext st g->E.rt (.tup [.str "told",.int (Mx.aP T.c p),aj p,.tup [.tup [.str "told",aj a,cw F,t,u],d]]) g):
 iY [.ref st.length,.ref b,h] (st++[.ins bV []]) λr e=>r= .av/\(aw (aK 8 (df (ae (aa 5) (ae (cQ bV "node" (gy 9) (aa 7) (ae (dC (.int 0)) (ae (ak aN (aa 5) (dC (.int 1))) ai))) ai))))
 (aw (cK (aQ (ak zj (bX bV "plan" (aa 7)) (dC .av))) (aX (df (ae (dC (.str "none")) (ae (aa 8) ai)))) cF)
 (aX (df (ae (dC (.str "told")) (ae (bX bV "told_cost" (aa 7)) (ae (bX bV "plan" (aa 7)) (ae (aa 8) ai)))))))) E [some J,some I,some H,some G,some C,some (.tup [.str "told",aj a,cw F,t,u]),some (.ref b),some (.ref st.length),w] e:=by
 show⟨st.length,b,T,h,rfl,by simp,λg f=>tk.keep λm n=>by rw[f m (),XA n],q.to,z,λe A l U=>⟨rfl,?_⟩⟩;let v:∀m,m<st.length->e[m]?=st[m]?:=λm n=>by rw[U.same m (),XA n]
 let o:=tk.keep v;let X:Ext st e:=⟨by rw[U.len];simp,v⟩
 show de l.eg rfl (aB rfl rfl ?_);let s:r_ T a B 0 a:=⟨q.lx,λ_=>0,λk hk=>absurd hk (XZ _),λc L=>(YH _).symm⟩
 show⟨st.length,b,0,B,W,T,h,A,a,a,rfl,l,o,q,Yc _,by lia,s,λd=>⟨Xz rfl,?_⟩⟩;show aR l.eg rfl ?_;rcases l.pl with⟨rfl,rfl⟩|⟨p,rfl,rfl⟩
 . show o7 rfl (dN ⟨Xz rfl,y rfl e d X⟩)
 show o7 rfl ?_;show aR l.eg rfl (aR l.eg rfl ⟨Xz rfl,x p rfl e d X⟩)
def Ic:Xq jj 5 JP AM:=by
 rintro ds st K ⟨dc,N,O,dl,dh,T,B,W,f,rfl,k,p,Q,I,U⟩;show⟨rfl,?_⟩;let z:=Mx.vc p.lR;let eR:Mx.jk (Mx.jk T.R T.n) T.w=T.R:=Gm p.lR
 let bA:∀r∈Mx.jk T.R T.n,∀x∈r,x.natAbs<=2^28:=λr J x X=>by
  obtain⟨i,L,rfl⟩:=Yh.mp J;obtain⟨c,M,rfl⟩:=Yh.mp X;let H:i<T.n:=by rw[<-z.len];show L
  let R:c<T.w:=by rw[<-z.jN _ J];show M
  let e:=Mx.yn p.lR R H;unfold Mx.g at e;rw[Mx.aJ L,Mx.aJ M]at e;rw[e];let lR:=p.lR.len;let u:T.R.getD c []∈T.R:=by rw[Mx.aJ ()];show Yd _
  show p.bR _ u _ (getD_mem (by rw[p.lR.jN _ u];show H))
 let P1:Vw (Mx.jk T.R T.n) T.n T.w T.d:=⟨z,p.n1,p.n8,p.w8,bA,p.NJ,p.bd⟩
 show⟨N,O,Mx.jk T.R T.n,T.d,T.n,T.w,f,rfl,by rw[eR];show k.r.rows st,k.d.it _,P1,p.w1,Q,λb y G V=>?_⟩;rcases V with⟨a,F,m,fq,c,top,A,rfl⟩|⟨ps,rfl,lp,hP,Y,hn⟩
 . have C:cO (.str "told") (.str "none")=false:=by decide
   show aB rfl rfl (yG rfl rfl ?_);rw[C];let t:=p.W9 A;let to:=t.to;show aB rfl rfl ?_;show⟨b.length,Cq T F m,dc,N,O,dl,dh,rfl,by simp,to,⟨k.c,k.r,k.d,k.l,k.h⟩,λw g S f2=>⟨rfl,?_⟩⟩;let P:Ext b w:=⟨by simp at S;lia,λm u=>by rw[f2 m (by simp;lia) (),XA u]⟩
   show aB rfl rfl ?_;show⟨b.length,B,W,Cq T F m,a,rfl,g,t,λnone v o=>?_,λrow v o sol best=>?_⟩
   . have B3:=G.ext (P.trans o);show w6 (g.ext o) t A.wg.m8 (.inl rfl) (λ_ l d E=>I (λx s=>none x ⟨s.box,s.eqs⟩ (Gb p A s)) l _ _ (B3.ext E)) (λp h=>by cases h)
   have B3:=G.ext (P.trans o);show w6 (g.ext o) t A.wg.m8 (.inr ⟨row,rfl⟩) (λh=>by cases h) (λq h l d E=>?_);cases Mn h;show U row l _ _ (B3.ext E) ⟨sol.box,sol.eqs⟩ λy s=>best y ⟨s.box,s.eqs⟩ (Gb p A s)
 have C:cO (.str "none") (.str "none")=true:=by decide
 show aB rfl rfl (yG rfl rfl ?_);rw[C];show dN ⟨Xz rfl,⟨Xz rfl,⟨Xz rfl,?_⟩⟩⟩;show I (λx s=>La.not (x:=λn=>x.getD n 0) Y hn λq Z=>by rw[ZD];show Gr p s Z) b _ _ G
def xB:cf:=λb st K=>∃(a:List Int) (k:Int),b=[.lst (a.map .int),.int k]/\0<=k/\∀c,K (.int c) st
def DU:List Str:=["_law_script","_law_k"]
def Mt:DS:=(aw (cK (aQ (oV yZ sH (dC (.int 0)) (aa 1) (bS dO (ae (aa 0) ai)))) (aX (ak aN (aa 0) (aa 1))) cF)
 (aX (dC (.int 0))))
def KN:Xq xB 2 Mt DU:=by
 rintro c st K ⟨a,k,rfl,k0,b⟩;show⟨rfl,yo ?_⟩;rw[X7 k0];show cJ rfl (CD ?_);rw[Xr];by_cases h:k<(a.length:Int)
 . rw[X7 h];obtain⟨j,rfl⟩:∃j:Nat,k=(j:Int):=⟨k.toNat,by lia⟩
   show dN (LT.at (d:=cm a) (.inl rfl) () (b _))
 rw[XW h];show b 0
structure Hk(st:ag)(n:Nat)(q:Int):Prop where
 ex:∃(a b c:Int),st[n]?=some (.lst [.int a,.int b,.int c])/\0<=a/\0<=b/\b<2^62/\0<=c/\c<=q
def Hk.mono{st:ag}(h:Hk st n b)(l:b<=a):Hk st n a:=let⟨x,y,z,e,h1,h2,h3,h4,h5⟩:=h.ex;⟨x,y,z,e,h1,h2,h3,h4,by lia⟩
def Hk.lt{st:ag}(B:Hk st n b):n<st.length:=by
 obtain⟨_,_,_,e,_⟩:=B.ex;show(Xs.mp e).1
def Hk.cell{st a:ag}(B:Hk st n b)(e:a[n]?=st[n]?):Hk a n b:=by
 obtain⟨x,y,z,c,r⟩:=B.ex;show⟨x,y,z,e.trans c,r⟩
def FX{st:ag}{xs ys:List D}{i:Int}{j:Nat}{K:ag->Prop}(h:st[n]?=some (.lst xs))(e:kE xs.length i=some j)(b:xs.set j d=ys)(k:∀a,a[n]?=some (.lst ys)->Upd st n a->K a):CK (.ref n) (.int i) d st K:=fE h e (by
 rw[b];show k _ (XE (Xs.mp h).1) Upd.set)
def tD:cf:=λc st K=>∃(b:List Int) (k:Int),c=[.lst (b.map .int),.int k]/\0<=k/\k<=1000/\∀a,Hk a st.length 0->Ext st a->K (.ref st.length) a
def zo:List Str:=["_law_script","_law_k","_law_cell"]
def Hg:DS:=(aw (aK 2 (aA xB (ae (aa 0) (ae (aa 1) ai))))
 (aX (Af (ae (ak cP (aa 2) (bS Dv (ae (ak F1 (aa 2) (ak CN (dC (.int 10)) (dC (.int 18)))) ai))) (ae (ak cW (ak cW (ak mJ (aa 2) (dC (.int 2305843009213693951))) (ak cP (dC (.int 7919)) (aa 1))) (dC (.int 3))) (ae (dC (.int 0)) ai))))))
def Fo:Xq tD 2 Hg zo:=by
 rintro m st K ⟨b,k,rfl,k0,l,f⟩;show⟨rfl,⟨b,k,rfl,k0,λc=>?_⟩⟩;show Rp ⟨by decide,by decide,by decide⟩ (Og (OG (cR (GB (by split<;>decide) (by split<;>decide)) ?_)));show qC ⋯ (cR (dj ⋯ ⋯) (c_ (c_ ⟨Xz rfl,?_⟩)));let e:=YA c (show(0:Int)<2305843009213693951 by decide);let d:=YL c (show(0:Int)<2305843009213693951 by decide);generalize c.fmod 2305843009213693951=u at e d⊢;let g:∀a:List D,(st++[Cell.lst a])[st.length]?=some (.lst a):=λa=>by simp
 show f _ ⟨_,_,_,g _,?_,by lia,by lia,aa0 0,aa0 0⟩ Ext.push;by_cases h:(10:Int)^(18:Int).toNat<=c
 . rw[X7 h];let:(0:Int)<=10^(18:Int).toNat:=by decide
   change 0<=c*1;lia
 rw[XW h];change 0<=c*0;lia
def cH:cf:=λb st K=>∃(n:Nat) (m q:Int),b=[.ref n,.int m]/\Hk st n q/\q<=1000000000/\0<m/\m<2^62/\∀r a,0<=r->r<m->Hk a n (q+1)->Upd st n a->K (.int r) a
def yF:List Str:=["_law_hand_here","_law_many","_law_digit","_law_turn","_law_m"]
def GX:DS:=(aw (cK (aQ (ak ue (ak aN (aa 0) (dC (.int 0))) (dC (.int 0)))) (aw (aK 2 (ak mJ (ak aN (aa 0) (dC (.int 0))) (aa 1)))
 (aw (dD (aa 0) (dC (.int 0)) (ak mn (ak aN (aa 0) (dC (.int 0))) (aa 1)))
 (aX (aa 2)))) cF)
 (aw (dD (aa 0) (dC (.int 2)) (ak cW (ak aN (aa 0) (dC (.int 2))) (dC (.int 1))))
 (aw (aK 3 (ak aN (aa 0) (dC (.int 2))))
 (aw (aK 4 (ak mJ (ak cP (ak aN (aa 0) (dC (.int 1))) (ak cW (ak cW (dC (.int 48271)) (ak cP (ak cP (dC (.int 2)) (aa 3)) (aa 3))) (ak cP (dC (.int 65537)) (aa 3)))) (dC (.int 2305843009213693921))))
 (aw (aK 4 (ak mJ (ak cP (aa 4) (ak cW (ak cW (ak mJ (aa 4) (dC (.int 1000003))) (ak cP (aa 3) (dC (.int 99991)))) (dC (.int 11)))) (dC (.int 2305843009213693907))))
 (aX (ak mJ (ak cW (ak mn (aa 4) (dC (.int 97))) (ak mn (aa 4) (dC (.int 1000033)))) (aa 1))))))))
def JH{m:Int}(a:0<m)(h:m<2^62):m.natAbs.log2<9000:=by
 let:m.natAbs.log2<62:=(Nat.log2_lt ()).mpr ();lia
def Ev(A:DE)(σ:cC)(st:ag)(d:D):Prop:=∀K:DK,K d st->A σ st K
def ib{x:D->D->ag->DK->Prop}{A B:DE}{σ:cC}{st:ag}{a b d:D}(f:Ev A σ st a)(e:Ev B σ st b)(c:∀K:DK,K d st->x a b st K):Ev (ak x A B) σ st d:=λK k=>f _ (e _ (c K k))
def qc{st:ag}:Ev (dC d) σ st d:=λK k=>k
def lX{i:Nat}{st:ag}(h:σ[i]?=some (some d)):Ev (aa i) σ st d:=λK k=>bo h k
def Kf{i:Nat}{σ:cC}{st:ag}(h:Ev A σ st d)(k:B E (σ.set i (some d)) st):aw (aK i A) B E σ st:=h _ k
def take_one{st:ag}(g:σ[0]?=some (some (.ref n)))(f:σ[3]?=some (some (.int t)))(e:st[n]?=some (.lst [.int a,.int b,.int c]))(b0:0<=b)(w:b<2^62)(u:0<=t)(s:t<2^40):∃v:Int,0<=v/\v<2305843009213693921/\Ev (ak mJ (ak cP (ak aN (aa 0) (dC (.int 1))) (ak cW (ak cW (dC (.int 48271)) (ak cP (ak cP (dC (.int 2)) (aa 3)) (aa 3))) (ak cP (dC (.int 65537)) (aa 3)))) (dC (.int 2305843009213693921))) σ st (.int v):=by
 let r:Ev (ak aN (aa 0) (dC (.int 1))) σ st (.int b):=ib (lX g) qc λK k=>aB (aE e) (by rfl) k;let q:=ib (st:=st) (d:= .int (2*t)) (qc (d:= .int 2)) (lX f) λK k=>cR (dj ⋯ ⋯) k;let p:=ib (st:=st) (d:= .int (2*t*t)) q (lX f) λK k=>cR (dj () ()) k;let o:=ib (st:=st) (d:= .int (48271+2*t*t)) (qc (d:= .int 48271)) p λK k=>c_ k;let m:=ib (st:=st) (d:= .int (65537*t)) (qc (d:= .int 65537)) (lX f) λK k=>cR (dj ⋯ ⋯) k;let l:=ib (st:=st) (d:= .int (48271+2*t*t+65537*t)) o m λK k=>c_ k;let h:=ib (st:=st) (d:= .int (b*(48271+2*t*t+65537*t))) r l λK k=>cR (dj () ()) k;show⟨_,YA _ ⋯,YL _ ⋯,ib (st:=st) h (qc (d:= .int 2305843009213693921)) λK k=>qC ⋯ k⟩
def Nu{st:ag}(a:σ[4]?=some (some (.int u)))(b:σ[3]?=some (some (.int t)))(m:0<=u)(l:u<2305843009213693921)(o:0<=t)(n:t<2^40):∃v:Int,0<=v/\v<2305843009213693907/\Ev (ak mJ (ak cP (aa 4) (ak cW (ak cW (ak mJ (aa 4) (dC (.int 1000003))) (ak cP (aa 3) (dC (.int 99991)))) (dC (.int 11)))) (dC (.int 2305843009213693907))) σ st (.int v):=by
 let h:=ib (st:=st) (d:= .int (u.fmod 1000003)) (lX a) (qc (d:= .int 1000003)) λK k=>qC ⋯ k;let g:=ib (st:=st) (d:= .int (t*99991)) (lX b) (qc (d:= .int 99991)) λK k=>cR (GB ⋯ ⋯) k;let f:=ib (st:=st) (d:= .int (u.fmod 1000003+t*99991)) h g λK k=>c_ k;let e:=ib (st:=st) (d:= .int (u.fmod 1000003+t*99991+11)) f (qc (d:= .int 11)) λK k=>c_ k;let c:=ib (st:=st) (d:= .int (u*(u.fmod 1000003+t*99991+11))) (lX a) e λK k=>cR (dj () ()) k;show⟨_,YA _ ⋯,YL _ ⋯,ib (st:=st) c (qc (d:= .int 2305843009213693907)) λK k=>qC ⋯ k⟩
def L1{st:ag}(b:σ[4]?=some (some (.int u)))(c:σ[1]?=some (some (.int m)))(a:0<m):∃v:Int,0<=v/\v<m/\Ev (ak mJ (ak cW (ak mn (aa 4) (dC (.int 97))) (ak mn (aa 4) (dC (.int 1000033)))) (aa 1)) σ st (.int v):=by
 let g:=ib (st:=st) (d:= .int (u.fdiv 97)) (lX b) (qc (d:= .int 97)) λK k=>pW ⋯ ∅ k;let f:=ib (st:=st) (d:= .int (u.fdiv 1000033)) (lX b) (qc (d:= .int 1000033)) λK k=>pW ⋯ ∅ k;let e:=ib (st:=st) (d:= .int (u.fdiv 97+u.fdiv 1000033)) g f λK k=>c_ k;show⟨_,YA _ a,YL _ a,ib (st:=st) e (lX c) λK k=>qC () k⟩
def E8:Xq cH 2 GX yF:=by
 rintro M st K ⟨n,m,q,rfl,⟨a,b,c,e,y,b0,w,H,N⟩,L,f,p,k⟩;show⟨rfl,?_⟩;show aB (aE e) (by rfl) (Rb (λh=>dN ?_) λh=>?_)
 . show aB (aE e) (by rfl) (qC () (aB (aE e) (by rfl) (pW () (JH f p) ?_)));show FX (ys:=[.int (a.fdiv m),.int b,.int c]) e (by rfl) (by rfl) λd g x=>?_;show k _ _ (YA _ f) (YL _ f) ⟨_,b,c,g,by rw[Ys _ ()];show Int.ediv_nonneg y (),b0,w,H,by lia⟩ x
 show aB (aE e) (by rfl) (c_ (FX (ys:=[.int a,.int b,.int (c+1)]) e (by rfl) (by rfl) λd g x=>?_));show aB (aE g) (by rfl) ?_;let s:Hk d n (q+1):=⟨a,b,c+1,g,y,b0,w,by lia,by lia⟩
 let o:0<=c+1:=()
 let l:c+1<2^40:=()
 generalize c+1=t at g o l⊢;obtain⟨u,A,z,G⟩:=take_one (σ:=[some (.ref n),some (.int m),none,some (.int t),none]) rfl rfl g b0 w o l;show Kf G ?_;obtain⟨v,J,I,F⟩:=Nu (σ:=[some (.ref n),some (.int m),none,some (.int t),some (.int u)]) (st:=d) rfl rfl A z o l;show Kf F ?_;obtain⟨r,C,B,E⟩:=L1 (σ:=[some (.ref n),some (.int m),none,some (.int t),some (.int v)]) (st:=d) rfl rfl f;show E _ (k r d C B s x)
abbrev o6:cf:=wa
def Bv:List Str:=["_law_one","_law_other"]
def IY:DS:=(aX (bS uR (ae (dW (pB (ae (aa 0) (ae (aa 1) ai))) [none,none] (gN 0 1) cT (ak cP (aa 0) (aa 1))) ai)))
def HB:Xq o6 2 IY Bv:=Lh
def jm:cf:=λb st K=>∃(n w s:Nat) (q:Int),b=[.ref n,.int (w:Int),.int (s:Int)]/\Hk st n q/\q<=900000000/\w<=8/\s<=100/\∀r a,r.length=w->(∀x∈r,x.natAbs<=s)->Hk a n (q+8)->Upd st n a->K (aj r) a
def Bu:List Str:=["_law_hand_here","_law_wide","_law_size"]
def IV:DS:=(aX (bS cY (ae (dW (gO (ae (aa 1) ai)) [none,some 0,some 2] (cM 0) cT (ak jr (aA cH (ae (aa 1) (ae (ak cW (ak cP (dC (.int 2)) (aa 2)) (dC (.int 1))) ai))) (aa 2))) ai)))
def Im:Xq jm 3 IV Bu:=by
 rintro C st K ⟨n,w,s,q,rfl,B,A,u,m,k⟩;show⟨rfl,?_⟩;show jT ⟨by lia,by lia⟩ ⟨cD (by rw[jG];lia),?_⟩;rw[Yb];show gY (λrest b a=>∃l:List Int,b=ao l/\l.length+rest.length=w/\(∀x∈l,x.natAbs<=s)/\Hk a n (q+l.length)/\Upd st n a) ?_ ?_ _ _ _ ⟨[],rfl,by rw[jG];simp,by simp,B.mono (by simp),Upd.refl⟩
 . rintro b a ⟨l,rfl,c,f,h,g⟩;let c:l.length=w:=by simpa using c
   show⟨trivial,cL rfl (k l a c f (h.mono ()) g)⟩
 rintro d rest b a ⟨l,rfl,c,f,h,g⟩ next
 let p:l.length<8:=by simp at c;lia
 show⟨trivial,_,rfl,?_⟩;show cR (dj ⋯ ⋯) (c_ ⟨n,_,_,rfl,h,by lia,by lia,by lia,λi o y v t r=>gX ?_⟩);change eB _ _ _ _ _ _ _ _ _;rw[ints_app];show next _ _ ⟨l++[i-s],rfl,by simp at c⊢;lia,λz e=>?_,t.mono (by simp;lia),g.trans r⟩
 rcases Yn.mp e with e|e
 . show f z e
 rw[YE.mp e];lia
def s_:cf:=λb st K=>∃(n w m:Nat) (q:Int),b=[.ref n,.int (w:Int),.int (m:Int)]/\Hk st n q/\q<=800000000/\w<=8/\m<=3/\∀A a,Mx.dy m w A->(∀r∈A,∀x∈r,x.natAbs<=100)->Hk a n (q+100)->(∀k,k<st.length->k≠n->a[k]?=st[k]?)->K (cw A) a
def yK:List Str:=["_law_hand_here","_law_wide","_law_many","_law_rows_here","_law_k","_law_how"]
def GG:DS:=(aw (aK 3 (Af ai))
 (aw (j5 (gO (ae (aa 2) ai)) (cM 4) (aw (aK 5 (aA cH (ae (aa 0) (ae (dC (.int 8)) ai))))
 (cK (rm (aQ (ak i8 (aa 5) (dC (.int 0)))) (aQ (ak D2 (aa 3) (Av ai)))) (fz (jf (aa 3) (bS cY (ae (dW (fU (ak aN (aa 3) (nU jd (dC (.int 1))))) [none] (cM 0) cT (ak cP (dC (.int 2)) (aa 0))) ai)))) (cK (aQ (ak i8 (aa 5) (dC (.int 1)))) (fz (jf (aa 3) (ak cP (df (ae (dC (.int 0)) ai)) (aa 1)))) (fz (jf (aa 3) (aA jm (ae (aa 0) (ae (aa 1) (ae (ak aN (df (ae (dC (.int 1)) (ae (dC (.int 1)) (ae (dC (.int 2)) (ae (dC (.int 3)) (ae (dC (.int 5)) (ae (dC (.int 5)) (ae (dC (.int 9)) (ae (dC (.int 9)) ai))))))))) (aa 5)) ai))))))))))
 (aX (bS cY (ae (aa 3) ai)))))
def MD{A:List (List Int)}:(A.map aj).all (pl 39)=true:=Yu.mpr λd a=>by
 obtain⟨r,_,rfl⟩:=X8.mp a;show Fv
def MI{A:List (List Int)}(h:A.length=n+1):eF (A.map aj) (-1)=some (aj (A.getD n [])):=by
 let e:kE (n+1) (-1)=some n:=by unfold kE;simp;lia
 unfold eF;rw[Xr,h,e];change(A.map aj)[n]?=_;rw[XJ,XC (),Mx.aJ ()];rfl
def AK{A:List (List Int)}:A.map aj++[aj r]=(A++[r]).map aj:=by rw[YR];rfl
def AL:∀w:Nat,(List.replicate w [D.int 0]).flatten=ao (List.replicate w 0)
 |0=>rfl
 |w+1=>by
  rw[Yw,YZ,AL w,Yw];rfl
def Pq:DS:=(cK (aQ (ak i8 (aa 5) (dC (.int 1)))) (fz (jf (aa 3) (ak cP (df (ae (dC (.int 0)) ai)) (aa 1)))) (fz (jf (aa 3) (aA jm (ae (aa 0) (ae (aa 1) (ae (ak aN (df (ae (dC (.int 1)) (ae (dC (.int 1)) (ae (dC (.int 2)) (ae (dC (.int 3)) (ae (dC (.int 5)) (ae (dC (.int 5)) (ae (dC (.int 9)) (ae (dC (.int 9)) ai))))))))) (aa 5)) ai)))))))
def yh{E:nr}{A:List (List Int)}(t:Hk b n f)(H:f<=900000000)(u:w<=8)(l:n≠L)(c:b[L]?=some (.lst (A.map aj)))(a:(A.map aj).length<sizeLine)(G:0<=v)(F:v<8)(m:∀(r:List Int) (s3:ag),r.length=w->(∀x∈r,x.natAbs<=9)->s3[L]?=some (.lst (A.map aj))->Hk s3 n (f+8)->Upd b n s3->E.nx [some (.ref n),some (.int (w:Int)),q,some (.ref L),p,some (.int v)] (s3.set L (.lst (A.map aj++[aj r])))):Pq E [some (.ref n),some (.int (w:Int)),q,some (.ref L),p,some (.int v)] b:=by
 show eq2 (λh=>dN ?_) λh=>?_
 . show vo rfl c ⟨Xz rfl,PQ ⟨by lia,by lia,cD (by simp;lia)⟩ ?_⟩;rw[Yb];let B:(List.replicate w [D.int 0]).flatten=ao (List.replicate w 0):=AL w;rw[B];show sf c a (m _ b (by simp) (λx g=>?_) c (t.mono ()) Upd.refl);rw[(List.mem_replicate.mp g).2];simp
 obtain⟨d,z,k⟩:∃d:Nat,eF [D.int 1,.int 1,.int 2,.int 3,.int 5,.int 5,.int 9,.int 9] v=some (.int (d:Int))/\d<=9:=by
  let e:v=0\/v=1\/v=2\/v=3\/v=4\/v=5\/v=6\/v=7:=()
  rcases e with rfl|rfl|rfl|rfl|rfl|rfl|rfl|rfl
  . show⟨1,rfl,by decide⟩
  . show⟨1,rfl,by decide⟩
  . show⟨2,rfl,by decide⟩
  . show⟨3,rfl,by decide⟩
  . show⟨5,rfl,by decide⟩
  . show⟨5,rfl,by decide⟩
  . show⟨9,rfl,by decide⟩
  show⟨9,rfl,by decide⟩
 show vo rfl c ⟨Xz rfl,aB rfl z ?_⟩;show⟨n,w,d,_,rfl,t,by lia,u,by lia,λr s3 y C B3 s=>?_⟩;let o:=(s.same L (XI l)).trans c;show sf o a (m r s3 y (λx g=>Xy (C x g) k) o B3 s)
def E7:Xq s_ 3 GG yK:=by
 rintro ds st K ⟨n,w,m,q,rfl,B,hq,Y,m3,k⟩;show⟨rfl,⟨Xz rfl,?_⟩⟩;let hB:=B.lt;let B0:Hk (st++[.lst []]) n q:=B.cell (XA hB);let U:(st++[Cell.lst []])[st.length]?=some (.lst (([]:List (List Int)).map aj)):=by simp
 let T:∀k,k<st.length->k≠n->(st++[Cell.lst []])[k]?=st[k]?:=λk hk _=>XA hk;let b:n≠st.length:=()
 generalize st++[Cell.lst []]=s0 at B0 U T⊢;generalize hL:st.length=L at U T b hB⊢;show jT ⟨by lia,by lia⟩ ?_;rw[Yb];show kq m (λj σ s=>∃(A:List (List Int)) (P F:Option D),σ=[some (.ref n),some (.int (w:Int)),some (.int (m:Int)),some (.ref L),P,F]/\s[L]?=some (.lst (A.map aj))/\Mx.dy j w A/\(∀r∈A,∀x∈r,x.natAbs<=9*2^j)/\Hk s n (q+20*j)/\∀k,k<L->k≠n->s[k]?=st[k]?) ?_ ?_ ⟨[],none,none,rfl,U,⟨rfl,λr h=>by cases h⟩,λr h=>by(cases h),B0.mono (),T⟩
 . rintro σ s ⟨A,P,F,rfl,e,I,O,X,S⟩;show cL (aE e) (k A s I (λr hr x a=>Xy (O r hr x a) ?_) (X.mono ()) (by rw[hL];show S));let:2^m<=2^3:=XO ⋯ m3;lia
 rintro j σ s rest hj ⟨A,P,F,rfl,e,I,O,X,S⟩ next
 show⟨_,rfl,?_⟩;generalize ab:(j7 (cM 4) _ (λ_=>True) _ rest)=NX at next⊢
 let lA:=I.len;let p1:1<=2^j:=ZV;let p2:2^(j+1)=2*2^j:=by rw[YI,Y1]
 show⟨n,8,_,rfl,X,by lia,by decide,by decide,λh Q h0 h1 W U2=>?_⟩;let E:Q[L]?=some (.lst (A.map aj)):=(U2.same L (XI b)).trans e;let u:∀k,k<L->k≠n->Q[k]?=st[k]?:=λk hk f=>(U2.same k f).trans (S k hk f);let lL:∀ {s:ag} {c:Cell},s[L]?=some c->L<s.length:=λh=>(Xs.mp h).1
 let C:∀(r:List Int) (l:ag) (F:Option D),r.length=w->(∀x∈r,x.natAbs<=9*2^(j+1))->l[L]?=some (.lst (A.map aj))->Hk l n (q+20*j+1+8)->(∀k,k<L->k≠n->l[k]?=st[k]?)->NX [some (.ref n),some (.int (w:Int)),some (.int (m:Int)),some (.ref L),some (.int (j:Int)),F] (l.set L (.lst (A.map aj++[aj r]))):=λr l F H N M B3 R=>by
  rw[AK];show next _ _ ⟨A++[r],_,_,rfl,XE (lL M),⟨by simp[lA],λx a=>?_⟩,λx a y J=>?_,?_,λk hk f=>by rw[Xu ()];show R k hk f⟩
  . rcases Yn.mp a with z|z
    . show I.jN x z
    rw[YE.mp z];show H
  . rcases Yn.mp a with z|z
    . have:=O x z y J;lia
    rw[YE.mp z]at J;show N y J
  show(B3.cell (Xu (XI b))).mono ()
 let p:(A.map aj).length<sizeLine:=by rw[Xr,ZC];lia
 show eq2 (λhh=>?_) λhh=>yh W () Y b E p h0 h1 λr l H N M B3 V=>C r l _ H (λx a=>by let:=N x a;lia) M B3 λk hk f=>(V.same k f).trans (u k hk f);subst hh;show⟨Xz rfl,SY E MD rfl ?_⟩;cases A with
 |nil=>show yh (v:=0) W () Y b E p ⋯ ⋯ λr l H N M B3 V=>C r l _ H (λx a=>by let:=N x a;lia) M B3 λk hk f=>(V.same k f).trans (u k hk f)
 |cons G o=>
  have en:cO (.lst ((G::o).map aj)) (.lst [])=false:=by unfold cO;rfl
  rw[en];show dN ?_;let mem:(G::o).getD o.length []∈G::o:=by rw[Mx.aJ (by simp)];show Yd _
  let Z:=I.jN _ mem;show vo rfl E (jb (aB (aE E) (MI (n:=o.length) (by simp)) (jV ⟨cD (by rw[Xr,Z];lia),?_⟩)));show comp_map (g:=λd=>match d with| .int x=> .int (2*x)|_=> .av) trivial _ (λd hd K' t=>?_) ?_
  . obtain⟨x,_,rfl⟩:=X8.mp hd;show⟨_,rfl,cR (dj ⋯ ⋯) t⟩
  have em:(ao ((G::o).getD o.length [])).map (λd=>match d with| .int x=>D.int (2*x)|_=> .av)=ao (((G::o).getD o.length []).map λx=>2*x):=by
   unfold ao;rw[X6,X6];rfl
  rw[em];show cL rfl (sf E p (C _ Q _ (by rw[Xr];show Z) (λx a=>?_) E (W.mono ()) u));obtain⟨y,J,rfl⟩:=X8.mp a;let:=O _ mem y J;lia
structure Q9(l h:List Int)(w:Nat):Prop where
 ll:l.length=w
 lh:h.length=w
 bl:∀c,c<w->(l.getD c 0).natAbs<=4
 bh:∀c,c<w->(h.getD c 0).natAbs<=8
 sp:∀c,c<w->h.getD c 0-l.getD c 0<=4
def u_:cf:=λb st K=>∃(n w:Nat) (q:Int),b=[.ref n,.int (w:Int),.int 5]/\Hk st n q/\q<=800000000/\1<=w/\w<=8/\∀l h a,Q9 l h w->Hk a n (q+20)->Upd st n a->K (.tup [aj l,aj h]) a
def Bq:List Str:=["_law_hand_here","_law_wide","_law_span","_law_low","_law_high","_law_at_here"]
def IQ:DS:=(aw (aK 3 (aA jm (ae (aa 0) (ae (aa 1) (ae (dC (.int 4)) ai)))))
 (aw (aK 4 (bS cY (ae (dW (fU (aa 3)) [none,some 0,some 2] (cM 0) cT (ak cW (aa 0) (aA cH (ae (aa 1) (ae (aa 2) ai))))) ai)))
 (aw (cK (aQ (ak i8 (aA cH (ae (aa 0) (ae (dC (.int 16)) ai))) (dC (.int 0)))) (aw (aK 5 (aA cH (ae (aa 0) (ae (aa 1) ai))))
 (aK 4 (ak cW (ak cW (iI (aa 4) gh (kg (aa 5))) (df (ae (ak jr (ak jr (ak aN (aa 3) (aa 5)) (dC (.int 1))) (aA cH (ae (aa 0) (ae (dC (.int 3)) ai)))) ai))) (iI (aa 4) (kg (ak cW (aa 5) (dC (.int 1)))) gh)))) cF)
 (aX (df (ae (aa 3) (ae (aa 4) ai)))))))
def iK{l:List Int}(h:∀x∈l,x.natAbs<=s):(l.getD c 0).natAbs<=s:=by
 by_cases z:c<l.length
 . rw[Mx.aJ z];show h _ (Yd _)
 rw[Mx.k5 ()];simp
def L4{l:List Int}:(l++[x]).getD c 0=if c<l.length then l.getD c 0 else if c=l.length then x else 0:=by
 by_cases h:c<l.length
 . rw[XB h,XD,XA h,XD]
 rw[Xx h];by_cases e:c=l.length
 . rw[XB e,e,Mx.aJ (by simp)];simp
 rw[Xx e,Mx.k5 (by simp;lia)]
def Oz{ns:List Int}{p:Nat}:L3.cutD (ao ns) none (some (p:Int))=ao (ns.take p):=by
 unfold L3.cutD;rw[HT.vS,HT.sY];simp![abU,aby];unfold ao;rw[Xr,<-abb];congr 1;by_cases z:p<=ns.length
 . rw[aaj z]
 rw[aaH (),Yz (Xv _),Yz ()]
def Ku{ns:List Int}{p:Nat}:L3.cutD (ao ns) (some (p:Int)) none=ao (ns.drop p):=by rw[xR];show abY.symm
def O3{h:List Int}(b:a<h.length):ao (h.take a)++[.int v]++ao (h.drop (a+1))=ao (h.set a v):=by
 rw[List.set_eq_take_append_cons_drop,XB b];unfold ao;rw[YR,Yg,Zh];rfl
def HI:Xq u_ 3 IQ Bq:=by
 rintro ds st K ⟨n,w,q,rfl,B,hq,Y,H,k⟩;show⟨rfl,?_⟩;show⟨n,w,4,q,rfl,B,by lia,H,by decide,λl s1 s Q X U=>?_⟩;show jV ⟨cD (by rw[Xr];lia),?_⟩;show gY (λrest f g=>∃h:List Int,h.length+rest.length=w/\rest=(ao l).drop h.length/\f=ao h/\(∀c,c<h.length->0<=h.getD c 0-l.getD c 0/\h.getD c 0-l.getD c 0<=4)/\Hk g n (q+8+h.length)/\Upd st n g) ?_ ?_ _ _ _ ⟨[],by rw[Xr];simpa using s,rfl,rfl,λc b=>by simp at b,X.mono (by simp),U⟩
 . rintro f L ⟨h,u,_,rfl,m,x,p⟩;let C:h.length=w:=by simpa using u
   show⟨trivial,cL rfl ?_⟩;let e:∀c,c<w->(l.getD c 0).natAbs<=4:=λc _=>iK Q
   let G:∀c,c<w->(h.getD c 0).natAbs<=8:=λc b=>by
    let:=m c ();let:=e c b;lia
   show⟨n,16,_,rfl,x,by lia,by decide,by decide,λr A N M B3 o=>eq2 (λO=>dN ?_) λO=>?_⟩
   . show⟨n,_,_,rfl,B3,by lia,by lia,by lia,λa s4 a0 a1 W T=>?_⟩;obtain⟨a,rfl⟩:∃R:Nat,a=(R:Int):=⟨a.toNat,by lia⟩
     let F:a<h.length:=()
     show mX ?_;rw[Oz];let I:LT (aj l) l:= .inr rfl;show I.at () (gX ⟨n,3,_,rfl,W,by lia,by decide,by decide,λv J v0 Z V S=>gX ⟨Xz rfl,sr (cD (by simp;lia)) (c_ (mX ?_))⟩⟩);rw[show(a:Int)+1=((a+1:Nat):Int) by lia,Ku];show sr (cD (by simp;lia)) ?_;rw[O3 F];let la:=e a ()
     let gs:∀c,(h.set a (l.getD a 0-1-v)).getD c 0=if a=c then l.getD a 0-1-v else h.getD c 0:=λc=>by
      rw[Pl.gs];by_cases z:a=c
      . rw[XB ⟨z,F⟩,XB z]
      rw[Xx λy=>z y.1,Xx z]
     show⟨Xz rfl,k l _ J ⟨s,by rw[XH];show C,e,λc b=>?_,λc b=>?_⟩ (V.mono ()) (((p.trans o).trans T).trans S)⟩
     . rw[gs c];by_cases z:a=c
       . rw[XB z];lia
       rw[Xx z];show G c b
     rw[gs c];by_cases z:a=c
     . rw[XB z];subst z;lia
     rw[Xx z];show(m c ()).2
   show⟨Xz rfl,k l h A ⟨s,C,e,G,λc b=>(m c ()).2⟩ (B3.mono ()) (p.trans o)⟩
 rintro d rest f L ⟨h,u,E,rfl,m,x,p⟩ next
 rw[XT]at u;let t:h.length<(ao l).length:=by rw[Xr];lia
 rw[X9 t]at E;injection E with h1 h2;rw[ZM]at h1;subst h1;let P:l[h.length]'(by rw[Xr]at t;show t)=l.getD h.length 0:=(Mx.aJ _).symm;rw[P];show⟨trivial,_,rfl,?_⟩;show⟨n,5,_,rfl,x,by lia,by decide,by decide,λr A N M B3 o=>c_ ?_⟩;change eB _ _ _ _ _ _ _ _ _;rw[ints_app];show next _ _ ⟨h++[l.getD h.length 0+r],by simp;lia,by rw[h2];simp,rfl,λc b=>?_,B3.mono (by simp;lia),p.trans o⟩
 rw[L4];by_cases z:c<h.length
 . rw[XB z];show m c z
 have:c=h.length:=by simp at b;lia
 rw[Xx z,XB this,this];lia
def rO:cf:=λb st K=>∃(n w:Nat) (q:Int) (l h:List Int),b=[.ref n,aj l,aj h]/\Hk st n q/\q<=800000000/\w<=8/\Q9 l h w/\∀r a,r.length=w->(∀x∈r,x.natAbs<=9)->Hk a n (q+10)->Upd st n a->K (aj r) a
def wV:List Str:=["_law_hand_here","_law_low","_law_high","_law_found","_law_one","_law_other"]
def Ft:DS:=(aw (aK 3 (df ai))
 (aw (j5 (pB (ae (aa 1) (ae (aa 2) ai))) (gN 4 5) (aK 3 (ak cW (aa 3) (df (ae (ak cW (aa 4) (aA cH (ae (aa 0) (ae (bS zY (ae (dC (.int 1)) (ae (ak cW (ak jr (aa 5) (aa 4)) (dC (.int 1))) ai))) ai)))) ai)))))
 (aX (aa 3))))
def DY:Xq rO 3 Ft wV:=by
 rintro W st K ⟨n,w,q,l,h,rfl,B,V,P,b,k⟩;let R:=b.ll;let S:=b.lh;show⟨rfl,⟨Xz rfl,?_⟩⟩;show lQ rfl rfl λok G=>?_;show jS (λrest σ s=>∃(r:List Int) (e c:Option D),r.length+rest.length=w/\rest=(fF (ao l) (ao h)).drop r.length/\σ=[some (.ref n),some (aj l),some (aj h),some (aj r),e,c]/\(∀x∈r,x.natAbs<=9)/\Hk s n (q+r.length)/\Upd st n s) ?_ ?_ _ _ _ ⟨[],none,none,by rw[gD,Xr,Xr];simp;lia,rfl,rfl,by simp,B.mono (by simp),Upd.refl⟩
 . rintro σ s ⟨r,e,c,f,_,rfl,g,p,o⟩;let H:r.length=w:=by simpa using f
   show⟨G _ rfl rfl,k r s H g (p.mono ()) o⟩
 rintro d rest σ s ⟨r,e,c,f,C,rfl,g,p,o⟩ next
 rw[XT]at f;let t:r.length<(fF (ao l) (ao h)).length:=by rw[gD,Xr,Xr];lia
 rw[X9 t]at C;injection C with h1 h2;let I:(fF (ao l) (ao h))[r.length]?=some d:=by rw[XC t,h1]
 obtain⟨x,y,ex,E,rfl⟩:=n6 I
 let L:x= .int (l.getD r.length 0):=by
  rw[XJ,XC (show r.length<l.length by lia)]at ex;cases ex;rw[Mx.aJ ()]
 let J:y= .int (h.getD r.length 0):=by
  rw[XJ,XC (show r.length<h.length by lia)]at E;cases E;rw[Mx.aJ ()]
 subst L J;let N:=b.bl r.length ();let F:=b.sp r.length ();let M:=b.bh r.length ();show⟨G _ rfl rfl,_,rfl,?_⟩;generalize l.getD r.length 0=u at N F;generalize h.getD r.length 0=v at F M;show gX (c_ (J5 ?_));let A:0<(if v-u+1>1 then v-u+1 else 1)/\(if v-u+1>1 then v-u+1 else 1)<=5:=by split<;>lia
 generalize(if v-u+1>1 then v-u+1 else 1)=m at A⊢;show⟨n,m,_,rfl,p,by lia,A.1,by lia,λi Q U T B3 O=>c_ ⟨Xz rfl,sr (cD (by simp;lia)) ?_⟩⟩;rw[ints_app];show next _ _ ⟨r++[u+i],_,_,by simp;lia,by rw[h2];simp,rfl,λz a=>?_,B3.mono (by simp;lia),o.trans O⟩
 rcases Yn.mp a with a|a
 . show g z a
 rw[YE.mp a];lia
def fW(T:Pl.Tk):D:= .tup [aj T.c,cw T.R,aj T.d,aj T.l,aj T.h]
structure Oe(T:Pl.Tk):Prop where
 n1:1<=T.n
 n4:T.n<=4
 w1:1<=T.w
 w3:T.w<=3
 lc:T.c.length=T.n
 bc:∀x∈T.c,x.natAbs<=9
 iR:Mx.dy T.w T.n T.R
 bR:∀r∈T.R,∀x∈r,x.natAbs<=100
 ld:T.d.length=T.w
 bd:∀y∈T.d,y.natAbs<=10000
 bs:Q9 T.l T.h T.n
def tT:cf:=λb st K=>∃(n w m:Nat) (q:Int),b=[.ref n,.int (w:Int),.int (m:Int),.int 5]/\Hk st n q/\q<=500000000/\1<=w/\w<=4/\1<=m/\m<=3/\∀T a,Oe T->T.n=w->Hk a n (q+300)->(∀k,k<st.length->k≠n->a[k]?=st[k]?)->K (fW T) a
def zy:List Str:=["_law_hand_here","_law_wide","_law_many","_law_span","_law_rows_here","_law_low","_law_high","_law_inner_here","_law_due","_law_costs"]
def IB:DS:=(aw (aK 4 (aA s_ (ae (aa 0) (ae (aa 1) (ae (aa 2) ai)))))
 (aw (GU (gN 5 6) (aA u_ (ae (aa 0) (ae (aa 1) (ae (aa 3) ai)))))
 (aw (aK 7 (aA rO (ae (aa 0) (ae (aa 5) (ae (aa 6) ai)))))
 (aw (aK 8 (oX (fU (aa 4)) [none,some 7] (cM 0) cT (aA o6 (ae (aa 0) (ae (aa 1) ai)))))
 (aw (cK (aQ (ak i8 (aA cH (ae (aa 0) (ae (dC (.int 4)) ai))) (dC (.int 0)))) (ED (λi j=>i+j) (aa 8) (aA cH (ae (aa 0) (ae (aa 2) ai))) (ak jr (aA cH (ae (aa 0) (ae (dC (.int 9)) ai))) (dC (.int 4)))) cF)
 (aw (aK 9 (aA jm (ae (aa 0) (ae (aa 1) (ae (ak aN (df (ae (dC (.int 0)) (ae (dC (.int 1)) (ae (dC (.int 3)) (ae (dC (.int 9)) ai))))) (aA cH (ae (aa 0) (ae (dC (.int 4)) ai)))) ai)))))
 (aX (df (ae (aa 9) (ae (aa 4) (ae (bS cY (ae (aa 8) ai)) (ae (aa 5) (ae (aa 6) ai)))))))))))))
def vH:∀ {a b:List Int} {s:Nat},(∀x∈a,x.natAbs<=m)->(∀x∈b,x.natAbs<=s)->(Mx.aP a b).natAbs<=a.length*(m*s)
 | [],_,_,_,_=>by change(0:Int).natAbs<=_;simp
 |_::_,[],_,_,_=>by change(0:Int).natAbs<=_;simp
 |x::a,y::b,s,f,d=>by
  let g:=vH (a:=a) (b:=b) (λz c=>f z (XN _ c)) λz c=>d z (XN _ c);let e:Mx.aP (x::a) (y::b)=x*y+Mx.aP a b:=rfl
  let k:(x*y).natAbs<=m*s:=by
   rw[Yt];show Yj (f x XX) (d y XX)
  let h:=Int.natAbs_add_le (x*y) (Mx.aP a b);rw[e,XT,aag,ZF];lia
def ET:Xq tT 4 IB zy:=by
 rintro ds st K ⟨n,w,m,q,rfl,B,hq,w1,w4,m1,m3,k⟩;show⟨rfl,?_⟩;let hB:=B.lt;show⟨n,w,m,q,rfl,B,by lia,by lia,m3,λA H P S B1 f1=>?_⟩;let lA:=P.len;show⟨n,w,_,rfl,B1,by lia,w1,by lia,λl h s2 bs B2 U2=>⟨_,rfl,?_⟩⟩;show⟨n,w,_,l,h,rfl,B2,by lia,by lia,bs,λx E lx bx B3 U3=>?_⟩;show jV ⟨cD (by rw[Xr];lia),?_⟩;show nI (λr=> .int (Mx.aP r x)) trivial (A:=A) xU (λe r G he K' t=>⟨_,rfl,_,_,r,x,rfl,he,rfl,by rw[P.jN r G];lia,λa ha b hb=>dj (by let:=S r G a ha;lia) (by let:=S r G a ha;lia),t⟩) ?_;let ed:A.map (λr=>D.int (Mx.aP r x))=ao (A.map λr=>Mx.aP r x):=by unfold ao;rw[X6];rfl
 rw[ed];let C:(A.map λr=>Mx.aP r x).length=m:=by rw[Xr,lA]
 let p:∀y∈A.map (λr=>Mx.aP r x),y.natAbs<=9000:=λy I=>by
  obtain⟨r,G,rfl⟩:=X8.mp I;let h1:=vH (S r G) bx;rw[P.jN r G]at h1;lia
 generalize A.map (λr=>Mx.aP r x)=d at C p
 let l1:st.length<=H.length:=by
  by_cases z:st.length<=H.length
  . show z
  have e:n≠H.length->False:=λg=>by
   let:=f1 H.length () (XI g);rw[Zw (Xv _),XC ()]at this;cases this
  let:=B1.lt;show absurd (λz:n=H.length=>by lia) (λg=>e g)
 let l3:E.length=H.length:=by rw[U3.len,U2.len]
 let B4:Hk (E++[.lst (ao d)]) n (q+100+20+10):=B3.cell (XA B3.lt);let Z:(E++[Cell.lst (ao d)])[E.length]?=some (.lst (ao d)):=by simp
 let f4:∀k,k<st.length->k≠n->(E++[Cell.lst (ao d)])[k]?=st[k]?:=λk hk g=>by
  rw[XA (),U3.same k g,U2.same k g];show f1 k hk g
 let hL:st.length<=E.length:=()
 let o:n≠E.length:=X_ B3.lt;generalize E++[Cell.lst (ao d)]=s4 at B4 Z f4⊢;generalize E.length=L at Z hL o⊢
 let J:∀(d:List Int) (s:ag) (z:Int),d.length=m->(∀y∈d,y.natAbs<=10000)->s[L]?=some (.lst (ao d))->Hk s n z->z<=q+140->(∀k,k<st.length->k≠n->s[k]?=st[k]?)->(aw (aK 9 (aA jm (ae (aa 0) (ae (aa 1) (ae (ak aN (df (ae (dC (.int 0)) (ae (dC (.int 1)) (ae (dC (.int 3)) (ae (dC (.int 9)) ai))))) (aA cH (ae (aa 0) (ae (dC (.int 4)) ai)))) ai)))))
  (aX (df (ae (aa 9) (ae (aa 4) (ae (bS cY (ae (aa 8) ai)) (ae (aa 5) (ae (aa 6) ai)))))))) {nx:=λ_ U=>K .av U,rt:=K} [some (.ref n),some (.int (w:Int)),some (.int (m:Int)),some (.int 5),some (cw A),some (aj l),some (aj h),some (aj x),some (.ref L),none] s:=λd s z C p e B hz f=>by
  show⟨Xz rfl,n,4,z,rfl,B,by lia,by decide,by decide,λv W v0 v1 T N=>?_⟩
  obtain⟨O,hs,X⟩:∃O:Nat,eF [D.int 0,.int 1,.int 3,.int 9] v=some (.int (O:Int))/\O<=9:=by
   let e:v=0\/v=1\/v=2\/v=3:=()
   rcases e with rfl|rfl|rfl|rfl
   . show⟨0,rfl,by decide⟩
   . show⟨1,rfl,by decide⟩
   . show⟨3,rfl,by decide⟩
   show⟨9,rfl,by decide⟩
  show aB rfl hs ⟨n,w,O,_,rfl,T,by lia,by lia,by lia,λc V lc bc B6 M=>?_⟩;let Q:V[L]?=some (.lst (ao d)):=(M.same L (XI o)).trans ((N.same L (XI o)).trans e);show cL (aE Q) ⟨Xz rfl,?_⟩;show k {n:=w,m:=0,w:=m,c:=c,R:=A,d:=d,l:=l,h:=h,F:=[],ld:=λ_=>0} V ⟨w1,w4,m1,m3,lc,λx hx=>Xy (bc x hx) X,P,S,C,p,bs⟩ rfl (B6.mono ()) λk hk g=>(M.same k g).trans ((N.same k g).trans (f k hk g))
 show⟨n,4,_,rfl,B4,by lia,by decide,by decide,λr W r0 r1 T N=>?_⟩;let e5:=(N.same L (XI o)).trans Z;let f5:∀k,k<st.length->k≠n->W[k]?=st[k]?:=λk hk g=>(N.same k g).trans (f4 k hk g);show eq2 (λG=>dN ?_) λG=>?_
 . show⟨n,m,_,rfl,T,by lia,by lia,by lia,λi V i0 i1 B6 M=>?_⟩;obtain⟨i,rfl⟩:∃i':Nat,i=(i':Int):=⟨i.toNat,by lia⟩
   let Y:i<d.length:=()
   let Q:=(M.same L (XI o)).trans e5;show OA Q () (u:=d.getD i 0) (fb (by rw[XJ,XC Y,Mx.aJ Y];rfl)) ?_;show⟨n,9,_,rfl,B6,by lia,by decide,by decide,λv s7 v0 v1 B7 U7=>gX ?_⟩;let e7:=(U7.same L (XI o)).trans Q;show P0 e7 (f9 (by rw[Xr];show Y)) ?_;let es:(ao d).set i (.int (d.getD i 0+(v-4)))=ao (d.set i (d.getD i 0+(v-4))):=by unfold ao;rw[Y8]
   rw[es];let bi:(d.getD i 0).natAbs<=9000:=iK p;show J _ _ _ (by rw[XH];show C) (λy I=>?_) (XE (Xs.mp e7).1) (B7.cell (Xu (XI o))) () λk hk g=>?_
   . rcases Yo I with z|rfl
     . have:=p y z;lia
     lia
   rw[Xu (),U7.same k g,M.same k g];show f5 k hk g
 show J d W _ C (λy I=>by let:=p y I;lia) e5 T () f5
def kb:cf:=λa st K=>∃i:Int,a=[.int i]/\K (.bl true) st
def qT:List Str:=["_law_found"]
def zg:DS:=(aX (qS (bS rL (ae (aa 0) (ae (dC (.ty "int")) ai))) (zc (aQ (bS rL (ae (aa 0) (ae (dC (.ty "bool")) ai)))))))
def yg:Xq kb 1 zg qT:=by
 rintro a st K ⟨i,rfl,k⟩;show⟨rfl,qF rfl ⋯ (dN (qF rfl ⋯ k))⟩
def qb:cf:=λa st K=>∃r:List Int,a=[aj r,aj r]/\r.length<=1000/\K (.bl true) st
def uI:List Str:=["_law_found","_law_due"]
def DF:DS:=(aw (cK (va (i3 (aQ (bS rL (ae (aa 0) (ae (dC (.ty "tuple")) ai))))) (aQ (ak nj (bS dO (ae (aa 0) ai)) (bS dO (ae (aa 1) ai))))) (aX (dC (.bl false))) cF)
 (aX (bS Et (ae (dW (pB (ae (aa 0) (ae (aa 1) ai))) [none,none] (gN 0 1) cT (qS (aA kb (ae (aa 0) ai)) (ak i8 (aa 0) (aa 1)))) ai))))
def all_true:∀xs:List D,oR (xs.map λ_=>D.bl true)=some (xs.map λ_=>true)
 | []=>rfl
 |x::xs=>by simp[oR,all_true xs]
def Lr{α:Type}:∀xs:List α,(xs.map λ_=>true).all id=true
 | []=>rfl
 |x::xs=>by simp[Lr xs]
def BL:Xq qb 2 DF uI:=by
 rintro m st K ⟨r,rfl,l,k⟩;show⟨rfl,?_⟩;show qF rfl ⋯ (cJ rfl (cJ rfl (JJ rfl ?_)));show lQ rfl rfl λok h=>⟨cD (by rw[gD,Xr];lia),?_⟩
 show comp_map (g:=λ_=> .bl true) (h st rfl rfl) _ (λd c o q=>?_) ?_
 . obtain⟨n,b,e⟩:=Yh.mp c;let f:(fF (ao r) (ao r))[n]?=some d:=by rw[XC b,e]
   obtain⟨x,y,ex,a,rfl⟩:=n6 f;rw[ex]at a;cases a;obtain⟨i,_,rfl⟩:=X8.mp (XS ex);show⟨_,rfl,i,rfl,dN (eqT rfl q)⟩
 show Tp (all_true _) ?_;rw[Lr];show k
def fK:cf:=λd st K=>(∃b a,d=[.tup [.str "none",.tup [b,a]],.av]\/∃(c:Int) (x:List Int),x.length<=1000/\d=[.tup [.str "told",.int c,aj x,.tup [b,a]],.tup [.int c,aj x]])/\K (.bl true) st
def uc:List Str:=["_law_told","_law_best"]
def BM:DS:=(aw (cK (va (i3 (aQ (bS rL (ae (aa 0) (ae (dC (.ty "tuple")) ai))))) (aQ (ak i8 (bS dO (ae (aa 0) ai)) (dC (.int 0))))) (aX (dC (.bl false))) cF)
 (aw (cK (aQ (ak zj (aa 1) (dC .av))) (aw (cK (va (aQ (ak nj (bS dO (ae (aa 0) ai)) (dC (.int 2)))) (aQ (ak nj (ak aN (aa 0) (dC (.int 0))) (dC (.str "none"))))) (aX (dC (.bl false))) cF)
 (aX (qS (bS rL (ae (ak aN (aa 0) (dC (.int 1))) (ae (dC (.ty "tuple")) ai))) (ak i8 (bS dO (ae (ak aN (aa 0) (dC (.int 1))) ai)) (dC (.int 2)))))) cF)
 (aw (cK (va (aQ (ak nj (bS dO (ae (aa 0) ai)) (dC (.int 4)))) (aQ (ak nj (ak aN (aa 0) (dC (.int 0))) (dC (.str "told"))))) (aX (dC (.bl false))) cF)
 (aw (cK (va (i3 (aQ (aA kb (ae (ak aN (aa 0) (dC (.int 1))) ai)))) (aQ (ak nj (ak aN (aa 0) (dC (.int 1))) (ak aN (aa 1) (dC (.int 0)))))) (aX (dC (.bl false))) cF)
 (aX (qS (aA qb (ae (ak aN (aa 0) (dC (.int 2))) (ae (ak aN (aa 1) (dC (.int 1))) ai))) (qS (bS rL (ae (ak aN (aa 0) (dC (.int 3))) (ae (dC (.ty "tuple")) ai))) (ak i8 (bS dO (ae (ak aN (aa 0) (dC (.int 3))) ai)) (dC (.int 2))))))))))
def D3{st:ag}{K:DK}{i j:Str}(k:K (.bl (!decide (i=j))) st):nj (.str i) (.str j) st K:=by unfold nj;show k
def zW:Xq fK 2 BM uc:=by
 rintro e st K ⟨⟨d,b,h⟩,k⟩;rcases h with rfl|⟨c,x,a,rfl⟩
 . show⟨rfl,?_⟩;show qF rfl ⋯ (cJ rfl (Tv (show((2:Nat):Int)≠0 by decide) ?_));show o7 rfl (dN (cJ rfl (JJ rfl (aB rfl rfl (D3 ?_)))));show aB rfl rfl (qF rfl ⋯ (dN (aB rfl rfl (cJ rfl (eqT rfl k)))))
 show⟨rfl,?_⟩;show qF rfl ⋯ (cJ rfl (Tv (show((4:Nat):Int)≠0 by decide) ?_));show o7 rfl (cJ rfl (JJ rfl (aB rfl rfl (D3 ?_))));show aB rfl rfl ⟨c,rfl,aB rfl rfl (aB rfl rfl (JJ rfl ?_))⟩;show aB rfl rfl (aB rfl rfl ⟨x,rfl,a,dN ?_⟩);show aB rfl rfl (qF rfl ⋯ (dN (aB rfl rfl (cJ rfl (eqT rfl k)))))
def vD:Option (Int×List Int)->D
 |none=> .av
 |some (c,x)=> .tup [.int c,aj x]
def my(T:Pl.Tk):Option (Int×List Int)->Prop
 |none=>∀x,¬T.fJ x
 |some (c,x)=>T.fJ x/\c=Mx.aP T.c x/\∀y,T.fJ y->Pl.ltB (Mx.aP T.c y,y) (c,x)=false
def jC:cf:=λc st K=>∃(b a:D) (r s:List Int) (m:Int),c=[b,a,.int m]/\items? st b=some (ao r)/\items? st a=some (ao s)/\r.length<=1000/\m.natAbs<=100/\K (aj (Mx.bg r m s)) st
def yC:List Str:=["_law_one","_law_other","_law_many"]
def HW:DS:=(aX (bS cY (ae (dW (pB (ae (aa 0) (ae (aa 1) ai))) [none,none,some 2] (gN 0 1) cT (ak cW (aa 0) (ak cP (aa 2) (aa 1)))) ai)))
def ES:Xq jC 3 HW yC:=by
 rintro t st K ⟨v,u,r,s,m,rfl,e,c,n,l,k⟩;show⟨rfl,?_⟩;show lQ e c λok h=>⟨cD (by rw[gD,Xr];lia),?_⟩
 show comp_map (g:=λd=>match d with| .tup [.int a,.int b]=> .int (a+m*b)|_=> .av) (h _ e c) _ (λd f w q=>?_) ?_
 . obtain⟨a,b,p,o,rfl⟩:=xZ f;show⟨_,rfl,cR (dj () ()) (c_ q)⟩
 rw[show(fF (ao r) (ao s)).map (λd=>match d with| .tup [.int a,.int b]=>D.int (a+m*b)|_=> .av)=ao (Mx.bg r m s)from vb _ _];show cL rfl k
def qJ(R:List (List Int))(d x:List Int)(w:Nat):Prop:=∀j,j<w->Mx.aP (R.getD j []) x=d.getD j 0
structure Jm(R:List (List Int))(d:List Int)(w n b:Nat):Prop where
 iR:Mx.dy w n R
 ld:d.length=w
 bR:∀r∈R,∀x∈r,x.natAbs<=b
 bd:∀y∈d,y.natAbs<=100*b
def qE:cf:=λf st K=>∃(n w b:Nat) (q:Int) (R:List (List Int)) (d:List Int),f=[.ref n,cw R,aj d]/\Hk st n q/\q<=500000000/\Jm R d w b 100/\1<=w/\w<=8/\b<=8/\∀e c a,Jm e c w b 300->(∀x,x.length=b->(qJ e c x w↔qJ R d x w))->Hk a n (q+10)->(∀k,k<st.length->k≠n->a[k]?=st[k]?)->K (.tup [cw e,aj c]) a
def uL:List Str:=["_law_hand_here","_law_rows_here","_law_due","_law_k","_law_j"]
def Dp:DS:=(aw (Ia 1 2 (ae (bS ql (ae (aa 1) ai)) (ae (bS ql (ae (aa 2) ai)) ai)))
 (aw (aK 3 (aA cH (ae (aa 0) (ae (bS dO (ae (aa 1) ai)) ai))))
 (aw (aK 4 (aA cH (ae (aa 0) (ae (bS dO (ae (aa 1) ai)) ai))))
 (aw (cK (aQ (ak nj (aa 3) (aa 4))) (aw (dD (aa 1) (aa 3) (aA jC (ae (ak aN (aa 1) (aa 3)) (ae (ak aN (aa 1) (aa 4)) (ae (dC (.int 2)) ai)))))
 (dD (aa 2) (aa 3) (ak cW (ak aN (aa 2) (aa 3)) (ak cP (dC (.int 2)) (ak aN (aa 2) (aa 4)))))) cF)
 (aw (dD (aa 1) (aa 4) (bS cY (ae (dW (fU (ak aN (aa 1) (aa 4))) [none] (cM 0) cT (nU jd (aa 0))) ai)))
 (aw (dD (aa 2) (aa 4) (nU jd (ak aN (aa 2) (aa 4))))
 (aw (cK (aQ (ak i8 (aA cH (ae (aa 0) (ae (dC (.int 2)) ai))) (dC (.int 0)))) (aw (fz (tI (aa 1)))
 (fz (tI (aa 2)))) cF)
 (aX (df (ae (bS cY (ae (aa 1) ai)) (ae (bS cY (ae (aa 2) ai)) ai)))))))))))
def Ar:∀ {a b x:List Int} {t:Int},a.length=x.length->b.length=x.length->Mx.aP (Mx.bg a t b) x=Mx.aP a x+t*Mx.aP b x
 | [],[],[],t,_,_=>by change(0:Int)=0+t*0;lia
 | [],_::_,[],_,_,h=>by simp at h
 |_::_,[],[],_,h,_=>by simp at h
 |a::as,b::bs,x::xs,t,e,d=>by
  let c:=Ar (a:=as) (b:=bs) (x:=xs) (t:=t) (by simpa using e) (by simpa using d);change(a+t*b)*x+Mx.aP (Mx.bg as t bs) xs=(a*x+Mx.aP as xs)+t*(b*x+Mx.aP bs xs);rw[c];grind
def Gv:∀ {a x:List Int},Mx.aP (a.map λy=> -y) x= -Mx.aP a x
 | [],x=>by cases x<;>rfl
 |_::_,[]=>rfl
 |a::as,x::xs=>by
  let b:=Gv (a:=as) (x:=xs);change-a*x+Mx.aP (as.map λy=> -y) xs= -(a*x+Mx.aP as xs);rw[b,Zq];lia
def sets{α:Type}{l:List α}{i j:Nat}{v d:α}(a:i<l.length):(l.set i v).getD j d=if i=j then v else l.getD j d:=by
 rw[XD,abf,XD];by_cases h:i=j
 . subst h;simp[a]
 simp[h]
def C9{A:List (List Int)}{k:Nat}:(A.map aj).set k (.tup (ao r))=(A.set k r).map aj:=by rw[Y8]
def BY:Xq qE 3 Dp uL:=by
 rintro ds st K ⟨n,w,X,q,R,d,rfl,B,hq,o,w1,w8,a6,k⟩;show⟨rfl,?_⟩;let hB:=B.lt;show dJ (λσ' s=>σ'=[some (.ref n),some (.ref st.length),some (.ref (st.length+1)),none,none]/\s=st++[Cell.lst (R.map aj)]++[Cell.lst (ao d)]) (λnx aO=>?_) ?_
 . unfold Ia;dsimp only[ae,bS,ai];show bo rfl (xV rfl ?_);show bo rfl (xV rfl ?_);show aO _ _ ⟨by rw[show(st++[Cell.lst (R.map aj)]).length=st.length+1 by simp];rfl,rfl⟩
 rintro σ s ⟨rfl,rfl⟩;let e1:(st++[Cell.lst (R.map aj)]++[Cell.lst (ao d)])[st.length]?=some (.lst (R.map aj)):=by simp
 let e2:(st++[Cell.lst (R.map aj)]++[Cell.lst (ao d)])[st.length+1]?=some (.lst (ao d)):=by simp
 let B0:Hk (st++[Cell.lst (R.map aj)]++[Cell.lst (ao d)]) n q:=B.cell (by rw[Zh,XA hB]);let f0:∀k,k<st.length->k≠n->(st++[Cell.lst (R.map aj)]++[Cell.lst (ao d)])[k]?=st[k]?:=λk hk _=>by rw[Zh,XA hk]
 let U:n≠st.length:=()
 let S:n≠st.length+1:=()
 let T:st.length≠st.length+1:=()
 let hL:st.length<=st.length:=Xv _;let hM:st.length<=st.length+1:=()
 generalize st++[Cell.lst (R.map aj)]++[Cell.lst (ao d)]=s0 at e1 e2 B0 f0⊢;generalize aq:st.length=L at e1 e2 U S T hL hM f0 hB⊢;generalize bb:L+1=M at e2 S T hM⊢;let lR:=o.iR.len;let V:=o.ld;show cJ (aE e1) ⟨n,_,q,rfl,B0,by lia,by rw[Xr];lia,by rw[Xr];lia,λa s1 a0 a1 B1 U1=>?_⟩;let av:=(U1.same L (XI U)).trans e1;let a5:=(U1.same M (XI S)).trans e2;show cJ (aE av) ⟨n,_,_,rfl,B1,by lia,by rw[Xr];lia,by rw[Xr];lia,λb s2 b0 b1 B2 U2=>?_⟩;rw[Xr]at a1 b1;obtain⟨a,rfl⟩:∃i:Nat,a=(i:Int):=⟨a.toNat,by lia⟩
 obtain⟨b,rfl⟩:∃i:Nat,b=(i:Int):=⟨b.toNat,by lia⟩
 let E:a<w:=()
 let I:b<w:=()
 let J:=(U2.same L (XI U)).trans av;let W:=(U2.same M (XI S)).trans a5;let f2:∀k,k<L->k≠n->s2[k]?=st[k]?:=λk hk F=>(U2.same k F).trans ((U1.same k F).trans (f0 k hk F));let lt:∀ {s:ag} {i:Nat} {c:Cell},s[i]?=some c->i<s.length:=λh=>(Xs.mp h).1
 let part2:∀(f:List (List Int)) (m:List Int) (s:ag),Jm f m w X 300->(∀x,x.length=X->(qJ f m x w↔qJ R d x w))->s[L]?=some (.lst (f.map aj))->s[M]?=some (.lst (ao m))->Hk s n (q+2)->(∀k,k<L->k≠n->s[k]?=st[k]?)->(aw (dD (aa 1) (aa 4) (bS cY (ae (dW (fU (ak aN (aa 1) (aa 4))) [none] (cM 0) cT (nU jd (aa 0))) ai)))
  (aw (dD (aa 2) (aa 4) (nU jd (ak aN (aa 2) (aa 4))))
  (aw (cK (aQ (ak i8 (aA cH (ae (aa 0) (ae (dC (.int 2)) ai))) (dC (.int 0)))) (aw (fz (tI (aa 1)))
  (fz (tI (aa 2)))) cF)
  (aX (df (ae (bS cY (ae (aa 1) ai)) (ae (bS cY (ae (aa 2) ai)) ai))))))) {nx:=λ_ az=>K .av az,rt:=K} [some (.ref n),some (.ref L),some (.ref M),some (.int (a:Int)),some (.int (b:Int))] s:=by
  intro f m s A hs g1 Z B' f';let l1:=A.iR.len;let l2:=A.ld;let ab:eF (f.map aj) (b:Int)=some (aj (f.getD b [])):=fb (by rw[XJ,XC (),Mx.aJ ()];rfl);let mem:f.getD b []∈f:=by rw[Mx.aJ ()];show Yd _
  let lb:=A.iR.jN _ mem;show aB (aE g1) ab (jV ⟨cD (by rw[Xr];lia),?_⟩);show comp_map (g:=λx=>match x with| .int a=> .int (-a)|_=> .av) trivial _ (λx O K' t=>?_) ?_
  . obtain⟨y,_,rfl⟩:=X8.mp O;show⟨_,rfl,jb t⟩
  rw[show(ao (f.getD b [])).map (λx=>match x with| .int a=>D.int (-a)|_=> .av)=ao ((f.getD b []).map λx=> -x) by unfold ao;rw[X6,X6];rfl];show cL rfl (fE g1 (by rw[Xr,l1];show f9 I) ?_);rw[C9];let ar:(s.set L (.lst ((f.set b ((f.getD b []).map λx=> -x)).map aj)))[M]?=some (.lst (ao m)):=by rw[Xu T];show Z
  show aB (aE ar) (fb (by rw[XJ,XC ()];rfl)) (jb (fE ar (by rw[Xr,l2];show f9 I) ?_));let ed:(ao m).set b (.int (-m[b]'()))=ao (m.set b (-(m.getD b 0))):=by unfold ao;rw[Y8,Mx.aJ ()]
  rw[ed]
  let p:Jm (f.set b ((f.getD b []).map λx=> -x)) (m.set b (-(m.getD b 0))) w X 300:=by
   show⟨⟨by rw[XH];show l1,λr C=>?_⟩,by rw[XH];show l2,λr C x O=>?_,λy N=>?_⟩
   . rcases Yo C with z|rfl
     . show A.iR.jN r z
     rw[Xr];show lb
   . rcases Yo C with z|rfl
     . show A.bR r z x O
     obtain⟨y,N,rfl⟩:=X8.mp O;let:=A.bR _ mem y N;lia
   rcases Yo N with z|rfl
   . show A.bd y z
   have:=A.bd (m.getD b 0) (by rw[Mx.aJ ()];show Yd _);lia
  let P:∀x,x.length=X->(qJ (f.set b ((f.getD b []).map λx=> -x)) (m.set b (-(m.getD b 0))) x w↔qJ R d x w):=λx Y=>by
   rw[<-hs x Y]
   let key:∀j,Mx.aP ((f.set b ((f.getD b []).map λx=> -x)).getD j []) x=(m.set b (-(m.getD b 0))).getD j 0↔Mx.aP (f.getD j []) x=m.getD j 0:=λj=>by
    rw[sets (),sets ()];by_cases z:b=j
    . rw[XB z,XB z,Gv,<-z];lia
    rw[Xx z,Xx z]
   show⟨λh j G=>(key j).mp (h j G),λh j G=>(key j).mpr (h j G)⟩
  let g3:((s.set L (.lst ((f.set b ((f.getD b []).map λx=> -x)).map aj))).set M (.lst (ao (m.set b (-(m.getD b 0))))))[L]?=some (.lst ((f.set b ((f.getD b []).map λx=> -x)).map aj)):=by
   rw[Xu (XI T),XE (lt g1)]
  let g4:((s.set L (.lst ((f.set b ((f.getD b []).map λx=> -x)).map aj))).set M (.lst (ao (m.set b (-(m.getD b 0))))))[M]?=some (.lst (ao (m.set b (-(m.getD b 0))))):=XE (by rw[XH];show lt Z);let B3:Hk ((s.set L (.lst ((f.set b ((f.getD b []).map λx=> -x)).map aj))).set M (.lst (ao (m.set b (-(m.getD b 0)))))) n (q+2):=B'.cell (by rw[Xu (XI S),Xu (XI U)])
  let f3:∀k,k<L->k≠n->((s.set L (.lst ((f.set b ((f.getD b []).map λx=> -x)).map aj))).set M (.lst (ao (m.set b (-(m.getD b 0))))))[k]?=st[k]?:=λk hk F=>by
   rw[Xu (),Xu ()];show f' k hk F
  generalize(s.set L (.lst ((f.set b ((f.getD b []).map λx=> -x)).map aj))).set M (.lst (ao (m.set b (-(m.getD b 0)))))=s' at g3 g4 B3 f3⊢;generalize f.set b ((f.getD b []).map λx=> -x)=R2 at p P g3;generalize m.set b (-(m.getD b 0))=d2 at p P g4;show⟨n,2,_,rfl,B3,by lia,by decide,by decide,λr s4 r0 r1 B4 U4=>?_⟩;let g5:=(U4.same L (XI U)).trans g3;let g6:=(U4.same M (XI S)).trans g4;let f4:∀k,k<L->k≠n->s4[k]?=st[k]?:=λk hk F=>(U4.same k F).trans (f3 k hk F);show eq2 (λ_=>dN ?_) λ_=>?_
  . show KG (λK' h=>h) g5 ?_;let g7:(s4.set L (.lst (R2.map aj).reverse))[M]?=some (.lst (ao d2)):=by rw[Xu T];show g6
    show KG (λK' h=>h) g7 ?_
    let g8:((s4.set L (.lst (R2.map aj).reverse)).set M (.lst (ao d2).reverse))[L]?=some (.lst (R2.map aj).reverse):=by
     rw[Xu (XI T),XE (lt g5)]
    let g9:((s4.set L (.lst (R2.map aj).reverse)).set M (.lst (ao d2).reverse))[M]?=some (.lst (ao d2).reverse):=XE (by rw[XH];show lt g6);show cL (aE g8) (cL (aE g9) ⟨Xz rfl,?_⟩);let er:(R2.map aj).reverse=R2.reverse.map aj:=List.map_reverse.symm;let ed:(ao d2).reverse=ao d2.reverse:=List.map_reverse.symm;rw[er,ed];let l3:=p.iR.len;let l4:=p.ld;show k R2.reverse d2.reverse _ ⟨⟨by rw[aaX];show l3,λr C=>p.iR.jN r (abA.mp C)⟩,by rw[aaX];show l4,λr C=>p.bR r (abA.mp C),λy N=>p.bd y (abA.mp N)⟩ (λx Y=>?_) ((B4.cell (by rw[Xu (XI S),Xu (XI U)])).mono ()) λk hk F=>by rw[aq]at hk;rw[Xu (),Xu ()];show f4 k hk F
    rw[<-P x Y]
    let rv:∀ {α:Type} {l:List α} {v:α} {j:Nat},l.length=w->j<w->l.reverse.getD j v=l.getD (w-1-j) v:=λ{α l v j} hl G=>by
     rw[XD,List.getElem?_reverse (),XD,hl]
    constructor
    . intro h j G;let:=h (w-1-j) ();rw[rv l3 (),rv l4 (),show w-1-(w-1-j)=j by lia]at this;show this
    intro h j G;rw[rv l3 G,rv l4 G];show h _ ()
  show cL (aE g5) (cL (aE g6) ⟨Xz rfl,?_⟩);show k R2 d2 s4 p P (B4.mono ()) (by rw[aq];show f4)
 show ne2 (λa3=>dN ?_) λa7=>?_
 . have ah:a≠b:=λz=>a3 (by rw[z]);let C:∀i,i<w->eF (R.map aj) (i:Int)=some (aj (R.getD i [])):=λi hi=>fb (by rw[XJ,XC (),Mx.aJ ()];rfl);let H:∀i,i<w->R.getD i []∈R:=λi hi=>by rw[Mx.aJ ()];show Yd _
   let u:∀i,i<w->(R.getD i []).length=X:=λi hi=>o.iR.jN _ (H i hi);show aB (aE J) (C a E) (aB (aE J) (C b I) ?_);show⟨_,_,R.getD a [],R.getD b [],2,rfl,rfl,rfl,by rw[u a E];lia,by decide,?_⟩;show fE J (by rw[Xr,lR];show f9 E) ?_;rw[C9];let Z:(s2.set L (.lst ((R.set a (Mx.bg (R.getD a []) 2 (R.getD b []))).map aj)))[M]?=some (.lst (ao d)):=by rw[Xu T];show W
   let hd:∀i,i<w->eF (ao d) (i:Int)=some (.int (d.getD i 0)):=λi hi=>fb (by rw[XJ,XC (),Mx.aJ ()];rfl);show aB (aE Z) (hd a E) (aB (aE Z) (hd b I) (cR (dj ⋯ ⋯) (c_ (fE Z (by rw[Xr,V];show f9 E) ?_))));rw[show(ao d).set a (.int (d.getD a 0+2*d.getD b 0))=ao (d.set a (d.getD a 0+2*d.getD b 0)) by unfold ao;rw[Y8]];show part2 (R.set a (Mx.bg (R.getD a []) 2 (R.getD b []))) (d.set a (d.getD a 0+2*d.getD b 0)) _ ⟨⟨by rw[XH];show lR,λr C=>?_⟩,by rw[XH];show V,λr C x O=>?_,λy N=>?_⟩ (λx Y=>?_) ?_ (XE (by rw[XH];show lt W)) ((B2.cell (by rw[Xu (XI S),Xu (XI U)])).mono ()) λk hk F=>by rw[Xu (),Xu ()];show f2 k hk F
   . rcases Yo C with z|rfl
     . show o.iR.jN r z
     rw[Mx.fR (by rw[u a E,u b I])];show u a E
   . rcases Yo C with z|rfl
     . have:=o.bR r z x O;lia
     obtain⟨c,hc,rfl⟩:=Yh.mp O;let lc:c<X:=by rw[Mx.fR (by rw[u a E,u b I]),u a E]at hc;show hc
     let e:=Mx.i_ (r:=R.getD a []) (s:=R.getD b []) (t:=2) (by rw[u a E,u b I]) c;rw[Mx.aJ hc]at e;rw[e];let h1:=iK (c:=c) (o.bR _ (H a E));let h2:=iK (c:=c) (o.bR _ (H b I));lia
   . rcases Yo N with z|rfl
     . have:=o.bd y z;lia
     have h1:=iK (c:=a) o.bd;let h2:=iK (c:=b) o.bd;lia
   . have key:∀j,Mx.aP ((R.set a (Mx.bg (R.getD a []) 2 (R.getD b []))).getD j []) x=if a=j then Mx.aP (R.getD a []) x+2*Mx.aP (R.getD b []) x else Mx.aP (R.getD j []) x:=λj=>by
      rw[sets ()];by_cases z:a=j
      . rw[XB z,XB z,Ar (by rw[u a E,Y]) (by rw[u b I,Y])]
      rw[Xx z,Xx z]
     let kd:∀j,(d.set a (d.getD a 0+2*d.getD b 0)).getD j 0=if a=j then d.getD a 0+2*d.getD b 0 else d.getD j 0:=λj=>sets ()
     constructor
     . intro h j G;let a4:=h b I;rw[key,kd,Xx ah,Xx ah]at a4;let Q:=h j G;rw[key,kd]at Q;by_cases z:a=j
       . rw[XB z,XB z]at Q;subst z;lia
       rw[Xx z,Xx z]at Q;show Q
     intro h j G;rw[key,kd];by_cases z:a=j
     . rw[XB z,XB z,h a E,h b I]
     rw[Xx z,Xx z];show h j G
   rw[Xu (XI T),XE (lt J)]
 show part2 R d s2 ⟨o.iR,V,λr C x O=>by let:=o.bR r C x O;lia,λy N=>by let:=o.bd y N;lia⟩ (λx _=>Iff.rfl) J W (B2.mono ()) f2
def sL{T:Pl.Tk}(f:1<=T.n)(e:T.n<=4)(d:1<=T.w)(b:T.w<=8)(l:T.c.length=T.n)(m:Mx.dy T.w T.n T.R)(ld:T.d.length=T.w)(h:T.l.length=T.n)(k:T.h.length=T.n)(t:∀r∈T.R,∀x∈r,x.natAbs<=1000)(q:∀y∈T.d,y.natAbs<=1000000)(s:∀x∈T.c,x.natAbs<=1000000)(g:∀c,c<T.n->(T.l.getD c 0).natAbs<=32)(o:∀c,c<T.n->(T.h.getD c 0).natAbs<=32)(sp:∀c,c<T.n->T.h.getD c 0-T.l.getD c 0<=4):tV T 32 4:=by
 let p:(4+2)^T.n<=(4+2)^4:=XO ⋯ e;show⟨f,by lia,d,b,l,m,ld,h,k,λr n x a=>Xy (t r n x a) ⋯,λx a=>Xy (q x a) ⋯,λx a=>by let:=s x a;lia,g,o,by decide,sp,Xy p ⋯⟩
def mS{T:Pl.Tk}:T.fJ x↔Pl.Bx T.l T.h x/\qJ T.R T.d x T.w:=⟨λs=>⟨s.box,s.eqs⟩,λs=>⟨s.1,s.2⟩⟩
def my.same{T b:Pl.Tk}(h:my T v)(d:b.c=T.c)(a:∀x,b.fJ x↔T.fJ x):my b v:=by
 cases v with
 |none=>show λx s=>h x ((a x).mp s)
 |some v=>
  obtain⟨c,x⟩:=v;obtain⟨g,f,e⟩:=h;show⟨(a x).mpr g,by rw[d];show f,λy s=>by rw[d];show e y ((a y).mp s)⟩
def Tc(c:0<t):Pl.ltB (t*a+s,x) (t*b+s,y)=Pl.ltB (a,x) (b,y):=by
 let e:(t*a+s=t*b+s)=(a=b):=propext ⟨λh=>Int.eq_of_mul_eq_mul_left (ZL c) (),λh=>by rw[h]⟩;let l:(t*a+s<t*b+s)=(a<b):=propext ⟨λh=>Int.lt_of_mul_lt_mul_left (show t*a<t*b by lia) (),λh=>by let:=Int.mul_lt_mul_of_pos_left h c;lia⟩;unfold Pl.ltB Pl.sG Pl.ltI;simp![e,l]
def my.cost{T b:Pl.Tk}{v:Option (Int×List Int)}(h:my T v)(a:∀x,b.fJ x↔T.fJ x)(d:∀x,T.fJ x->Mx.aP b.c x=2*Mx.aP T.c x+s):my b (v.map λp=>(2*p.1+s,p.2)):=by
 cases v with
 |none=>show λx q=>h x ((a x).mp q)
 |some v=>
  obtain⟨c,x⟩:=v;obtain⟨e,g,f⟩:=h;show⟨(a x).mpr e,by rw[d x e,<-g],λy q=>?_⟩;let q:=(a y).mp q;rw[d y q];change Pl.ltB (2*Mx.aP T.c y+s,y) (2*c+s,x)=false;rw[Tc ⋯];show f y q
def DM:∀ {x y m:List Int},x.length=m.length->y.length=m.length->Pl.kn (Mx.bg x 1 m) (Mx.bg y 1 m)=Pl.kn x y
 | [],[],[],_,_=>rfl
 |_::_,[],[],h,_=>by simp at h
 | [],_::_,[],_,h=>by simp at h
 |_::_,_::_,[],h,_=>by simp at h
 | [],_,_::_,h,_=>by simp at h
 |_::_,[],_::_,_,h=>by simp at h
 |x::xs,y::ys,m::ms,c,b=>by
  let a:=DM (x:=xs) (y:=ys) (m:=ms) (by simpa using c) (by simpa using b);change(if x+1*m=y+1*m then Pl.kn (Mx.bg xs 1 ms) (Mx.bg ys 1 ms)else decide (x+1*m<y+1*m))=if x=y then Pl.kn xs ys else decide (x<y)
  rw[a];by_cases e:x=y
  . rw[XB e,XB (by rw[e])]
  rw[Xx e,Xx ()];show ZJ.mpr ()
def FO:∀ {l h x m:List Int},x.length=m.length->l.length=m.length->h.length=m.length->(Pl.Bx (Mx.bg l 1 m) (Mx.bg h 1 m) (Mx.bg x 1 m)↔Pl.Bx l h x)
 | [],[],[],[],_,_,_=>Iff.rfl
 |l::ls,h::hs,x::xs,m::ms,d,c,b=>by
  let a:=FO (l:=ls) (h:=hs) (x:=xs) (m:=ms) (by simpa using d) (by simpa using c) (by simpa using b);change((l+1*m<=x+1*m/\x+1*m<=h+1*m)/\Pl.Bx (Mx.bg ls 1 ms) (Mx.bg hs 1 ms) (Mx.bg xs 1 ms))↔((l<=x/\x<=h)/\Pl.Bx ls hs xs);rw[a];show⟨λq=>⟨⟨by lia,by lia⟩,q.2⟩,λq=>⟨⟨by lia,by lia⟩,q.2⟩⟩
 |_::_,_,_,[],_,h,_=>by simp at h
 | [],_::_,_,[],_,_,h=>by simp at h
 | [],[],_::_,[],h,_,_=>by simp at h
 | [],_,_,_::_,_,h,_=>by simp at h
 |_::_,[],_,_::_,_,_,h=>by simp at h
 |_::_,_::_,[],_::_,h,_,_=>by simp at h
def o9:∀ {c x m:List Int},x.length=m.length->Mx.aP c (Mx.bg x 1 m)=Mx.aP c x+Mx.aP c m
 | [],_,_,_=>by change(0:Int)=0+0;rfl
 |_::_,[],[],_=>by change(0:Int)=0+0;rfl
 |_::_,[],_::_,h=>by simp at h
 |_::_,_::_,[],h=>by simp at h
 |c::cs,x::xs,m::ms,h=>by
  let a:=o9 (c:=cs) (x:=xs) (m:=ms) (by simpa using h);change c*(x+1*m)+Mx.aP cs (Mx.bg xs 1 ms)=(c*x+Mx.aP cs xs)+(c*m+Mx.aP cs ms);rw[a];grind
def Bs:∀ {c x:List Int},Mx.aP (c.map λy=>2*y) x=2*Mx.aP c x
 | [],x=>by cases x<;>rfl
 |_::_,[]=>rfl
 |c::cs,x::xs=>by
  let a:=Bs (c:=cs) (x:=xs);change 2*c*x+Mx.aP (cs.map λy=>2*y) xs=2*(c*x+Mx.aP cs xs);rw[a];grind
def Dr:∀ {y m:List Int},y.length=m.length->Mx.bg (Mx.bg y (-1) m) 1 m=y
 | [],[],_=>rfl
 | [],_::_,h=>by simp at h
 |_::_,[],h=>by simp at h
 |y::ys,m::ms,h=>by
  let a:=Dr (y:=ys) (m:=ms) (by simpa using h);change(y+ -1*m+1*m)::Mx.bg (Mx.bg ys (-1) ms) 1 ms=y::ys;rw[a,show y+ -1*m+1*m=y by lia]
def my.move{T a:Pl.Tk}{v:Option (Int×List Int)}{mv:List Int}(h:my T v)(F:mv.length=T.n)(n:T.l.length=T.n)(G:T.h.length=T.n)(ld:T.d.length=T.w)(H:T.R.length=T.w)(A:a.w=T.w)(C:a.R=T.R)(t:a.c=T.c)(o:a.l=Mx.bg T.l 1 mv)(B:a.h=Mx.bg T.h 1 mv)(r:∀j,j<T.w->a.d.getD j 0=T.d.getD j 0+Mx.aP (T.R.getD j []) mv):my a (v.map λp=>(p.1+Mx.aP T.c mv,Mx.bg p.2 1 mv)):=by
 let k:∀x,x.length=T.n->(a.fJ (Mx.bg x 1 mv)↔T.fJ x):=λx l=>by
  rw[mS,mS,o,B,FO () () (),C,A];show and_congr Iff.rfl ⟨λq j d=>?_,λq j d=>?_⟩
  . have:=q j d;rw[r j d,o9 ()]at this;lia
  rw[r j d,o9 (),q j d]
 let len:∀ {y},a.fJ y->y.length=T.n:=λ{y} s=>by
  rw[<-(Pl.nu s.box).1,o,Mx.fR ()];show n
 let b:∀ {y},T.fJ y->y.length=T.n:=λ{y} s=>by
  rw[<-(Pl.nu s.box).1];show n
 let bk:∀y,a.fJ y->∃x,x.length=T.n/\T.fJ x/\y=Mx.bg x 1 mv:=λy s=>by
  let w:=len s;let e:(Mx.bg y (-1) mv).length=T.n:=by rw[Mx.fR ()];show w
  let z:=Dr (y:=y) (m:=mv) ();show⟨Mx.bg y (-1) mv,e,(k _ e).mp (by rw[z];show s),z.symm⟩
 cases v with
 |none=>
  show λy s=>(bk y s).elim λx q=>h x q.2.1
 |some v=>
  obtain⟨c,x⟩:=v;obtain⟨u,g,f⟩:=h;let l:x.length=T.n:=b u;let g:c=Mx.aP T.c x:=g;let f:∀y,T.fJ y->Pl.ltB (Mx.aP T.c y,y) (c,x)=false:=f;show⟨(k x l).mpr u,show c+Mx.aP T.c mv=Mx.aP a.c (Mx.bg x 1 mv) by rw[t,o9 (),<-g],λy s=>?_⟩;obtain⟨z,E,q,rfl⟩:=bk y s;let:=f z q;rw[t,o9 ()];change Pl.ltB (Mx.aP T.c z+Mx.aP T.c mv,Mx.bg z 1 mv) (c+Mx.aP T.c mv,Mx.bg x 1 mv)=false;unfold Pl.ltB Pl.sG Pl.ltI at this⊢;dsimp only at this⊢;rw[DM () ()];by_cases e:Mx.aP T.c z=c
  . rw[XB e]at this;rw[XB (by rw[e])];show this
  rw[Xx e]at this;rw[Xx ()];let:=Zu this;show XW ()
def Jl{R:List (List Int)}{d x:List Int}{w k:Nat}(f:R.length=w)(ld:d.length=w)(hk:k<w):qJ (R++[R.getD k []]) (d++[d.getD k 0]) x (w+1)↔qJ R d x w:=by
 let c:∀j,j<w->(R++[R.getD k []]).getD j []=R.getD j []:=λj a=>by
  rw[XD,XA (),<-XD]
 let b:∀j,j<w->(d++[d.getD k 0]).getD j 0=d.getD j 0:=λj a=>by
  rw[XD,XA (),<-XD]
 show⟨λq j a=>?_,λq j a=>?_⟩
 . have:=q j ();rw[c j a,b j a]at this;show this
 by_cases z:j<w
 . rw[c j z,b j z];show q j z
 have e:j=w:=()
 subst e
 let h:(R++[R.getD k []]).getD j []=R.getD k []:=by
  rw[XD,Yi (),f,Zs];rfl
 let g:(d++[d.getD k 0]).getD j 0=d.getD k 0:=by
  rw[XD,Yi (),ld,Zs];rfl
 rw[h,g];show q k hk
def rY:cf:=λb st K=>∃(n:Nat) (q:Int) (T:Pl.Tk) (f:Bool),b=[.ref n,fW T]/\Hk st n q/\q<=400000000/\Oe T/\st[0]?=some (fP f)/\n≠0/\∀a,(∃f,a[0]?=some (fP f))->K (.bl true) a
def wR:List Str:=["_law_hand_here","_law_task_here","_law_costs","_law_rows_here","_law_due","_law_low","_law_high","_law_best","_law_told","_law_turned_here","_law_k","_law_many","_law_other","_law_due_best","_law_move"]
def Fu:DS:=(aw (GU (y0 2 3 4 5 6) (aa 1))
 (aw (aK 7 (dC .av))
 (aw (aK 8 (aA jj (ae (aa 2) (ae (aa 3) (ae (aa 4) (ae (aa 5) (ae (aa 6) ai)))))))
 (aw (cK (aQ (ak i8 (ak aN (aa 8) (dC (.int 0))) (dC (.str "told")))) (aK 7 (df (ae (ak aN (aa 8) (dC (.int 1))) (ae (ak aN (aa 8) (dC (.int 2))) ai)))) cF)
 (aw (cK (i3 (aQ (aA fK (ae (aa 8) (ae (aa 7) ai))))) (aX (dC (.bl false))) cF)
 (aw (aK 9 (aA qE (ae (aa 0) (ae (aa 3) (ae (aa 4) ai)))))
 (aw (cK (i3 (aQ (aA fK (ae (aA jj (ae (aa 2) (ae (ak aN (aa 9) (dC (.int 0))) (ae (ak aN (aa 9) (dC (.int 1))) (ae (aa 5) (ae (aa 6) ai)))))) (ae (aa 7) ai))))) (aX (dC (.bl false))) cF)
 (aw (aK 10 (aA cH (ae (aa 0) (ae (bS dO (ae (aa 3) ai)) ai))))
 (aw (cK (i3 (aQ (aA fK (ae (aA jj (ae (aa 2) (ae (ak cW (aa 3) (df (ae (ak aN (aa 3) (aa 10)) ai))) (ae (ak cW (aa 4) (df (ae (ak aN (aa 4) (aa 10)) ai))) (ae (aa 5) (ae (aa 6) ai)))))) (ae (aa 7) ai))))) (aX (dC (.bl false))) cF)
 (aw (aK 11 (ak jr (aA cH (ae (aa 0) (ae (dC (.int 7)) ai))) (dC (.int 3))))
 (aw (aK 12 (aA jC (ae (bS cY (ae (dW (fU (aa 2)) [none] (cM 0) cT (ak cP (dC (.int 2)) (aa 0))) ai)) (ae (ak aN (aa 3) (aa 10)) (ae (aa 11) ai)))))
 (aw (aK 13 (aa 7))
 (aw (cK (aQ (ak nP (aa 7) (dC .av))) (aK 13 (df (ae (ak cW (ak cP (dC (.int 2)) (ak aN (aa 7) (dC (.int 0)))) (ak cP (aa 11) (ak aN (aa 4) (aa 10)))) (ae (ak aN (aa 7) (dC (.int 1))) ai)))) cF)
 (aw (cK (i3 (aQ (aA fK (ae (aA jj (ae (aa 12) (ae (aa 3) (ae (aa 4) (ae (aa 5) (ae (aa 6) ai)))))) (ae (aa 13) ai))))) (aX (dC (.bl false))) cF)
 (aw (aK 14 (aA jm (ae (aa 0) (ae (bS dO (ae (aa 2) ai)) (ae (dC (.int 9)) ai)))))
 (aw (cK (aQ (ak nP (aa 7) (dC .av))) (aK 7 (df (ae (ak cW (ak aN (aa 7) (dC (.int 0))) (aA o6 (ae (aa 2) (ae (aa 14) ai)))) (ae (aA jC (ae (ak aN (aa 7) (dC (.int 1))) (ae (aa 14) (ae (dC (.int 1)) ai)))) ai)))) cF)
 (aw (aK 4 (bS cY (ae (dW (pB (ae (aa 4) (ae (aa 3) ai))) [none,none,some 14] (gN 0 1) cT (ak cW (aa 0) (aA o6 (ae (aa 1) (ae (aa 2) ai))))) ai)))
 (aw (aK 5 (aA jC (ae (aa 5) (ae (aa 14) (ae (dC (.int 1)) ai)))))
 (aw (aK 6 (aA jC (ae (aa 6) (ae (aa 14) (ae (dC (.int 1)) ai)))))
 (aX (aA fK (ae (aA jj (ae (aa 2) (ae (aa 3) (ae (aa 4) (ae (aa 5) (ae (aa 6) ai)))))) (ae (aa 7) ai)))))))))))))))))))))))
def Kp{T:Pl.Tk}(d:T.fJ x)(c:∀z,T.fJ z->Pl.ltB (Mx.aP T.c z,z) (Mx.aP T.c x,x)=false)(b:T.fJ y)(a:∀z,T.fJ z->Pl.ltB (Mx.aP T.c z,z) (Mx.aP T.c y,y)=false):x=y:=by
 let:=Pl.Pf.Fy _ _ (a x d) (c y b);show YK Prod.snd this
def Told(v:Option (Int×List Int))(d:D):Prop:=∀(K:DK) (st:ag),K (.bl true) st->fK [d,vD v] st K
def xS{T:Pl.Tk}(p:tV T B W){x:List Int}(s:T.fJ x):x.length<=1000:=by
 let:=(Pl.nu s.box).1;let:=p.ll;let:=p.n8;lia
def m9{o l n dl m:D}{st:ag}(r:K0 T o l n dl m)(p:tV T 32 4)(t:st[0]?=some (fP f))(k:my T v)(q:∀a d,Bk st a->Told v d->Q d a):jj [o,l,n,dl,m] st Q:=by
 show⟨o,l,n,dl,m,T,32,4,f,rfl,r,p,t,λnone a g e B=>q a _ B λA b h=>?_,λx a g e B s best=>q a _ B λA b h=>?_⟩
 . cases v with
   |none=>show⟨⟨g,e,.inl rfl⟩,h⟩
   |some v=>show absurd k.1 (none _)
 cases v with
 |none=>show absurd s (k x)
 |some v=>
  obtain⟨c,y⟩:=v;obtain⟨z,w,u⟩:=k;subst w;let:=Kp s best z u;subst this;show⟨⟨g,e,.inr ⟨_,x,xS p s,rfl⟩⟩,h⟩
def Bk.hk{st a:ag}(b:Bk st a)(h:Hk st n q)(c:n≠0):Hk a n q:=h.cell (b.fr n h.lt c)
def Oe.Wo(p:Oe T):tV T 32 4:=
 sL p.n1 p.n4 p.w1 (by let:=p.w3;lia) p.lc p.iR p.ld p.bs.ll p.bs.lh (λr e x a=>Xy (p.bR r e x a) ⋯) (λy d=>Xy (p.bd y d) ⋯) (λx a=>Xy (p.bc x a) ⋯) (λc b=>Xy (p.bs.bl c b) ⋯) (λc b=>Xy (p.bs.bh c b) ⋯) p.bs.sp
def P7{g:cC}{st:ag}{K:List D->ag->Prop}{h:Nat->D}(p:ok st)(xs:List D)(r:∀i d,xs[i]?=some d->∀q,q (h i) st->∃e,l d g=some e/\m e st q)(k:K ((List.range xs.length).map h) st):eB l cT m ok g xs [] st K:=by
 show gY (λrest b a=>st=a/\∃i,i+rest.length=xs.length/\rest=xs.drop i/\b=(List.range i).map h) ?_ ?_ _ _ _ ⟨rfl,0,by rw[Z5],rfl,rfl⟩
 . rintro b a ⟨rfl,i,f,_,rfl⟩;rw[Zf,abz]at f;subst f;show⟨p,k⟩
 rintro x rest b a ⟨rfl,i,f,c,rfl⟩ next
 rw[XT]at f;let o:i<xs.length:=()
 rw[X9 o]at c;injection c with e1 e2;let u:xs[i]?=some x:=by rw[XC o,e1]
 obtain⟨e,t,s⟩:=r i x u (λy n=>eB l cT m ok g rest (((List.range i).map h)++[y]) n K) (next _ _ ⟨rfl,i+1,by lia,e2,by rw[ZW,YR];rfl⟩);show⟨p,e,t,s⟩
def AX{st:ag}(c:Int)(x:List Int):live st (vD (some (c,x)))=true:=by
 first|rfl|(unfold vD;simp[live])
def DG:Xq rY 2 Fu wR:=by
 rintro ds st K ⟨n,q,T,f,rfl,B,hq,p,t0,L,k⟩;show⟨rfl,?_⟩;let n1:=p.n1;let n4:=p.n4;let Y:=p.w1;let w3:=p.w3;let lR:=p.iR.len;let W:=p.ld;let pp:=p.Wo;show dJ (λσ s=>σ=[some (.ref n),some (fW T),some (aj T.c),some (cw T.R),some (aj T.d),some (aj T.l),some (aj T.h),none,none,none,none,none,none,none,none]/\st=s) (λA o=>⟨_,rfl,o _ _ ⟨rfl,rfl⟩⟩) ?_;rintro σ s ⟨rfl,rfl⟩;show dJ (λσ s=>σ=[some (.ref n),some (fW T),some (aj T.c),some (cw T.R),some (aj T.d),some (aj T.l),some (aj T.h),some .av,none,none,none,none,none,none,none]/\st=s) (λA o=>o _ _ ⟨rfl,rfl⟩) ?_;rintro σ s ⟨rfl,rfl⟩;show dJ (λσ s=>∃v d,σ=[some (.ref n),some (fW T),some (aj T.c),some (cw T.R),some (aj T.d),some (aj T.l),some (aj T.h),some .av,some d,none,none,none,none,none,none]/\my T v/\Told v d/\Bk st s/\((v=none->∃t,d= .tup [.str "none",t])/\∀c x,v=some (c,x)->∃t,d= .tup [.str "told",.int c,aj x,t])) (λA o=>?_) ?_
 . show⟨_,_,_,_,_,T,32,4,f,rfl,⟨.inr rfl,.inr rfl,.inr rfl,.inr rfl,.inr rfl⟩,pp,t0,λno Z p1 p2 Q=>?_,λx Z p1 p2 Q s best=>?_⟩
   . show o _ _ ⟨none,_,rfl,no,λK' av kk=>⟨⟨p1,p2,.inl rfl⟩,kk⟩,Q,λ_=>⟨_,rfl⟩,λc x h=>by cases h⟩
   show o _ _ ⟨some (_,x),_,rfl,⟨s,rfl,best⟩,λK' av kk=>⟨⟨p1,p2,.inr ⟨_,x,xS pp s,rfl⟩⟩,kk⟩,Q,λh=>(by cases h),λc y h=>(by cases h;show⟨_,rfl⟩)⟩
 rintro σ Z ⟨v,d,rfl,X,td,Q,a0,az⟩;show dJ (λσ s=>σ=[some (.ref n),some (fW T),some (aj T.c),some (cw T.R),some (aj T.d),some (aj T.l),some (aj T.h),some (vD v),some d,none,none,none,none,none,none]/\Z=s) (λA o=>?_) ?_
 . cases v with
   |none=>
    obtain⟨t,rfl⟩:=a0 rfl;show aB rfl rfl ?_;show yG rfl rfl ?_;rw[show cO (.str "none") (.str "told")=false from by decide];show o _ _ ⟨rfl,rfl⟩
   |some v=>
    obtain⟨c,x⟩:=v;obtain⟨t,rfl⟩:=az c x rfl;show aB rfl rfl ?_;show yG rfl rfl ?_;rw[show cO (.str "told") (.str "told")=true from by decide];show aB rfl rfl (aB rfl rfl ?_);show⟨Xz rfl,o _ _ ⟨rfl,rfl⟩⟩
 rintro σ s ⟨rfl,rfl⟩;show dJ (λσ s=>σ=[some (.ref n),some (fW T),some (aj T.c),some (cw T.R),some (aj T.d),some (aj T.l),some (aj T.h),some (vD v),some d,none,none,none,none,none,none]/\Z=s) (λA o=>?_) ?_
 . dsimp only[cK,i3,aQ,aA,ae,ai];show bo rfl ?_;show bo rfl ?_;show td _ _ (o _ _ ⟨rfl,rfl⟩)
 rintro σ s ⟨rfl,rfl⟩;obtain⟨f1,t1⟩:=Q.tb;let H1:=Q.hk B L;show dJ (λσ s=>∃O E,σ=[some (.ref n),some (fW T),some (aj T.c),some (cw T.R),some (aj T.d),some (aj T.l),some (aj T.h),some (vD v),some d,some (.tup [cw O,aj E]),none,none,none,none,none]/\Jm O E T.w T.n 300/\(∀x,x.length=T.n->(qJ O E x T.w↔qJ T.R T.d x T.w))/\Hk s n (q+10)/\∃f,s[0]?=some (fP f)) (λA o=>?_) ?_
 . show⟨n,T.w,T.n,q,T.R,T.d,rfl,H1,by lia,⟨p.iR,W,p.bR,λy J=>Xy (p.bd y J) ⋯⟩,Y,by lia,by lia,λO E s2 P hs H2 f2=>o _ _ ⟨O,E,rfl,P,hs,H2,_,(f2 0 (Xs.mp t1).1 (XI L)).trans t1⟩⟩
 rintro σ s2 ⟨O,E,rfl,P,hs,H2,f2,t2⟩;show dJ (λσ s=>∃G,σ=[some (.ref n),some (fW T),some (aj T.c),some (cw T.R),some (aj T.d),some (aj T.l),some (aj T.h),some (vD v),some d,G,none,none,none,none,none]/\Bk s2 s) (λA o=>?_) ?_
 . dsimp only[cK,i3,aQ,aA,ae,ai];show bo rfl ?_;show aB rfl rfl ?_;show aB rfl rfl ?_;show bo rfl ?_;show bo rfl ?_;show m9 (T:={T with R:=O,d:=E}) ⟨.inr rfl,.inr rfl,.inr rfl,.inr rfl,.inr rfl⟩ (sL n1 n4 Y (by change T.w<=8;lia) p.lc P.iR P.ld p.bs.ll p.bs.lh (λr H x u=>Xy (P.bR r H x u) ⋯) (λy J=>Xy (P.bd y J) ⋯) (λx u=>Xy (p.bc x u) ⋯) (λc C=>Xy (p.bs.bl c C) ⋯) (λc C=>Xy (p.bs.bh c C) ⋯) p.bs.sp) t2 (my.same X rfl λx=>?_) λs3 d3 B3 ar=>?_
   . rw[mS,mS];show⟨λz=>⟨z.1,(hs x ?_).mp z.2⟩,λz=>⟨z.1,(hs x ?_).mpr z.2⟩⟩
     . rw[<-(Pl.nu z.1).1];show p.bs.ll
     rw[<-(Pl.nu z.1).1];show p.bs.ll
   show bo rfl ?_;show ar _ _ (o _ _ ⟨_,rfl,B3⟩)
 rintro σ s3 ⟨G,rfl,B3⟩;obtain⟨f3,t3⟩:=B3.tb;let H3:=B3.hk H2 L;show dJ (λσ s=>∃j:Nat,j<T.w/\σ=[some (.ref n),some (fW T),some (aj T.c),some (cw T.R),some (aj T.d),some (aj T.l),some (aj T.h),some (vD v),some d,G,some (.int (j:Int)),none,none,none,none]/\Hk s n (q+20)/\∃f,s[0]?=some (fP f)) (λA o=>?_) ?_
 . dsimp only[aK,aA,ae,ai,bS];show bo rfl ?_;show bo rfl ?_;show cJ rfl ?_;show⟨n,_,_,rfl,H3,by lia,by rw[Xr];lia,by rw[Xr];lia,λr s4 r0 r1 H4 U4=>?_⟩;rw[Xr]at r1;obtain⟨j,rfl⟩:∃j:Nat,r=(j:Int):=⟨r.toNat,by lia⟩
   show o _ _ ⟨j,by lia,rfl,H4.mono (),_,(U4.same 0 (XI L)).trans t3⟩
 rintro σ s4 ⟨j,hj,rfl,H4,f4,t4⟩;show dJ (λσ s=>σ=[some (.ref n),some (fW T),some (aj T.c),some (cw T.R),some (aj T.d),some (aj T.l),some (aj T.h),some (vD v),some d,G,some (.int (j:Int)),none,none,none,none]/\Bk s4 s) (λA o=>?_) ?_
 . dsimp only[cK,i3,aQ,aA,ae,ai,df,ak,dC];show bo rfl ?_;show bo rfl ?_;show bo rfl ?_;show bo rfl ?_;show aB rfl (AB ()) ?_;show⟨Xz rfl,?_⟩;show sr (cD (by rw[Xr,Z0];lia)) ?_;show bo rfl ?_;show bo rfl ?_;show bo rfl ?_;show aB rfl (mT ()) ?_;show⟨Xz rfl,?_⟩;show sr (cD (by rw[Xr,Z0];lia)) ?_;show bo rfl ?_;show bo rfl ?_
   let mR:∀r∈T.R++[T.R.getD j []],r∈T.R:=λr H=>by
    rcases Yn.mp H with z|z
    . show z
    rw[YE.mp z,Mx.aJ ()];show Yd _
   let md:∀y∈T.d++[T.d.getD j 0],y∈T.d:=λr H=>by
    rcases Yn.mp H with z|z
    . show z
    rw[YE.mp z,Mx.aJ ()];show Yd _
   show m9 (T:={T with R:=T.R++[T.R.getD j []],d:=T.d++[T.d.getD j 0],w:=T.w+1}) ⟨.inr rfl,.inr (YK D.tup AK),.inr (YK D.tup (show ao T.d++[.int (T.d.getD j 0)]=ao (T.d++[T.d.getD j 0]) by unfold ao;rw[YR];rfl)),.inr rfl,.inr rfl⟩ (sL n1 n4 (by change 1<=T.w+1;lia) (by change T.w+1<=8;lia) p.lc ⟨by change(T.R++[T.R.getD j []]).length=T.w+1;rw[YC,lR];rfl,λr H=>p.iR.jN r (mR r H)⟩ (by change(T.d++[T.d.getD j 0]).length=T.w+1;rw[YC,W];rfl) p.bs.ll p.bs.lh (λr H x u=>Xy (p.bR r (mR r H) x u) ⋯) (λy J=>Xy (p.bd y (md y J)) ⋯) (λx u=>Xy (p.bc x u) ⋯) (λc C=>Xy (p.bs.bl c C) ⋯) (λc C=>Xy (p.bs.bh c C) ⋯) p.bs.sp) t4 (my.same X rfl λx=>?_) λs5 d5 B5 aq=>?_
   . rw[mS,mS];show and_congr Iff.rfl (Jl lR W hj)
   show bo rfl ?_;show aq _ _ (o _ _ ⟨rfl,B5⟩)
 rintro σ s5 ⟨rfl,B5⟩;obtain⟨f5,t5⟩:=B5.tb;let H5:=B5.hk H4 L;show dJ (λσ s=>∃m:Int,m.natAbs<=3/\σ=[some (.ref n),some (fW T),some (aj T.c),some (cw T.R),some (aj T.d),some (aj T.l),some (aj T.h),some (vD v),some d,G,some (.int (j:Int)),some (.int m),none,none,none]/\Hk s n (q+30)/\∃f,s[0]?=some (fP f)) (λA o=>?_) ?_
 . dsimp only[aK,aA,ae,ai,bS,ak,dC];show bo rfl ?_;show⟨n,7,_,rfl,H5,by lia,by lia,by lia,λr U r0 r1 H6 U6=>?_⟩;show gX ?_;show o _ _ ⟨r-3,by lia,rfl,H6.mono (),_,(U6.same 0 (XI L)).trans t5⟩
 rintro σ U ⟨m,hm,rfl,H6,f6,t6⟩
 let a6:∀x∈T.R.getD j [],x.natAbs<=100:=by
  rw[Mx.aJ ()];show p.bR _ (Yd _)
 let N:(T.R.getD j []).length=T.n:=p.iR.row hj
 let bc:(T.d.getD j 0).natAbs<=10000:=by
  rw[Mx.aJ ()];show p.bd _ (Yd _)
 show dJ (λσ s=>σ=[some (.ref n),some (fW T),some (aj T.c),some (cw T.R),some (aj T.d),some (aj T.l),some (aj T.h),some (vD v),some d,G,some (.int (j:Int)),some (.int m),some (aj (Mx.bg (T.c.map λy=>2*y) m (T.R.getD j []))),none,none]/\U=s) (λA o=>?_) ?_
 . dsimp only[aK,aA,ae,ai,bS,ak,dC];show jV ⟨cD (by rw[Xr];let:=p.lc;lia),?_⟩;show comp_map (g:=λx=>match x with| .int a=> .int (2*a)|_=> .av) trivial _ (λx u K' t=>?_) ?_
   . obtain⟨a,I,rfl⟩:=X8.mp u;let:=p.bc a I;show⟨_,rfl,cR (dj () ()) t⟩
   let e:(T.c.map D.int).map (λx=>match x with| .int a=>D.int (2*a)|_=> .av)=ao (T.c.map λy=>2*y):=by unfold ao;rw[X6,X6];rfl
   show cL (YK some e) ?_;show bo rfl ?_;show bo rfl ?_;show aB rfl (AB ()) ?_;show bo rfl ?_;show⟨_,_,_,_,m,rfl,rfl,rfl,by rw[Xr];let:=p.lc;lia,by lia,o _ _ ⟨rfl,rfl⟩⟩
 rintro σ s ⟨rfl,rfl⟩;show dJ (λσ s=>σ=[some (.ref n),some (fW T),some (aj T.c),some (cw T.R),some (aj T.d),some (aj T.l),some (aj T.h),some (vD v),some d,G,some (.int (j:Int)),some (.int m),some (aj (Mx.bg (T.c.map λy=>2*y) m (T.R.getD j []))),some (vD v),none]/\U=s) (λA o=>?_) ?_
 . dsimp only[aK];show bo rfl ?_;show o _ _ ⟨rfl,rfl⟩
 rintro σ s ⟨rfl,rfl⟩;show dJ (λσ s=>σ=[some (.ref n),some (fW T),some (aj T.c),some (cw T.R),some (aj T.d),some (aj T.l),some (aj T.h),some (vD v),some d,G,some (.int (j:Int)),some (.int m),some (aj (Mx.bg (T.c.map λy=>2*y) m (T.R.getD j []))),some (vD (v.map λp=>(2*p.1+m*T.d.getD j 0,p.2))),none]/\U=s) (λA o=>?_) ?_
 . dsimp only[cK,aQ,ak,dC];show bo rfl ?_;cases v with
   |none=>
    show jO rfl ?_;show o _ _ ⟨rfl,rfl⟩
   |some v=>
    obtain⟨c,x⟩:=v;show jO (AX c x) ?_;rw[show Gz (vD (some (c,x)))=false from rfl];dsimp only;rw[XB (show(!false)=true from rfl)];dsimp only[aK,df,ae,ai,ak,dC];show bo rfl ?_;show aB rfl rfl ?_;show cR (dj () ()) ?_;show bo rfl ?_;show bo rfl ?_;show bo rfl ?_;show aB rfl (mT ()) ?_;show cR (dj () ()) ?_;show c_ ?_;show bo rfl ?_;show aB rfl rfl ?_;show⟨Xz rfl,o _ _ ⟨rfl,rfl⟩⟩
 rintro σ s ⟨rfl,rfl⟩;let sz:(Mx.bg (T.c.map λy=>2*y) m (T.R.getD j [])).length=T.n:=by rw[Mx.fR (by rw[Xr,p.lc,N]),Xr];show p.lc
 let bz:∀x∈Mx.bg (T.c.map λy=>2*y) m (T.R.getD j []),x.natAbs<=1000000:=λx u=>by
  obtain⟨i,M,rfl⟩:=List.getElem_of_mem u;let e:(Mx.bg (T.c.map λy=>2*y) m (T.R.getD j []))[i]=(Mx.bg (T.c.map λy=>2*y) m (T.R.getD j [])).getD i 0:=(Mx.aJ M).symm;rw[e,Mx.i_ (by rw[Xr,p.lc,N])]
  let h1:((T.c.map λy=>2*y).getD i 0).natAbs<=18:=iK λy J=>by
   obtain⟨a,I,rfl⟩:=X8.mp J;let:=p.bc a I;lia
  let h2:((T.R.getD j []).getD i 0).natAbs<=100:=iK a6;let h3:(m*(T.R.getD j []).getD i 0).natAbs<=3*100:=by rw[Yt];show Yj hm h2
  lia
 show dJ (λσ s=>∃F,σ=[some (.ref n),some (fW T),some (aj T.c),some (cw T.R),some (aj T.d),some (aj T.l),some (aj T.h),some (vD v),some d,G,some (.int (j:Int)),some (.int m),some (aj (Mx.bg (T.c.map λy=>2*y) m (T.R.getD j []))),F,none]/\Bk U s) (λA o=>?_) ?_
 . dsimp only[cK,i3,aQ,aA,ae,ai];show bo rfl ?_;show bo rfl ?_;show bo rfl ?_;show bo rfl ?_;show bo rfl ?_;show m9 (T:={T with c:=Mx.bg (T.c.map λy=>2*y) m (T.R.getD j [])}) ⟨.inr rfl,.inr rfl,.inr rfl,.inr rfl,.inr rfl⟩ (sL n1 n4 Y (by change T.w<=8;lia) sz p.iR W p.bs.ll p.bs.lh (λr H x u=>Xy (p.bR r H x u) ⋯) (λy J=>Xy (p.bd y J) ⋯) bz (λc C=>Xy (p.bs.bl c C) ⋯) (λc C=>Xy (p.bs.bh c C) ⋯) p.bs.sp) t6 (my.cost X (λx=>by rw[mS,mS]) (s:=m*T.d.getD j 0) λx sx=>?_) λs7 d7 B7 ah=>?_
   . have lx:x.length=T.n:=by rw[<-(Pl.nu sx.box).1];show p.bs.ll
     change Mx.aP (Mx.bg (T.c.map λy=>2*y) m (T.R.getD j [])) x=_;rw[Ar (by rw[Xr,p.lc,lx]) (by rw[N,lx]),Bs,sx.eqs j hj]
   show bo rfl ?_;show ah _ _ (o _ _ ⟨_,rfl,B7⟩)
 rintro σ s7 ⟨F,rfl,B7⟩;obtain⟨f7,t7⟩:=B7.tb;let H7:=B7.hk H6 L;show dJ (λσ s=>∃mv:List Int,mv.length=T.n/\(∀x∈mv,x.natAbs<=9)/\σ=[some (.ref n),some (fW T),some (aj T.c),some (cw T.R),some (aj T.d),some (aj T.l),some (aj T.h),some (vD v),some d,G,some (.int (j:Int)),some (.int m),some (aj (Mx.bg (T.c.map λy=>2*y) m (T.R.getD j []))),F,some (aj mv)]/\∃f,s[0]?=some (fP f)) (λA o=>?_) ?_
 . dsimp only[aK,aA,ae,ai,bS,ak,dC];show bo rfl ?_;show bo rfl ?_;show cJ rfl ?_;show⟨n,_,9,_,rfl,H7,by lia,by rw[Xr,p.lc];lia,by decide,λr S lr br H8 U8=>?_⟩;rw[Xr,p.lc]at lr;show o _ _ ⟨r,lr,br,rfl,_,(U8.same 0 (XI L)).trans t7⟩
 rintro σ S ⟨mv,lm,bm,rfl,f8,t8⟩
 let a7:(Mx.aP T.c mv).natAbs<=1000000:=by
  let:=vH p.bc bm;let:=p.lc;lia
 show dJ (λσ s=>σ=[some (.ref n),some (fW T),some (aj T.c),some (cw T.R),some (aj T.d),some (aj T.l),some (aj T.h),some (vD (v.map λp=>(p.1+Mx.aP T.c mv,Mx.bg p.2 1 mv))),some d,G,some (.int (j:Int)),some (.int m),some (aj (Mx.bg (T.c.map λy=>2*y) m (T.R.getD j []))),F,some (aj mv)]/\S=s) (λA o=>?_) ?_
 . dsimp only[cK,aQ,ak,dC];show bo rfl ?_;cases v with
   |none=>
    show jO rfl ?_;show o _ _ ⟨rfl,rfl⟩
   |some v=>
    obtain⟨c,x⟩:=v;show jO (AX c x) ?_;rw[show Gz (vD (some (c,x)))=false from rfl];dsimp only;rw[XB (show(!false)=true from rfl)];dsimp only[aK,df,ae,ai,ak,dC,aA];show bo rfl ?_;show aB rfl rfl ?_;show bo rfl ?_;show bo rfl ?_;show⟨_,_,T.c,mv,rfl,rfl,rfl,by let:=p.lc;lia,λa I b hb=>dj (by let:=p.bc a I;lia) (by let:=p.bc a I;lia),?_⟩;show c_ ?_;show bo rfl ?_;show aB rfl rfl ?_;show bo rfl ?_;show⟨_,_,x,mv,1,rfl,rfl,rfl,xS pp X.1,by decide,?_⟩;show⟨Xz rfl,o _ _ ⟨rfl,rfl⟩⟩
 rintro σ s ⟨rfl,rfl⟩;show dJ (λσ s=>∃E:List Int,E.length=T.w/\(∀y∈E,y.natAbs<=1000000)/\(∀i,i<T.w->E.getD i 0=T.d.getD i 0+Mx.aP (T.R.getD i []) mv)/\σ=[some (.ref n),some (fW T),some (aj T.c),some (cw T.R),some (aj E),some (aj T.l),some (aj T.h),some (vD (v.map λp=>(p.1+Mx.aP T.c mv,Mx.bg p.2 1 mv))),some d,G,some (.int (j:Int)),some (.int m),some (aj (Mx.bg (T.c.map λy=>2*y) m (T.R.getD j []))),F,some (aj mv)]/\S=s) (λA o=>?_) ?_
 . dsimp only[aK,bS,ae,ai];let lz:(fF (ao T.d) (T.R.map aj)).length=T.w:=by rw[gD,Xr,Xr];lia
   show lQ (xs:=ao T.d) (ys:=T.R.map aj) rfl rfl λok aO=>⟨cD (by rw[lz];lia),?_⟩
   show P7 (h:=λi=> .int (T.d.getD i 0+Mx.aP (T.R.getD i []) mv)) (aO _ rfl rfl) _ (λi e he K' t=>?_) ?_
   . obtain⟨a,b,I,hb,rfl⟩:=n6 he
     let M:i<T.w:=by
      by_cases z:i<T.w
      . show z
      rw[Zw ()]at he;cases he
     rw[XJ,XC ()]at I hb;cases I;cases hb;rw[show T.d.getD i 0=T.d[i]'()from Mx.aJ (),show T.R.getD i []=T.R[i]'()from Mx.aJ ()]at t;let hR:T.R[i]'()∈T.R:=Yd _;show⟨_,rfl,_,_,T.R[i]'(),mv,rfl,rfl,rfl,by rw[p.iR.jN _ hR];lia,λa I b hb=>dj (by let:=p.bR _ hR a I;lia) (by let:=p.bR _ hR a I;lia),c_ t⟩
   rw[lz];let e:(List.range T.w).map (λi=>D.int (T.d.getD i 0+Mx.aP (T.R.getD i []) mv))=ao ((List.range T.w).map λi=>T.d.getD i 0+Mx.aP (T.R.getD i []) mv):=by unfold ao;rw[X6];rfl
   rw[e];show cL rfl ?_;show o _ _ ⟨_,by rw[Xr,ZZ],λy J=>?_,λi M=>?_,rfl,rfl⟩
   . obtain⟨i,M,rfl⟩:=X8.mp J;let M:=YW.mp M;let h1:(T.d.getD i 0).natAbs<=10000:=iK p.bd
     let h2:(Mx.aP (T.R.getD i []) mv).natAbs<=(T.R.getD i []).length*(100*9):=vH (λx u=>by
      rw[Mx.aJ ()]at u;show p.bR _ (Yd _) x u) bm
     rw[p.iR.row M]at h2;lia
   rw[XD,XJ,ZO M];rfl
 rintro σ s ⟨E,a3,a5,a4,rfl,rfl⟩;show dJ (λσ s=>σ=[some (.ref n),some (fW T),some (aj T.c),some (cw T.R),some (aj E),some (aj (Mx.bg T.l 1 mv)),some (aj T.h),some (vD (v.map λp=>(p.1+Mx.aP T.c mv,Mx.bg p.2 1 mv))),some d,G,some (.int (j:Int)),some (.int m),some (aj (Mx.bg (T.c.map λy=>2*y) m (T.R.getD j []))),F,some (aj mv)]/\S=s) (λA o=>?_) ?_
 . dsimp only[aK,aA,ae,ai,bS,ak,dC];show bo rfl ?_;show bo rfl ?_;show⟨_,_,T.l,mv,1,rfl,rfl,rfl,by let:=p.bs.ll;lia,by decide,o _ _ ⟨rfl,rfl⟩⟩
 rintro σ s ⟨rfl,rfl⟩;show dJ (λσ s=>σ=[some (.ref n),some (fW T),some (aj T.c),some (cw T.R),some (aj E),some (aj (Mx.bg T.l 1 mv)),some (aj (Mx.bg T.h 1 mv)),some (vD (v.map λp=>(p.1+Mx.aP T.c mv,Mx.bg p.2 1 mv))),some d,G,some (.int (j:Int)),some (.int m),some (aj (Mx.bg (T.c.map λy=>2*y) m (T.R.getD j []))),F,some (aj mv)]/\S=s) (λA o=>?_) ?_
 . dsimp only[aK,aA,ae,ai,bS,ak,dC];show bo rfl ?_;show bo rfl ?_;show⟨_,_,T.h,mv,1,rfl,rfl,rfl,by let:=p.bs.lh;lia,by decide,o _ _ ⟨rfl,rfl⟩⟩
 rintro σ s ⟨rfl,rfl⟩;dsimp only[aX,aA,ae,ai];let ll:=p.bs.ll;let lh:=p.bs.lh;let V:∀i,(mv.getD i 0).natAbs<=9:=λi=>iK bm;show bo rfl ?_;show bo rfl ?_;show bo rfl ?_;show bo rfl ?_;show bo rfl ?_;show m9 (T:={T with d:=E,l:=Mx.bg T.l 1 mv,h:=Mx.bg T.h 1 mv}) ⟨.inr rfl,.inr rfl,.inr rfl,.inr rfl,.inr rfl⟩ (sL n1 n4 Y (by change T.w<=8;lia) p.lc p.iR a3 (by change(Mx.bg T.l 1 mv).length=T.n;rw[Mx.fR ()];show ll) (by change(Mx.bg T.h 1 mv).length=T.n;rw[Mx.fR ()];show lh) (λr H x u=>Xy (p.bR r H x u) ⋯) a5 (λx u=>Xy (p.bc x u) ⋯) (λc C=>by change((Mx.bg T.l 1 mv).getD c 0).natAbs<=32;rw[Mx.i_ ()];let:=p.bs.bl c C;let:=V c;lia) (λc C=>by change((Mx.bg T.h 1 mv).getD c 0).natAbs<=32;rw[Mx.i_ ()];let:=p.bs.bh c C;let:=V c;lia) λc C=>by change(Mx.bg T.h 1 mv).getD c 0-(Mx.bg T.l 1 mv).getD c 0<=4;rw[Mx.i_ (),Mx.i_ ()];let:=p.bs.sp c C;lia) t8 (my.move X lm ll lh W lR rfl rfl rfl rfl rfl a4) λs9 bb B9 ab=>?_;show bo rfl ?_;show ab _ _ (k _ B9.tb)
abbrev NF:cf:=Js TB
def Ot:List Str:=["_law_script","_law_k","_law_hand_here","_law_wide"]
def TN:DS:=(aw (j5 (gO (ae (ak cW (dC (.int 1)) (bS AG (ae (dC (.int 1)) (ae (bS dO (ae (aa 0) ai)) ai)))) ai)) (cM 1) (aw (aK 2 (aA tD (ae (aa 0) (ae (aa 1) ai))))
 (aw (aK 3 (ak cW (dC (.int 1)) (aA cH (ae (aa 2) (ae (dC (.int 4)) ai)))))
 (cK (i3 (aQ (aA rY (ae (aa 2) (ae (aA tT (ae (aa 2) (ae (aa 3) (ae (ak cW (dC (.int 1)) (aA cH (ae (aa 2) (ae (dC (.int 3)) ai)))) (ae (dC (.int 5)) ai))))) ai))))) (aX (dC (.bl false))) cF))))
 (aX (dC (.bl true))))
def RG:Xq NF 1 TN Ot:=by
 rintro ds st K ⟨a,rfl,Y,c,k⟩;show⟨rfl,?_⟩;let z:st[0]?=some (fP false):=by rw[c];rfl
 clear c;show cJ rfl (Lp (c_ ?_));let H:0<=1+(if((a.map D.int).length:Int)<1 then((a.map D.int).length:Int)else 1)/\1+(if((a.map D.int).length:Int)<1 then((a.map D.int).length:Int)else 1)<=2:=by split<;>lia
 generalize 1+(if((a.map D.int).length:Int)<1 then((a.map D.int).length:Int)else 1)=m at H⊢;obtain⟨m,rfl⟩:∃E:Nat,m=(E:Int):=⟨m.toNat,by lia⟩
 show jT ⟨by lia,by lia⟩ ?_;rw[Yb];show kq m (λj σ s=>(∃g e d:Option D,σ=[some (.lst (a.map .int)),g,e,d])/\∃f,s[0]?=some (fP f)) ?_ ?_ ⟨⟨none,none,none,rfl⟩,_,z⟩
 . rintro σ s ⟨⟨g,e,d,rfl⟩,_⟩;show k s
 rintro j σ s rest Z ⟨⟨g,e,d,rfl⟩,f,t⟩ next
 show⟨_,rfl,?_⟩;show⟨a,j,rfl,by lia,by lia,λU q J=>?_⟩;let F:=(Xs.mp t).1;let y:=(J.same 0 F).trans t;let b:s.length≠0:=()
 generalize s.length=n at q b⊢;show⟨n,4,0,rfl,q,by decide,by decide,by decide,λr S W V O M=>c_ ?_⟩;obtain⟨w,G⟩:∃w:Nat,1+r=(w:Int):=⟨(1+r).toNat,by lia⟩
 rw[G];let x:=(M.same 0 (XI b)).trans y;show⟨n,3,_,rfl,O,by lia,by decide,by decide,λo R B A B3 L=>c_ ?_⟩;obtain⟨C,h⟩:∃w:Nat,1+o=(w:Int):=⟨(1+o).toNat,by lia⟩
 rw[h];let l:=(L.same 0 (XI b)).trans x;show⟨n,w,C,_,rfl,B3,by lia,by lia,by lia,by lia,by lia,λT Q p X N I=>?_⟩;let v:=(I 0 (Xs.mp l).1 (XI b)).trans l;show⟨n,_,T,f,rfl,N,by lia,p,v,b,λP u=>next _ _ ⟨⟨_,_,_,rfl⟩,u⟩⟩
end Prog
namespace Row
open PySem L2 L3 Prog
open PySem.Spec hiding items?
open PyProof.Rows hiding St
def Df:(("abs":Str))≠"__name__":=by decide+kernel
def gB:(("tuple":Str))≠"__name__":=by decide+kernel
def yS:(("sum":Str))≠"__name__":=by decide+kernel
def mP:(("list":Str))≠"__name__":=by decide+kernel
def fh:(("len":Str))≠"__name__":=by decide+kernel
def EH:(("min":Str))≠"__name__":=by decide+kernel
def De:(("max":Str))≠"__name__":=by decide+kernel
def za:(("int":Str))≠"__name__":=by decide+kernel
def t_:(("isinstance":Str))≠"__name__":=by decide+kernel
def GD:(("bool":Str))≠"__name__":=by decide+kernel
def IW:(("all":Str))≠"__name__":=by decide+kernel
structure Bl(mg:Str->Option Value):Prop where
 HP:mg "abs"=none
 iw:mg "tuple"=none
 vN:mg "zip"=none
 lg:mg "range"=none
 Cw:mg "sum"=none
 wZ:mg "enumerate"=none
 o5:mg "list"=none
 fY:mg "len"=none
 M8:mg "sorted"=none
 HS:mg "min"=none
 Ij:mg "max"=none
 Cn:mg "int"=none
 vz:mg "isinstance"=none
 Kh:mg "bool"=none
 Oa:mg "all"=none
structure Kl(K:PySem.W.Frag)(mg:Str->Option Value):Prop where
 bN:ClsAt K mg "Bench" aI
 gw:ClsAt K mg "Layer" dF
 cz:ClsAt K mg "Task" aU
 dH:ClsAt K mg "Waiting" b9
 dM:ClsAt K mg "Grower" bV
 cS:dE K aI "body"
 fH:dE K aI "turn"
 c9:dE K aI "back_columns"
 pJ:dE K aU "low"
 oz:dE K aU "high"
 ui:dE K dF "place"
 sW:dE K aU "due"
 lV:dE K aU "rows"
 uS:dE K dF "lows"
 ud:dE K dF "highs"
 nK:dE K aU "costs"
 pE:dE K dF "open_cost"
 qB:dE K aU "steps"
 ma:dE K aU "layers"
 eK:dE K b9 "heap"
 il:dE K bV "task"
 jM:dE K bV "plan"
 kZ:dE K bV "told_cost"
def Mo:VF xM EJ ["one","other"] ["abs"]:= .of ∅
def fI:VF C_ Lo ["top","bottom"] ["common"]:= .of ∅
def QN:VF Dh LJ ["one","other"] ["part"]:= .of ∅
def PU:VF AH F9 ["one","other"] ["part"]:= .of ∅
def O8:VF Al FY ["one","other"] ["part"]:= .of ∅
def SX:VF D0 Kt ["one","other"] ["part"]:= .of ∅
def Ox:VF AA Fx ["n"] []:= .of ∅
def K4:VF uW AO ["rows"] ["tuple"]:= .of ∅
def Qg:VF zE FF ["row","times","other"] ["zip"]:= .of ∅
def Mg:VF xk EL ["weights","rows","wide"] ["zip","added","tuple"]:= .of ∅
def Nq:VF xG CF ["rows","place"] ["tuple"]:= .of ∅
def BN:VF pq t9 ["rows","wide"] ["range","tuple"]:= .of ∅
def Hv:VF tH yO ["n","place"] ["range","tuple"]:= .of ∅
def Fl:VF rT wI ["n"] ["range","tuple"]:= .of ∅
def T_:VF HG Oq ["one","other"] ["zip","sum"]:= .of ∅
def K8:VF vC Bz ["row"] ["enumerate"]:= .of ∅
def fv:VF kl oM ["top","bottom"] []:= .of ∅
def E4:VF rX wK ["rows","k","other"] ["list"]:= .of ∅
def JL:VF uH A9 ["row"] []:= .of ∅
def cx:VF eG mz ["self","rows"] ["len","unit_rows"]:= .of ∅
def bH:VF kX qH ["self","k","times","other"] ["added"]:= .of ∅
def bT:VF hO mM ["self","k","other"] ["exchanged"]:= .of ∅
def aY:VF fO ka ["self","k"] ["negated"]:= .of ∅
def dm:VF eV lJ ["self","top","place"] ["len","range","sorted"]:= .of ∅
def aC:VF je oh ["self","top","place"] ["len","nearest_quotient"]:= .of ∅
def bZ:VF fN j0 ["self","top","place"] ["range"]:= .of ∅
def aZ:VF sV yH ["rows"] ["Bench","len","range","turned_over","as_rows"]:= .of ∅
def bG:VF vF A4 ["form","row"] ["list","lead_of","added","tuple"]:= .of ∅
def Qi:VF zH FH ["form","row"] ["weighed"]:= .of ∅
def Fj:VF rK wO ["parts","row"] ["whole","zip","times","plus"]:= .of ∅
def E5:VF rP w9 ["form","rest","place"] ["lead_of","abs"]:= .of ∅
def au:VF nE rB ["form","rest"] ["lead_of","whole","len","bottom_at","part","range","parts_dot","minus","over","tuple"]:= .of ∅
def zD:VF ox sv ["turn","many"] ["len","standing"]:= .of ∅
def LH:VF u5 Ba ["rows","due"] ["len","turned_over","standing","weighed","lead_of","parts_against","steps_behind","sum_by","falls"]:= .of ∅
def iM:VF oC wW ["numbers","low","high"] ["zip","sum"]:= .of ∅
def jD:VF pM yz ["numbers","low","high"] ["zip","sum"]:= .of ∅
def aS:VF fo mx ["self","task","place"] ["zip","least_sum"]:= .of ∅
def bL:VF gn ni ["self","costs","rows","due","low","high","steps"] ["len","Layer"]:= .of ∅
def jQ:VF jI pA ["self","taken"] ["len"]:= .of ∅
def i6:VF ku qd ["self","taken","row"] ["tuple"]:= .of ∅
def eY:VF gG lE ["self","place","row"] []:= .of ∅
def cE:VF gQ mI ["self","k","taken","fixed"] ["dot"]:= .of ∅
def eU:VF gJ lI ["self","taken","fixed"] ["dot"]:= .of ∅
def b_:VF gT mD ["self","taken","fixed","cost","plan"] ["len","tuple"]:= .of ∅
def oK:VF f_ kC ["self"] []:= .of ∅
def iB:VF gg kP ["self"] ["len"]:= .of ∅
def bK:VF jK pj ["self","thing"] ["len"]:= .of ∅
def aT:VF fi iL ["self","place"] ["len"]:= .of ∅
def aW:VF jc oo ["self","thing"] []:= .of ∅
def bJ:VF fC jF ["self"] ["len"]:= .of ∅
def aD:VF jq qG ["task","taken","row"] ["lead_of","range"]:= .of ∅
def a_:VF n5 su ["task","taken","row"] ["len","range"]:= .of ∅
def cy:VF pw ug ["waiting","task","taken","row"] ["node_against"]:= .of ∅
def ba:VF rS wL ["task","answer"] ["Waiting","put_if_open","first_and_rows"]:= .of ∅
def cX:VF gH lH ["self","task","plan"] ["dot"]:= .of ∅
def dA:VF gf kJ ["self","taken","row"] []:= .of ∅
def bE:VF gz o_ ["self","taken","row"] ["node_against","first_and_rows","tuple"]:= .of ∅
def bD:VF vm AM ["costs","rows","due","low","high"] ["answers","Task","best_plan","Grower"]:= .of ∅
def MJ:VF xo DU ["_law_script","_law_k"] ["len"]:= .of ∅
def GV:VF tu zo ["_law_script","_law_k"] ["_law_at","int"]:= .of ∅
def Iv:VF tE yF ["_law_hand_here","_law_many"] []:= .of ∅
def J8:VF vk Bv ["_law_one","_law_other"] ["zip","sum"]:= .of ∅
def Kj:VF vn Bu ["_law_hand_here","_law_wide","_law_size"] ["range","tuple"]:= .of ∅
def GS:VF tG yK ["_law_hand_here","_law_wide","_law_many"] ["range","_law_take","tuple","_law_row"]:= .of ∅
def Lg:VF uU Bq ["_law_hand_here","_law_wide","_law_span"] ["_law_row","tuple","_law_take"]:= .of ∅
def E3:VF r9 wV ["_law_hand_here","_law_low","_law_high"] ["zip","max","_law_take"]:= .of ∅
def aH:VF pL zy ["_law_hand_here","_law_wide","_law_many","_law_span"] ["_law_rows","_law_box","_law_inner","_law_take","_law_row","tuple"]:= .of ∅
def yL:VF nR qT ["_law_found"] ["int","isinstance","bool"]:= .of ∅
def Ey:VF p9 uI ["_law_found","_law_due"] ["tuple","isinstance","len","zip","all"]:= .of ∅
def BH:VF pd uc ["_law_told","_law_best"] ["tuple","isinstance","len","_law_is_number","_law_is_row"]:= .of ∅
def IA:VF tZ yC ["_law_one","_law_other","_law_many"] ["zip","tuple"]:= .of ∅
def Ej:VF qo uL ["_law_hand_here","_law_rows_here","_law_due"] ["list","len","_law_take","_law_plus","tuple"]:= .of ∅
def Fi:VF rV wR ["_law_hand_here","_law_task_here"] ["planned","_law_is_best","_law_turned","len","_law_take","tuple","_law_plus","_law_row","_law_dot","zip"]:= .of ∅
def Uj:VF yi Ot ["_law_script"] ["len","min","range","_law_hand","_law_take","_law_task","_law_right"]:= .of ∅
structure Ev(w:World)(mg:Str->Option Value)(h:Heap):Prop where
 X:(KX w.params).In h
 G:h.Ns mainGlobals mg
section
variable {w:World}{mg:Str->Option Value}{h:Heap}(base:Heap)(e:Ev w mg h)
include e
set_option hygiene false
local macro_rules| `(tactic|nofun)=> `(tactic|repeat' first
 |(change JA _ _ _;first|show ax|show af ?_ ?_)
 |(change JE (d8 _ _ _ _ _ _ _) _ _;first|show fG|show bY|show cn ?_ ?_|first|show ck c1.1 c1.2 (hr.mono ⋯) ?_ ∅ rfl|show ck c2.1 c2.2 (hr.mono ⋯) ?_ ∅ rfl|show ck c3.1 c3.2 (hr.mono ⋯) ?_ ∅ rfl|show ck c4.1 c4.2 (hr.mono ⋯) ?_ ∅ rfl|show ck c5.1 c5.2 (hr.mono ⋯) ?_ ∅ rfl|show ck c6.1 c6.2 (hr.mono ⋯) ?_ ∅ rfl|show ck c7.1 c7.2 (hr.mono ⋯) ?_ ∅ rfl|show ck c8.1 c8.2 (hr.mono ⋯) ?_ ∅ rfl|show dZ Hu ?_ B.HP rfl Df ∅ rfl|show j6 jU ?_ B.iw rfl gB ∅ rfl|show dZ (Ci rfl) ?_ B.Cw rfl yS ∅ rfl|show j6 Gp ?_ B.o5 rfl mP ∅ rfl|show dZ fV ?_ B.fY rfl fh ∅ rfl|show dZ (IE rfl) ?_ B.HS rfl EH ∅ rfl|show dZ (Hq rfl) ?_ B.Ij rfl De ∅ rfl|show j6 NA ?_ B.Cn rfl za ∅ rfl|show dZ NG ?_ B.vz rfl t_ ∅ rfl|show dZ (NR rfl) ?_ B.Oa rfl IW ∅ rfl|show qU ?_ ?_|show Oh ?_|show dS (by first|show mj|show uF|show NN|show pR|show Ov|show nG) ?_ ?_|show sT (by first|show tJ hr|show zC|show tx|show zU|show sD|show tL|show tM|show HQ|show IJ hr) (di _) ?_ ?_|show gj ?_|show Cf ?_|show CC ?_|show jW ?_ ?_ ?_|show nQ ?_|show IG ?_ ?_ ?_|show He ?_ ?_|show B8 ?_|show CA ?_|show Ex|show mh|show nk|show j_compC ∅ ?_ ?_ ?_ ?_ ?_|show uG B.iw rfl gB ∅ rfl|show uG B.o5 rfl mP ∅ rfl|show uG B.Cn rfl za ∅ rfl|show uG B.Kh rfl GD ∅ rfl)
 |(change JE _ _ _;first|show v.nm _|show bY|show cn ?_ ?_|first|show ck c1.1 c1.2 (hr.mono ⋯) ?_ ∅ v.gM|show ck c2.1 c2.2 (hr.mono ⋯) ?_ ∅ v.gM|show ck c3.1 c3.2 (hr.mono ⋯) ?_ ∅ v.gM|show ck c4.1 c4.2 (hr.mono ⋯) ?_ ∅ v.gM|show ck c5.1 c5.2 (hr.mono ⋯) ?_ ∅ v.gM|show ck c6.1 c6.2 (hr.mono ⋯) ?_ ∅ v.gM|show ck c7.1 c7.2 (hr.mono ⋯) ?_ ∅ v.gM|show ck c8.1 c8.2 (hr.mono ⋯) ?_ ∅ v.gM|show dZ Hu ?_ B.HP rfl Df ∅ v.gM|show j6 jU ?_ B.iw rfl gB ∅ v.gM|show dZ (Ci rfl) ?_ B.Cw rfl yS ∅ v.gM|show j6 Gp ?_ B.o5 rfl mP ∅ v.gM|show dZ fV ?_ B.fY rfl fh ∅ v.gM|show dZ (IE rfl) ?_ B.HS rfl EH ∅ v.gM|show dZ (Hq rfl) ?_ B.Ij rfl De ∅ v.gM|show j6 NA ?_ B.Cn rfl za ∅ v.gM|show dZ NG ?_ B.vz rfl t_ ∅ v.gM|show dZ (NR rfl) ?_ B.Oa rfl IW ∅ v.gM|show qU ?_ ?_|show Oh ?_|show dS (by first|show mj|show uF|show NN|show pR|show Ov|show nG) ?_ ?_|show sT (by first|show tJ hr|show zC|show tx|show zU|show sD|show tL|show tM|show HQ|show IJ hr) (di _) ?_ ?_|show gj ?_|show Cf ?_|show CC ?_|show jW ?_ ?_ ?_|show nQ ?_|show IG ?_ ?_ ?_|show He ?_ ?_|show B8 ?_|show CA ?_|show Ex|show mh|show nk|show OT v ∅ ?_ ?_ ?_ ?_ ?_|show uG B.iw rfl gB ∅ v.gM|show uG B.o5 rfl mP ∅ v.gM|show uG B.Cn rfl za ∅ v.gM|show uG B.Kh rfl GD ∅ v.gM)
 |(change JB _ _ _;first|show ay ?_ ?_|show aV ?_|show fw)
 |(change JS _ _ _;first|show bQ nd v.lM ?_|show gm ?_ ?_ ?_|show cG ?_|show oZ ?_ ?_ ?_|show qD ?_ ?_|show iq ?_|show fQ ?_ ?_ ?_|show Rz nd ⋯ v.loc v.loc ?_|show Kw ?_ ?_)
 |(change JT _ _ _;first|show eP (by first|show tJ hr|show zC|show tx|show zU|show sD|show tL|show tM|show HQ|show IJ hr) (di _) ?_ ?_|(change JT _ (.BoolOp _ _ _) _;show Ck ?_)|show K2 ?_|show M9 (by first|show tL|show tM|show zC|show tx) (by first|show tL|show tM|show zC|show tx) ?_ ?_ ?_|show oH ?_)
 |(change JW _ _ _;first|show UX ?_ ?_|show QT ?_|show zh ?_ ?_|show v8 ?_)
 |(change JI (d8 _ _ _ _ _ _ _) _ _ _;first|show ow rfl B.lg ?_|show Cs rfl B.vN ?_|show KC rfl B.wZ ?_|show oE ?_)
 |(change JI _ _ _ _;first|show ow v.gM B.lg ?_|show Cs v.gM B.vN ?_|show KC v.gM B.wZ ?_|show oE ?_)
 |(change JG (d8 _ _ _ _ _ _ _) _ _;first|show Vn|show Tu)
 |(change JG _ _ _;first|show kU nd v.lM (by first|show .inr v.loc|show .inl rfl)|show yW rfl nd v.lM (by first|show .inr v.loc|show .inl rfl) v.lM (by first|show .inr v.loc|show .inl rfl)|show UR rfl nd v.lM (by first|show .inr v.loc|show .inl rfl) v.lM (by first|show .inr v.loc|show .inl rfl) v.lM (by first|show .inr v.loc|show .inl rfl) v.lM (by first|show .inr v.loc|show .inl rfl) v.lM (by first|show .inr v.loc|show .inl rfl))
 |(change JO _ _ _;first|show k9|show k8 ?_)
 |(change JC _ _ _;show ir)
 |show jx
 |show Au
 |intro _ _ _ _)
def Fk(w:World)(mg:Str->Option Value)(base:Heap)(n:Str)(s:Stmt)(ps:List Str)(a:Addr)(m:Value)(c:Addr)(k:Nat)(S:cf):Prop:=oB (KX w.params) mg n n s ps a (Hd.fd s n n m c)/\cV PW w (KX w.params) mg base eN k a (Hd.fd s n n m c) ps (fm S)
omit e in
theorem fk{N gl ps:List Str}{k:Nat}{S:cf}{base:Heap}(d:oB (KX w.params) mg n n s ps a (Hd.fd s n n m c))(v:VF s N ps gl)(g:VS (bO s) N gl->N.Nodup->∀(cdv:Value) (A:Around) (outer:List Env) (z:Shared) (H:Hp) (E:XK),dv k (A.deeper (envOfC n (bO s) z.heap.objs.size a cdv))->JB (rQ eN PW w (KX w.params) mg base N n (bO s) a cdv A outer z H E).wG (iu s) t)(q:∀ds st K,S ds st K->ds.length=ps.length/\t {nx:=λ_ st2=>K .av st2,rt:=K} (aL N ds) st):Fk w mg base n s ps a m c (k+1) S:=⟨d,fy d.fn v.sc (g v.v v.sc.nd) q⟩
local macro_rules| `(tactic|ac_rfl)=> `(tactic|first|show Hd.Xg e.X e.G (by kernel_rfl) λ_ _ _ _ _ _ _=>rfl|show Hd.WW e.X e.G (by kernel_rfl) λ_ _ _ _ _ _ _ _=>rfl|show Hd.WY e.X e.G (by kernel_rfl) λ_ _ _ _ _ _ _ _ _=>rfl|show Hd.WZ e.X e.G (by kernel_rfl) λ_ _ _ _ _ _ _ _ _ _ _=>rfl|show Hd.Xm e.X e.G (by kernel_rfl) λ_ _ _ _ _ _ _ _ _ _=>rfl)
theorem Bt:Bl mg:=⟨Yq e.X e.G (by kernel_rfl),Yq e.X e.G (by kernel_rfl),Yq e.X e.G (by kernel_rfl),Yq e.X e.G (by kernel_rfl),Yq e.X e.G (by kernel_rfl),Yq e.X e.G (by kernel_rfl),Yq e.X e.G (by kernel_rfl),Yq e.X e.G (by kernel_rfl),Yq e.X e.G (by kernel_rfl),Yq e.X e.G (by kernel_rfl),Yq e.X e.G (by kernel_rfl),Yq e.X e.G (by kernel_rfl),Yq e.X e.G (by kernel_rfl),Yq e.X e.G (by kernel_rfl),Yq e.X e.G (by kernel_rfl)⟩
theorem Qt:Kl (KX w.params) mg:=⟨⟨⟨by kernel_rfl,by kernel_rfl,by kernel_rfl,by kernel_rfl⟩,aaf e.X e.G (by kernel_rfl),by kernel_rfl,by kernel_rfl⟩,⟨⟨by kernel_rfl,by kernel_rfl,by kernel_rfl,by kernel_rfl⟩,aaf e.X e.G (by kernel_rfl),by kernel_rfl,by kernel_rfl⟩,⟨⟨by kernel_rfl,by kernel_rfl,by kernel_rfl,by kernel_rfl⟩,aaf e.X e.G (by kernel_rfl),by kernel_rfl,by kernel_rfl⟩,⟨⟨by kernel_rfl,by kernel_rfl,by kernel_rfl,by kernel_rfl⟩,aaf e.X e.G (by kernel_rfl),by kernel_rfl,by kernel_rfl⟩,⟨⟨by kernel_rfl,by kernel_rfl,by kernel_rfl,by kernel_rfl⟩,aaf e.X e.G (by kernel_rfl),by kernel_rfl,by kernel_rfl⟩,Hd.na (by kernel_rfl),Hd.na (by kernel_rfl),Hd.na (by kernel_rfl),Hd.na (by kernel_rfl),Hd.na (by kernel_rfl),Hd.na (by kernel_rfl),Hd.na (by kernel_rfl),Hd.na (by kernel_rfl),Hd.na (by kernel_rfl),Hd.na (by kernel_rfl),Hd.na (by kernel_rfl),Hd.na (by kernel_rfl),Hd.na (by kernel_rfl),Hd.na (by kernel_rfl),Hd.na (by kernel_rfl),Hd.na (by kernel_rfl),Hd.na (by kernel_rfl),Hd.na (by kernel_rfl)⟩
theorem Nr:Fk w mg base "common" xM ["one","other"] 21 rq 20 1 xl:=by
 let B:=Bt e;show fk (by ac_rfl) Mo (λv nd _ _ _ _ _ _ hr=>by nofun) IX
theorem u7:Fk w mg base "part" C_ ["top","bottom"] 28 rq 27 2 qv:=by
 let c1:=Nr base e
 show fk (by ac_rfl) fI (λv nd cdv A outer s H E hr=>(ay (bQ fI.sc.nd (fI.v.l 2) (ck c1.1 c1.2 (hr.mono ⋯) (af (fI.v.nm 0) (af (fI.v.nm 1) ax)) (fI.v.d 0) (fI.v.g 0)))
  (ay (gm (eP tM (di _) (fI.v.nm 1) bY) (aV (bQ fI.sc.nd (fI.v.l 2) (nQ (fI.v.nm 2)))) fw)
  (aV (cG (gj (af (dS (oi hr rfl fI.sc.gen fI.sc.co) (fI.v.nm 0) (fI.v.nm 2)) (af (dS (oi hr rfl fI.sc.gen fI.sc.co) (fI.v.nm 1) (fI.v.nm 2)) ax)))))))) PF
theorem S9:Fk w mg base "plus" Dh ["one","other"] 35 rq 34 3 Dm:=by
 let c1:=u7 base e;let B:=Bt e;show fk (by ac_rfl) QN (λv nd _ _ _ _ _ _ hr=>by nofun) O5
theorem PM:Fk w mg base "minus" AH ["one","other"] 42 rq 41 3 zZ:=by
 let c1:=u7 base e;let B:=Bt e;show fk (by ac_rfl) PU (λv nd _ _ _ _ _ _ hr=>by nofun) LZ
theorem Qv:Fk w mg base "times" Al ["one","other"] 49 rq 48 3 zR:=by
 let c1:=u7 base e;let B:=Bt e;show fk (by ac_rfl) O8 (λv nd _ _ _ _ _ _ hr=>by nofun) MH
theorem Sw:Fk w mg base "over" D0 ["one","other"] 56 rq 55 3 EA:=by
 let c1:=u7 base e;let B:=Bt e;show fk (by ac_rfl) SX (λv nd _ _ _ _ _ _ hr=>by nofun) Pm
theorem Gi:Fk w mg base "whole" AA ["n"] 63 rq 62 1 oq:=by
 let B:=Bt e;show fk (by ac_rfl) Ox (λv nd _ _ _ _ _ _ hr=>by nofun) Ms
theorem Lv:Fk w mg base "as_rows" uW ["rows"] 68 pC 67 1 qY:=by
 let B:=Bt e;show fk (by ac_rfl) K4 (λv nd _ _ _ _ _ _ hr=>by nofun) Hn
theorem vW:Fk w mg base "added" zE ["row","times","other"] 73 pC 72 1 mW:=by
 let B:=Bt e;show fk (by ac_rfl) Qg (λv nd _ _ _ _ _ _ hr=>by nofun) Mf
theorem Md:Fk w mg base "sum_by" xk ["weights","rows","wide"] 80 pC 79 2 xw:=by
 let c1:=vW base e;let B:=Bt e;show fk (by ac_rfl) Mg (λv nd _ _ _ _ _ _ hr=>by nofun) Lk
theorem Nt:Fk w mg base "column" xG ["rows","place"] 85 pC 84 1 xC:=by
 let B:=Bt e;show fk (by ac_rfl) Nq (λv nd _ _ _ _ _ _ hr=>by nofun) Lw
theorem uh:Fk w mg base "turned_over" pq ["rows","wide"] 90 pC 89 2 mi:=by
 let c1:=Nt base e;let B:=Bt e;show fk (by ac_rfl) BN (λv nd _ _ _ _ _ _ hr=>by nofun) Ai
theorem Hy:Fk w mg base "unit_row" tH ["n","place"] 95 pC 94 1 sZ:=by
 let B:=Bt e;show fk (by ac_rfl) Hv (λv nd _ _ _ _ _ _ hr=>by nofun) EV
theorem Fc:Fk w mg base "unit_rows" rT ["n"] 100 pC 99 2 oA:=by
 let c1:=Hy base e;let B:=Bt e;show fk (by ac_rfl) Fl (λv nd _ _ _ _ _ _ hr=>by nofun) D7
theorem GW:Fk w mg base "dot" HG ["one","other"] 105 pC 104 1 wa:=by
 let B:=Bt e;show fk (by ac_rfl) T_ (λv nd _ _ _ _ _ _ hr=>by nofun) Lh
theorem mY:Fk w mg base "lead_of" vC ["row"] 112 gc 111 1 iG:=by
 let B:=Bt e;show fk (by ac_rfl) K8 (λv nd _ _ _ _ _ _ hr=>by nofun) G0
theorem u4:Fk w mg base "nearest_quotient" kl ["top","bottom"] 119 gc 118 1 kG:=by
 show fk (by ac_rfl) fv (λv nd cdv A outer s H E hr=>(aV (cG (dS (oi hr rfl fv.sc.gen fv.sc.co) (dS mj (dS pR bY (fv.v.nm 0)) (fv.v.nm 1)) (dS pR bY (fv.v.nm 1)))))) uk
theorem E9:Fk w mg base "exchanged" rX ["rows","k","other"] 126 gc 125 1 lP:=by
 let B:=Bt e;show fk (by ac_rfl) E4 (λv nd _ _ _ _ _ _ hr=>by nofun) EI
theorem Jc:Fk w mg base "negated" uH ["row"] 131 gc 130 1 o3:=by
 let B:=Bt e;show fk (by ac_rfl) JL (λv nd _ _ _ _ _ _ hr=>by nofun) HX
theorem js:MethAt (KX w.params) aI "__init__" "Bench.__init__" eG ["self","rows"] 143 (Hd.fd eG "__init__" "Bench.__init__" gc 142):=Hd.FL (by kernel_rfl) λ_ _ _ _ _ _ _ _=>rfl
theorem xm:cV PW w (KX w.params) mg base eN 3 143 (Hd.fd eG "__init__" "Bench.__init__" gc 142) ["self","rows"] (fm mB):=by
 let c1:=Fc base e;let B:=Bt e;let Q:=Qt e
 show fy (N:=mz) (js e).fn cx.sc (λcdv A outer s H E hr=>(ay (d_ Q.bN.cl Q.cS (cx.v.nm 0) (Ab (Nc:=["row"]) (dz.look (bO eG) ["self","rows"] ∅) (oE (cx.v.nm 1)) (λ_ _ _ _=>(kU (show(["row"]:List Str).Nodup by decide+kernel))) (λ_ _ _ _=>ir) (λ_ _ _ _=>(j6 yD (af fG ax) B.o5 rfl mP ∅ rfl)) jx))
  (ay (d_ Q.bN.cl Q.fH (cx.v.nm 0) (Ab (Nc:=["row"]) (dz.look (bO eG) ["self","rows"] ∅) (oE (ck c1.1 c1.2 (hr.mono ⋯) (af (dZ fV (af (cx.v.nm 1) ax) B.fY rfl fh (cx.v.d 0) (cx.v.g 0)) ax) (cx.v.d 1) (cx.v.g 1))) (λ_ _ _ _=>(kU (show(["row"]:List Str).Nodup by decide+kernel))) (λ_ _ _ _=>ir) (λ_ _ _ _=>(j6 yD (af fG ax) B.o5 rfl mP ∅ rfl)) jx))
  (aV (d_ Q.bN.cl Q.c9 (cx.v.nm 0) (Ab (Nc:=["row"]) (dz.look (bO eG) ["self","rows"] ∅) (oE (ck c1.1 c1.2 (hr.mono ⋯) (af (dZ fV (af (cx.v.nm 1) ax) B.fY rfl fh (cx.v.d 0) (cx.v.g 0)) ax) (cx.v.d 1) (cx.v.g 1))) (λ_ _ _ _=>(kU (show(["row"]:List Str).Nodup by decide+kernel))) (λ_ _ _ _=>ir) (λ_ _ _ _=>(j6 yD (af fG ax) B.o5 rfl mP ∅ rfl)) jx)))))) wo
theorem kQ:MethAt (KX w.params) aI "take" "Bench.take" kX ["self","k","times","other"] 150 (Hd.fd kX "take" "Bench.take" gc 149):=Hd.VR (by kernel_rfl) λ_ _ _ _ _ _ _ _ _ _=>rfl
theorem uz:cV PW w (KX w.params) mg base eN 2 150 (Hd.fd kX "take" "Bench.take" gc 149) ["self","k","times","other"] (fm nh):=by
 let c1:=vW base e;let Q:=Qt e
 show fy (N:=qH) (kQ e).fn bH.sc (λcdv A outer s H E hr=>(ay (fQ (ck c1.1 c1.2 (hr.mono ⋯) (af (cn (a9 Q.bN.cl Q.cS (bH.v.nm 0)) (bH.v.nm 1)) (af (nQ (bH.v.nm 2)) (af (cn (a9 Q.bN.cl Q.cS (bH.v.nm 0)) (bH.v.nm 3)) ax))) (bH.v.d 0) (bH.v.g 0)) (a9 Q.bN.cl Q.cS (bH.v.nm 0)) (bH.v.nm 1))
  (ay (fQ (ck c1.1 c1.2 (hr.mono ⋯) (af (cn (a9 Q.bN.cl Q.fH (bH.v.nm 0)) (bH.v.nm 1)) (af (nQ (bH.v.nm 2)) (af (cn (a9 Q.bN.cl Q.fH (bH.v.nm 0)) (bH.v.nm 3)) ax))) (bH.v.d 0) (bH.v.g 0)) (a9 Q.bN.cl Q.fH (bH.v.nm 0)) (bH.v.nm 1))
  (aV (fQ (ck c1.1 c1.2 (hr.mono ⋯) (af (cn (a9 Q.bN.cl Q.c9 (bH.v.nm 0)) (bH.v.nm 3)) (af (bH.v.nm 2) (af (cn (a9 Q.bN.cl Q.c9 (bH.v.nm 0)) (bH.v.nm 1)) ax))) (bH.v.d 0) (bH.v.g 0)) (a9 Q.bN.cl Q.c9 (bH.v.nm 0)) (bH.v.nm 3)))))) BO
theorem mw:MethAt (KX w.params) aI "exchange" "Bench.exchange" hO ["self","k","other"] 157 (Hd.fd hO "exchange" "Bench.exchange" gc 156):=Hd.ve (by kernel_rfl) λ_ _ _ _ _ _ _ _ _=>rfl
theorem xJ:cV PW w (KX w.params) mg base eN 2 157 (Hd.fd hO "exchange" "Bench.exchange" gc 156) ["self","k","other"] (fm mH):=by
 let c1:=E9 base e;let Q:=Qt e
 show fy (N:=mM) (mw e).fn bT.sc (λcdv A outer s H E hr=>(ay (d_ Q.bN.cl Q.cS (bT.v.nm 0) (ck c1.1 c1.2 (hr.mono ⋯) (af (a9 Q.bN.cl Q.cS (bT.v.nm 0)) (af (bT.v.nm 1) (af (bT.v.nm 2) ax))) (bT.v.d 0) (bT.v.g 0)))
  (ay (d_ Q.bN.cl Q.fH (bT.v.nm 0) (ck c1.1 c1.2 (hr.mono ⋯) (af (a9 Q.bN.cl Q.fH (bT.v.nm 0)) (af (bT.v.nm 1) (af (bT.v.nm 2) ax))) (bT.v.d 0) (bT.v.g 0)))
  (aV (d_ Q.bN.cl Q.c9 (bT.v.nm 0) (ck c1.1 c1.2 (hr.mono ⋯) (af (a9 Q.bN.cl Q.c9 (bT.v.nm 0)) (af (bT.v.nm 1) (af (bT.v.nm 2) ax))) (bT.v.d 0) (bT.v.g 0))))))) we
theorem j8:MethAt (KX w.params) aI "change_sign" "Bench.change_sign" fO ["self","k"] 164 (Hd.fd fO "change_sign" "Bench.change_sign" gc 163):=Hd.FL (by kernel_rfl) λ_ _ _ _ _ _ _ _=>rfl
theorem um:cV PW w (KX w.params) mg base eN 2 164 (Hd.fd fO "change_sign" "Bench.change_sign" gc 163) ["self","k"] (fm j4):=by
 let c1:=Jc base e;let Q:=Qt e
 show fy (N:=ka) (j8 e).fn aY.sc (λcdv A outer s H E hr=>(ay (fQ (ck c1.1 c1.2 (hr.mono ⋯) (af (cn (a9 Q.bN.cl Q.cS (aY.v.nm 0)) (aY.v.nm 1)) ax) (aY.v.d 0) (aY.v.g 0)) (a9 Q.bN.cl Q.cS (aY.v.nm 0)) (aY.v.nm 1))
  (ay (fQ (ck c1.1 c1.2 (hr.mono ⋯) (af (cn (a9 Q.bN.cl Q.fH (aY.v.nm 0)) (aY.v.nm 1)) ax) (aY.v.d 0) (aY.v.g 0)) (a9 Q.bN.cl Q.fH (aY.v.nm 0)) (aY.v.nm 1))
  (aV (fQ (ck c1.1 c1.2 (hr.mono ⋯) (af (cn (a9 Q.bN.cl Q.c9 (aY.v.nm 0)) (aY.v.nm 1)) ax) (aY.v.d 0) (aY.v.g 0)) (a9 Q.bN.cl Q.c9 (aY.v.nm 0)) (aY.v.nm 1)))))) tF
theorem iX:MethAt (KX w.params) aI "live_rows" "Bench.live_rows" eV ["self","top","place"] 169 (Hd.fd eV "live_rows" "Bench.live_rows" gc 168):=Hd.ve (by kernel_rfl) λ_ _ _ _ _ _ _ _ _=>rfl
theorem pG:cV PW w (KX w.params) mg base eN 3 169 (Hd.fd eV "live_rows" "Bench.live_rows" gc 168) ["self","top","place"] (fm i4):=by
 let B:=Bt e;let Q:=Qt e;let hC:PySem.W.codeHdIn (KX w.params) 168 166=true:=by kernel_rfl
 show SW (N:=lJ) (Hd.fc (by kernel_rfl)) dm.sc (λA outer s H E hr=>(ay (Qw dm.sc.nd (dm.v.l 3) (Nc:=["k","self","place"]) (dz.look (bO eV) ["self","top","place","live"] ∅) (CW (dm.v.g 1) B.lg (af (dm.v.nm 1) (af (dZ fV (af (a9 Q.bN.cl Q.cS (dm.v.nm 0)) ax) B.fY rfl fh (dm.v.d 0) (dm.v.g 0)) ax))) (λ_ _ _ _=>(kU (show(["k","self","place"]:List Str).Nodup by decide+kernel))) (λ_ _ _ _=>(Sd (eP HQ (di _) (cn (cn (a9 Q.bN.cl Q.cS fG) fG) fG) bY))) (λ_ _ _ _=>fG) jx)
  (aV (cG (Qq (c0:=168) (pS.look (Nc:=["k","self","place"]) (fr:=[none,some 0,some 2]) (p:="k") (dz.look (bO eV) ["self","top","place","live"] ∅)) rfl hr rfl hC (λ_ _ _ _=>(dZ Hu (af (cn (cn (a9 Q.bN.cl Q.cS fG) fG) fG) ax) B.HP rfl Df ∅ rfl)) (dm.v.nm 3) (dm.v.g 2) B.M8))))) vq
theorem og:MethAt (KX w.params) aI "gather" "Bench.gather" je ["self","top","place"] 176 (Hd.fd je "gather" "Bench.gather" gc 175):=Hd.ve (by kernel_rfl) λ_ _ _ _ _ _ _ _ _=>rfl
theorem Ah:cV PW w (KX w.params) mg base eN 4 176 (Hd.fd je "gather" "Bench.gather" gc 175) ["self","top","place"] (fm om):=by
 let c1:=u4 base e;let B:=Bt e;let Q:=Qt e
 show fy (N:=oh) (og e).fn aC.sc (λcdv A outer s H E hr=>(ay (bQ aC.sc.nd (aC.v.l 3) (d6 (aC.v.nm 0) Q.bN.cl (iX e).me (pG base e) (hr.mono ⋯) (iX e).bd (af (aC.v.nm 1) (af (aC.v.nm 2) ax))))
  (ay (qD (eP tx (di _) (dZ fV (af (aC.v.nm 3) ax) B.fY rfl fh (aC.v.d 0) (aC.v.g 0)) bY) (ay (bQ aC.sc.nd (aC.v.l 4) (cn (aC.v.nm 3) (nQ bY)))
  (ay (bQ aC.sc.nd (aC.v.l 5) (cn (aC.v.nm 3) (nQ bY)))
  (ay (iq (d6 (aC.v.nm 0) Q.bN.cl (kQ e).me (uz base e) (hr.mono ⋯) (kQ e).bd (af (aC.v.nm 4) (af (ck c1.1 c1.2 (hr.mono ⋯) (af (cn (cn (a9 Q.bN.cl Q.cS (aC.v.nm 0)) (aC.v.nm 4)) (aC.v.nm 2)) (af (cn (cn (a9 Q.bN.cl Q.cS (aC.v.nm 0)) (aC.v.nm 5)) (aC.v.nm 2)) ax)) (aC.v.d 1) (aC.v.g 1)) (af (aC.v.nm 5) ax)))))
  (aV (bQ aC.sc.nd (aC.v.l 3) (d6 (aC.v.nm 0) Q.bN.cl (iX e).me (pG base e) (hr.mono ⋯) (iX e).bd (af (aC.v.nm 1) (af (aC.v.nm 2) ax)))))))))
  (ay (gm (eP (tJ hr) (di _) (dZ fV (af (aC.v.nm 3) ax) B.fY rfl fh (aC.v.d 0) (aC.v.g 0)) bY) (aV (cG Ex)) fw)
  (ay (iq (d6 (aC.v.nm 0) Q.bN.cl (mw e).me (xJ base e) (hr.mono ⋯) (mw e).bd (af (aC.v.nm 1) (af (cn (aC.v.nm 3) bY) ax))))
  (ay (gm (eP tM (di _) (cn (cn (a9 Q.bN.cl Q.cS (aC.v.nm 0)) (aC.v.nm 1)) (aC.v.nm 2)) bY) (aV (iq (d6 (aC.v.nm 0) Q.bN.cl (j8 e).me (um base e) (hr.mono ⋯) (j8 e).bd (af (aC.v.nm 1) ax)))) fw)
  (aV (cG Ex)))))))) yN
theorem j9:MethAt (KX w.params) aI "lower_above" "Bench.lower_above" fN ["self","top","place"] 183 (Hd.fd fN "lower_above" "Bench.lower_above" gc 182):=Hd.ve (by kernel_rfl) λ_ _ _ _ _ _ _ _ _=>rfl
theorem uo:cV PW w (KX w.params) mg base eN 3 183 (Hd.fd fN "lower_above" "Bench.lower_above" gc 182) ["self","top","place"] (fm j_):=by
 let B:=Bt e;let Q:=Qt e;show fy (N:=j0) (j9 e).fn bZ.sc (λcdv A outer s H E hr=>(aV (oZ (ow (bZ.v.g 0) B.lg (af (bZ.v.nm 1) ax)) (kU bZ.sc.nd) (aV (iq (d6 (bZ.v.nm 0) Q.bN.cl (kQ e).me (uz base e) (hr.mono ⋯) (kQ e).bd (af (bZ.v.nm 3) (af (dS (oi hr rfl bZ.sc.gen bZ.sc.co) (cn (cn (a9 Q.bN.cl Q.cS (bZ.v.nm 0)) (bZ.v.nm 3)) (bZ.v.nm 2)) (cn (cn (a9 Q.bN.cl Q.cS (bZ.v.nm 0)) (bZ.v.nm 1)) (bZ.v.nm 2))) (af (bZ.v.nm 1) ax))))))))) tN
theorem yA:Fk w mg base "standing" sV ["rows"] 197 gc 196 5 pN:=by
 let c1:=uh base e;let c2:=Lv base e;let B:=Bt e;let Q:=Qt e
 show fk (by ac_rfl) aZ (λv nd cdv A outer s H E hr=>(ay (bQ aZ.sc.nd (aZ.v.l 1) (uA ⟨Q.bN.FJ,(js e).me.at_,(js e).me.fn,Q.bN.kp⟩ (xm base e) (hr.mono ⋯) (aZ.v.g 0) Q.bN.mg (js e).bd (af (aZ.v.nm 0) ax) (aZ.v.d 0)))
  (ay (bQ aZ.sc.nd (aZ.v.l 2) bY)
  (ay (oZ (ow (aZ.v.g 2) B.lg (af (dZ fV (af (cn (aZ.v.nm 0) bY) ax) B.fY rfl fh (aZ.v.d 1) (aZ.v.g 1)) ax)) (kU aZ.sc.nd) (aV (gm (oH (d6 (aZ.v.nm 1) Q.bN.cl (og e).me (Ah base e) (hr.mono ⋯) (og e).bd (af (aZ.v.nm 2) (af (aZ.v.nm 3) ax)))) (ay (iq (d6 (aZ.v.nm 1) Q.bN.cl (j9 e).me (uo base e) (hr.mono ⋯) (j9 e).bd (af (aZ.v.nm 2) (af (aZ.v.nm 3) ax))))
  (aV (Rx aZ.sc.nd (aZ.v.l 2) bY Lu))) fw)))
  (ay (bQ aZ.sc.nd (aZ.v.l 4) (ck c1.1 c1.2 (hr.mono ⋯) (af (a9 Q.bN.cl Q.c9 (aZ.v.nm 1)) (af (dZ fV (af (aZ.v.nm 0) ax) B.fY rfl fh (aZ.v.d 1) (aZ.v.g 1)) ax)) (aZ.v.d 3) (aZ.v.g 3)))
  (aV (cG (gj (af (ck c2.1 c2.2 (hr.mono ⋯) (af (jW (a9 Q.bN.cl Q.cS (aZ.v.nm 1)) k9 (k8 (aZ.v.nm 2))) ax) (aZ.v.d 4) (aZ.v.g 4)) (af (ck c2.1 c2.2 (hr.mono ⋯) (af (a9 Q.bN.cl Q.fH (aZ.v.nm 1)) ax) (aZ.v.d 4) (aZ.v.g 4)) (af (aZ.v.nm 4) ax))))))))))) Fs
theorem Bc:Fk w mg base "weighed" vF ["form","row"] 204 gc 203 2 q_:=by
 let c1:=mY base e;let c2:=vW base e;let B:=Bt e
 show fk (by ac_rfl) bG (λv nd cdv A outer s H E hr=>(ay (bQ bG.sc.nd (bG.v.l 2) (CC ax))
  (ay (bQ bG.sc.nd (bG.v.l 3) (j6 yD (af (bG.v.nm 1) ax) B.o5 rfl mP (bG.v.d 0) (bG.v.g 0)))
  (ay (oZ (oE (bG.v.nm 0)) (kU bG.sc.nd) (ay (bQ bG.sc.nd (bG.v.l 5) (ck c1.1 c1.2 (hr.mono ⋯) (af (bG.v.nm 4) ax) (bG.v.d 1) (bG.v.g 1)))
  (ay (bQ bG.sc.nd (bG.v.l 6) (dS (oi hr rfl bG.sc.gen bG.sc.co) (cn (bG.v.nm 3) (bG.v.nm 5)) (cn (bG.v.nm 4) (bG.v.nm 5))))
  (ay (iq (qU (bG.v.nm 2) (bG.v.nm 6)))
  (aV (bQ bG.sc.nd (bG.v.l 3) (ck c2.1 c2.2 (hr.mono ⋯) (af (bG.v.nm 3) (af (nQ (bG.v.nm 6)) (af (bG.v.nm 4) ax))) (bG.v.d 2) (bG.v.g 2))))))))
  (aV (cG (gj (af (j6 jU (af (bG.v.nm 2) ax) B.iw rfl gB (bG.v.d 3) (bG.v.g 3)) (af (j6 jU (af (bG.v.nm 3) ax) B.iw rfl gB (bG.v.d 3) (bG.v.g 3)) ax))))))))) GQ
theorem PZ:Fk w mg base "falls" zH ["form","row"] 211 gc 210 3 An:=by
 let c1:=Bc base e;let B:=Bt e;show fk (by ac_rfl) Qi (λv nd _ _ _ _ _ _ hr=>by nofun) Mv
theorem EU:Fk w mg base "parts_dot" rK ["parts","row"] 218 Gn 217 4 rE:=by
 let c1:=Gi base e;let c2:=Qv base e;let c3:=S9 base e;let B:=Bt e;show fk (by ac_rfl) Fj (λv nd _ _ _ _ _ _ hr=>by nofun) Eb
theorem Fg:Fk w mg base "bottom_at" rP ["form","rest","place"] 225 Gn 224 2 rN:=by
 let c1:=mY base e;let B:=Bt e;show fk (by ac_rfl) E5 (λv nd _ _ _ _ _ _ hr=>by nofun) EC
theorem yU:Fk w mg base "parts_against" nE ["form","rest"] 232 Gn 231 5 nN:=by
 let c1:=mY base e;let c2:=Gi base e;let c3:=Fg base e;let c4:=u7 base e;let c5:=EU base e;let c6:=PM base e;let c7:=Sw base e;let B:=Bt e
 show fk (by ac_rfl) au (λv nd cdv A outer s H E hr=>(ay (bQ au.sc.nd (au.v.l 2) (ck c1.1 c1.2 (hr.mono ⋯) (af (au.v.nm 1) ax) (au.v.d 0) (au.v.g 0)))
  (ay (bQ au.sc.nd (au.v.l 3) (dS Sm (Cf (af (ck c2.1 c2.2 (hr.mono ⋯) (af bY ax) (au.v.d 1) (au.v.g 1)) ax)) (dZ fV (af (au.v.nm 1) ax) B.fY rfl fh (au.v.d 2) (au.v.g 2))))
  (ay (fQ (ck c4.1 c4.2 (hr.mono ⋯) (af bY (af (ck c3.1 c3.2 (hr.mono ⋯) (af (au.v.nm 0) (af (au.v.nm 1) (af (au.v.nm 2) ax))) (au.v.d 3) (au.v.g 3)) ax)) (au.v.d 4) (au.v.g 4)) (au.v.nm 3) (au.v.nm 2))
  (ay (oZ (LW (au.v.g 5) B.lg (af (dS nG (dZ fV (af (au.v.nm 0) ax) B.fY rfl fh (au.v.d 2) (au.v.g 2)) bY) (af (nQ bY) (af (nQ bY) ax)))) (kU au.sc.nd) (ay (bQ au.sc.nd (au.v.l 5) (ck c1.1 c1.2 (hr.mono ⋯) (af (cn (au.v.nm 0) (au.v.nm 4)) ax) (au.v.d 0) (au.v.g 0)))
  (aV (gm (eP tM (di _) (au.v.nm 5) (au.v.nm 2)) (ay (bQ au.sc.nd (au.v.l 6) (ck c6.1 c6.2 (hr.mono ⋯) (af (ck c2.1 c2.2 (hr.mono ⋯) (af bY ax) (au.v.d 1) (au.v.g 1)) (af (ck c5.1 c5.2 (hr.mono ⋯) (af (au.v.nm 3) (af (cn (au.v.nm 0) (au.v.nm 4)) ax)) (au.v.d 6) (au.v.g 6)) ax)) (au.v.d 7) (au.v.g 7)))
  (aV (fQ (ck c7.1 c7.2 (hr.mono ⋯) (af (au.v.nm 6) (af (ck c2.1 c2.2 (hr.mono ⋯) (af (cn (cn (au.v.nm 0) (au.v.nm 4)) (au.v.nm 5)) ax) (au.v.d 1) (au.v.g 1)) ax)) (au.v.d 8) (au.v.g 8)) (au.v.nm 3) (au.v.nm 5)))) fw))))
  (aV (cG (j6 jU (af (au.v.nm 3) ax) B.iw rfl gB (au.v.d 9) (au.v.g 9))))))))) x8
theorem zK:Fk w mg base "steps_behind" ox ["turn","many"] 239 Nx 238 6 oj:=by
 let c1:=yA base e;let B:=Bt e;show fk (by ac_rfl) zD (λv nd _ _ _ _ _ _ hr=>by nofun) yQ
theorem Ko:Fk w mg base "answers" u5 ["rows","due"] 246 Nx 245 7 vd:=by
 let c1:=uh base e;let c2:=yA base e;let c3:=Bc base e;let c4:=mY base e;let c5:=yU base e;let c6:=zK base e;let c7:=Md base e;let c8:=PZ base e;let B:=Bt e;show fk (by ac_rfl) LH (λv nd _ _ _ _ _ _ hr=>by nofun) IF
theorem EX:Fk w mg base "least_sum" oC ["numbers","low","high"] 251 iO 250 1 oF:=by
 let B:=Bt e;show fk (by ac_rfl) iM (λv nd cdv A outer s H E hr=>(aV (cG (dZ (Ci rfl) (af (oS (Nc:=["number","least","most"]) (dz.look (bO oC) ["numbers","low","high"] ∅) (Jg (iM.v.g 0) B.vN (af (iM.v.nm 0) (af (iM.v.nm 1) (af (iM.v.nm 2) ax)))) (λ_ _ _ _=>(NV rfl (show(["number","least","most"]:List Str).Nodup by decide+kernel))) (λ_ _ _ _=>ir) (λ_ _ _ _=>(dZ (IE rfl) (af (dS pR fG fG) (af (dS pR fG fG) ax)) B.HS rfl EH ∅ rfl)) Be) ax) B.Cw rfl yS (iM.v.d 1) (iM.v.g 1))))) DN
theorem GN:Fk w mg base "most_sum" pM ["numbers","low","high"] 256 iO 255 1 sS:=by
 let B:=Bt e;show fk (by ac_rfl) jD (λv nd cdv A outer s H E hr=>(aV (cG (dZ (Ci rfl) (af (oS (Nc:=["number","least","most"]) (dz.look (bO pM) ["numbers","low","high"] ∅) (Jg (jD.v.g 0) B.vN (af (jD.v.nm 0) (af (jD.v.nm 1) (af (jD.v.nm 2) ax)))) (λ_ _ _ _=>(NV rfl (show(["number","least","most"]:List Str).Nodup by decide+kernel))) (λ_ _ _ _=>ir) (λ_ _ _ _=>(dZ (Hq rfl) (af (dS pR fG fG) (af (dS pR fG fG) ax)) B.Ij rfl De ∅ rfl)) Be) ax) B.Cw rfl yS (jD.v.d 1) (jD.v.g 1))))) EW
theorem ft:MethAt (KX w.params) dF "__init__" "Layer.__init__" fo ["self","task","place"] 268 (Hd.fd fo "__init__" "Layer.__init__" iO 267):=Hd.ve (by kernel_rfl) λ_ _ _ _ _ _ _ _ _=>rfl
theorem p8:cV PW w (KX w.params) mg base eN 2 268 (Hd.fd fo "__init__" "Layer.__init__" iO 267) ["self","task","place"] (fm jE):=by
 let c1:=GN base e;let c2:=EX base e;let B:=Bt e;let Q:=Qt e
 show fy (N:=mx) (ft e).fn aS.sc (λcdv A outer s H E hr=>(ay (bQ aS.sc.nd (aS.v.l 3) (jW (a9 Q.cz.cl Q.pJ (aS.v.nm 1)) (k8 (aS.v.nm 2)) k9))
  (ay (bQ aS.sc.nd (aS.v.l 4) (jW (a9 Q.cz.cl Q.oz (aS.v.nm 1)) (k8 (aS.v.nm 2)) k9))
  (ay (d_ Q.gw.cl Q.ui (aS.v.nm 0) (aS.v.nm 2))
  (ay (d_ Q.gw.cl Q.uS (aS.v.nm 0) (oS (Nc:=["row","number","place","low","high"]) (dz.look (bO fo) ["self","task","place","low","high"] ∅) (Cs (aS.v.g 0) B.vN (af (a9 Q.cz.cl Q.lV (aS.v.nm 1)) (af (a9 Q.cz.cl Q.sW (aS.v.nm 1)) ax))) (λ_ _ _ _=>(yW rfl (show(["row","number","place","low","high"]:List Str).Nodup by decide+kernel))) (λ_ _ _ _=>ir) (λ_ _ _ _=>(dS nG fG (ck c1.1 c1.2 (hr.mono ⋯) (af (jW fG (k8 fG) k9) (af fG (af fG ax))) ∅ rfl))) Au))
  (ay (d_ Q.gw.cl Q.ud (aS.v.nm 0) (oS (Nc:=["row","number","place","low","high"]) (dz.look (bO fo) ["self","task","place","low","high"] ∅) (Cs (aS.v.g 0) B.vN (af (a9 Q.cz.cl Q.lV (aS.v.nm 1)) (af (a9 Q.cz.cl Q.sW (aS.v.nm 1)) ax))) (λ_ _ _ _=>(yW rfl (show(["row","number","place","low","high"]:List Str).Nodup by decide+kernel))) (λ_ _ _ _=>ir) (λ_ _ _ _=>(dS nG fG (ck c2.1 c2.2 (hr.mono ⋯) (af (jW fG (k8 fG) k9) (af fG (af fG ax))) ∅ rfl))) Au))
  (aV (d_ Q.gw.cl Q.pE (aS.v.nm 0) (ck c2.1 c2.2 (hr.mono ⋯) (af (jW (a9 Q.cz.cl Q.nK (aS.v.nm 1)) (k8 (aS.v.nm 2)) k9) (af (aS.v.nm 3) (af (aS.v.nm 4) ax))) (aS.v.d 1) (aS.v.g 1)))))))))) wx
theorem kh:MethAt (KX w.params) aU "__init__" "Task.__init__" gn ["self","costs","rows","due","low","high","steps"] 287 (Hd.fd gn "__init__" "Task.__init__" iO 286):=Hd.W5 (by kernel_rfl) λ_ _ _ _ _ _ _ _ _ _ _ _ _=>rfl
theorem yw:cV PW w (KX w.params) mg base eN 4 287 (Hd.fd gn "__init__" "Task.__init__" iO 286) ["self","costs","rows","due","low","high","steps"] (fm nc):=by
 let c1:=mY base e;let B:=Bt e;let Q:=Qt e
 show fy (N:=ni) (kh e).fn bL.sc (λcdv A outer s H E hr=>(ay (d_ Q.cz.cl Q.nK (bL.v.nm 0) (bL.v.nm 1))
  (ay (d_ Q.cz.cl Q.lV (bL.v.nm 0) (bL.v.nm 2))
  (ay (d_ Q.cz.cl Q.sW (bL.v.nm 0) (bL.v.nm 3))
  (ay (d_ Q.cz.cl Q.pJ (bL.v.nm 0) (bL.v.nm 4))
  (ay (d_ Q.cz.cl Q.oz (bL.v.nm 0) (bL.v.nm 5))
  (ay (d_ Q.cz.cl Q.qB (bL.v.nm 0) (bL.v.nm 6))
  (aV (d_ Q.cz.cl Q.ma (bL.v.nm 0) (dS mj (oS (Nc:=["step","self"]) (dz.look (bO gn) ["self","costs","rows","due","low","high","steps"] ∅) (oE (bL.v.nm 6)) (λ_ _ _ _=>(kU (show(["step","self"]:List Str).Nodup by decide+kernel))) (λ_ _ _ _=>ir) (λ_ _ _ _=>(uA ⟨Q.gw.FJ,(ft e).me.at_,(ft e).me.fn,Q.gw.kp⟩ (p8 base e) (hr.mono ⋯) rfl Q.gw.mg (ft e).bd (af fG (af (ck c1.1 c1.2 (hr.mono ⋯) (af fG ax) ∅ rfl) ax)) ∅)) jx) (Cf (af (uA ⟨Q.gw.FJ,(ft e).me.at_,(ft e).me.fn,Q.gw.kp⟩ (p8 base e) (hr.mono ⋯) (bL.v.g 1) Q.gw.mg (ft e).bd (af (bL.v.nm 0) (af (dZ fV (af (bL.v.nm 1) ax) B.fY rfl fh (bL.v.d 0) (bL.v.g 0)) ax)) (bL.v.d 1)) ax)))))))))))) xQ
theorem jP:MethAt (KX w.params) aU "is_end" "Task.is_end" jI ["self","taken"] 294 (Hd.fd jI "is_end" "Task.is_end" iO 293):=Hd.FL (by kernel_rfl) λ_ _ _ _ _ _ _ _=>rfl
theorem uf:cV PW w (KX w.params) mg base eN 1 294 (Hd.fd jI "is_end" "Task.is_end" iO 293) ["self","taken"] (fm jL):=by
 let B:=Bt e;let Q:=Qt e;show fy (N:=pA) (jP e).fn jQ.sc (λcdv A outer s H E hr=>(aV (cG (sT (tJ hr) (di _) (jQ.v.nm 1) (dZ fV (af (a9 Q.cz.cl Q.qB (jQ.v.nm 0)) ax) B.fY rfl fh (jQ.v.d 0) (jQ.v.g 0)))))) zL
theorem g_:MethAt (KX w.params) aU "fixed" "Task.fixed" ku ["self","taken","row"] 301 (Hd.fd ku "fixed" "Task.fixed" iO 300):=Hd.ve (by kernel_rfl) λ_ _ _ _ _ _ _ _ _=>rfl
theorem qI:cV PW w (KX w.params) mg base eN 1 301 (Hd.fd ku "fixed" "Task.fixed" iO 300) ["self","taken","row"] (fm kr):=by
 let B:=Bt e;let Q:=Qt e;show fy (N:=qd) (g_ e).fn i6.sc (λcdv A outer s H E hr=>(aV (cG (j6 jU (af (jW (i6.v.nm 2) k9 (k8 (a9 Q.gw.cl Q.ui (cn (a9 Q.cz.cl Q.ma (i6.v.nm 0)) (i6.v.nm 1))))) ax) B.iw rfl gB (i6.v.d 0) (i6.v.g 0))))) BJ
theorem lD:MethAt (KX w.params) aU "is_outside" "Task.is_outside" gG ["self","place","row"] 308 (Hd.fd gG "is_outside" "Task.is_outside" iO 307):=Hd.ve (by kernel_rfl) λ_ _ _ _ _ _ _ _ _=>rfl
theorem wB:cV PW w (KX w.params) mg base eN 1 308 (Hd.fd gG "is_outside" "Task.is_outside" iO 307) ["self","place","row"] (fm lG):=by
 let Q:=Qt e;show fy (N:=lE) (lD e).fn eY.sc (λcdv A outer s H E hr=>(aV (cG (CA (Gx tL tL (cn (a9 Q.cz.cl Q.pJ (eY.v.nm 0)) (eY.v.nm 1)) (cn (eY.v.nm 2) (eY.v.nm 1)) (cn (a9 Q.cz.cl Q.oz (eY.v.nm 0)) (eY.v.nm 1))))))) uP
theorem mL:MethAt (KX w.params) aU "is_broken" "Task.is_broken" gQ ["self","k","taken","fixed"] 315 (Hd.fd gQ "is_broken" "Task.is_broken" iO 314):=Hd.VR (by kernel_rfl) λ_ _ _ _ _ _ _ _ _ _=>rfl
theorem xq:cV PW w (KX w.params) mg base eN 2 315 (Hd.fd gQ "is_broken" "Task.is_broken" iO 314) ["self","k","taken","fixed"] (fm mq):=by
 let c1:=GW base e;let Q:=Qt e
 show fy (N:=mI) (mL e).fn cE.sc (λcdv A outer s H E hr=>(ay (bQ cE.sc.nd (cE.v.l 4) (cn (a9 Q.cz.cl Q.ma (cE.v.nm 0)) (cE.v.nm 2)))
  (aV (cG (CA (Gx tL tL (cn (a9 Q.gw.cl Q.uS (cE.v.nm 4)) (cE.v.nm 1)) (ck c1.1 c1.2 (hr.mono ⋯) (af (cn (a9 Q.cz.cl Q.lV (cE.v.nm 0)) (cE.v.nm 1)) (af (cE.v.nm 3) ax)) (cE.v.d 0) (cE.v.g 0)) (cn (a9 Q.gw.cl Q.ud (cE.v.nm 4)) (cE.v.nm 1)))))))) wm
theorem gI:MethAt (KX w.params) aU "least_cost" "Task.least_cost" gJ ["self","taken","fixed"] 322 (Hd.fd gJ "least_cost" "Task.least_cost" iO 321):=Hd.ve (by kernel_rfl) λ_ _ _ _ _ _ _ _ _=>rfl
theorem pH:cV PW w (KX w.params) mg base eN 2 322 (Hd.fd gJ "least_cost" "Task.least_cost" iO 321) ["self","taken","fixed"] (fm iW):=by
 let c1:=GW base e;let Q:=Qt e;show fy (N:=lI) (gI e).fn eU.sc (λcdv A outer s H E hr=>(aV (cG (dS mj (ck c1.1 c1.2 (hr.mono ⋯) (af (a9 Q.cz.cl Q.nK (eU.v.nm 0)) (af (eU.v.nm 2) ax)) (eU.v.d 0) (eU.v.g 0)) (a9 Q.gw.cl Q.pE (cn (a9 Q.cz.cl Q.ma (eU.v.nm 0)) (eU.v.nm 1))))))) u6
theorem mN:MethAt (KX w.params) aU "is_dearer" "Task.is_dearer" gT ["self","taken","fixed","cost","plan"] 329 (Hd.fd gT "is_dearer" "Task.is_dearer" iO 328):=Hd.W4 (by kernel_rfl) λ_ _ _ _ _ _ _ _ _ _ _=>rfl
theorem xi:cV PW w (KX w.params) mg base eN 3 329 (Hd.fd gT "is_dearer" "Task.is_dearer" iO 328) ["self","taken","fixed","cost","plan"] (fm mE):=by
 let B:=Bt e;let Q:=Qt e
 show fy (N:=mD) (mN e).fn b_.sc (λcdv A outer s H E hr=>(ay (bQ b_.sc.nd (b_.v.l 5) (d6 (b_.v.nm 0) Q.cz.cl (gI e).me (pH base e) (hr.mono ⋯) (gI e).bd (af (b_.v.nm 1) (af (b_.v.nm 2) ax))))
  (aV (cG (WN (sT tx (di _) (b_.v.nm 5) (b_.v.nm 3)) (B8 (He (sT (tJ hr) (di _) (b_.v.nm 5) (b_.v.nm 3)) (B8 (sT (T6 hr) (di _) (b_.v.nm 2) (j6 jU (af (jW (b_.v.nm 4) k9 (k8 (dZ fV (af (b_.v.nm 2) ax) B.fY rfl fh (b_.v.d 0) (b_.v.g 0)))) ax) B.iw rfl gB (b_.v.d 1) (b_.v.g 1))))))))))) wA
theorem iD:MethAt (KX w.params) b9 "__init__" "Waiting.__init__" f_ ["self"] 350 (Hd.fd f_ "__init__" "Waiting.__init__" nV 349):=Hd.Rf (by kernel_rfl) λ_ _ _ _ _ _ _=>rfl
theorem uK:cV PW w (KX w.params) mg base eN 1 350 (Hd.fd f_ "__init__" "Waiting.__init__" nV 349) ["self"] (fm ky):=by
 let Q:=Qt e;show fy (N:=kC) (iD e).fn oK.sc (λcdv A outer s H E hr=>(aV (d_ Q.dH.cl Q.eK (oK.v.nm 0) (CC ax)))) uu
theorem kK:MethAt (KX w.params) b9 "is_empty" "Waiting.is_empty" gg ["self"] 357 (Hd.fd gg "is_empty" "Waiting.is_empty" nV 356):=Hd.Rf (by kernel_rfl) λ_ _ _ _ _ _ _=>rfl
theorem uQ:cV PW w (KX w.params) mg base eN 1 357 (Hd.fd gg "is_empty" "Waiting.is_empty" nV 356) ["self"] (fm iz):=by
 let B:=Bt e;let Q:=Qt e;show fy (N:=kP) (kK e).fn iB.sc (λcdv A outer s H E hr=>(aV (cG (sT (tJ hr) (di _) (dZ fV (af (a9 Q.dH.cl Q.eK (iB.v.nm 0)) ax) B.fY rfl fh (iB.v.d 0) (iB.v.g 0)) bY)))) uj
theorem pe:MethAt (KX w.params) b9 "put" "Waiting.put" jK ["self","thing"] 364 (Hd.fd jK "put" "Waiting.put" nV 363):=Hd.FL (by kernel_rfl) λ_ _ _ _ _ _ _ _=>rfl
theorem BW:cV PW w (KX w.params) mg base eN 1 364 (Hd.fd jK "put" "Waiting.put" nV 363) ["self","thing"] (fm ph):=by
 let B:=Bt e;let Q:=Qt e
 show fy (N:=pj) (pe e).fn bK.sc (λcdv A outer s H E hr=>(ay (bQ bK.sc.nd (bK.v.l 2) (a9 Q.dH.cl Q.eK (bK.v.nm 0)))
  (ay (bQ bK.sc.nd (bK.v.l 3) (dZ fV (af (bK.v.nm 2) ax) B.fY rfl fh (bK.v.d 0) (bK.v.g 0)))
  (ay (iq (qU (bK.v.nm 2) (bK.v.nm 1)))
  (ay (qD (Ck (zh (eP tx (di _) (bK.v.nm 3) bY) (v8 (eP (Iq hr) (di _) (bK.v.nm 1) (cn (bK.v.nm 2) (dS uF (dS nG (bK.v.nm 3) bY) bY)))))) (ay (fQ (cn (bK.v.nm 2) (dS uF (dS nG (bK.v.nm 3) bY) bY)) (bK.v.nm 2) (bK.v.nm 3))
  (aV (bQ bK.sc.nd (bK.v.l 3) (dS uF (dS nG (bK.v.nm 3) bY) bY)))))
  (aV (fQ (bK.v.nm 1) (bK.v.nm 2) (bK.v.nm 3)))))))) zA
theorem fe:MethAt (KX w.params) b9 "lesser_below" "Waiting.lesser_below" fi ["self","place"] 385 (Hd.fd fi "lesser_below" "Waiting.lesser_below" nV 384):=Hd.FL (by kernel_rfl) λ_ _ _ _ _ _ _ _=>rfl
theorem lZ:cV PW w (KX w.params) mg base eN 1 385 (Hd.fd fi "lesser_below" "Waiting.lesser_below" nV 384) ["self","place"] (fm ff):=by
 let B:=Bt e;let Q:=Qt e
 show fy (N:=iL) (fe e).fn aT.sc (λcdv A outer s H E hr=>(ay (bQ aT.sc.nd (aT.v.l 2) (dS mj (dS pR bY (aT.v.nm 1)) bY))
  (ay (gm (eP zC (di _) (aT.v.nm 2) (dZ fV (af (a9 Q.dH.cl Q.eK (aT.v.nm 0)) ax) B.fY rfl fh (aT.v.d 0) (aT.v.g 0))) (aV (cG mh)) fw)
  (ay (gm (Ck (zh (eP tM (di _) (dS mj (aT.v.nm 2) bY) (dZ fV (af (a9 Q.dH.cl Q.eK (aT.v.nm 0)) ax) B.fY rfl fh (aT.v.d 0) (aT.v.g 0))) (v8 (eP (Iq hr) (di _) (cn (a9 Q.dH.cl Q.eK (aT.v.nm 0)) (dS mj (aT.v.nm 2) bY)) (cn (a9 Q.dH.cl Q.eK (aT.v.nm 0)) (aT.v.nm 2)))))) (aV (cG (dS mj (aT.v.nm 2) bY))) fw)
  (aV (cG (aT.v.nm 2))))))) qO
theorem nX:MethAt (KX w.params) b9 "sink" "Waiting.sink" jc ["self","thing"] 378 (Hd.fd jc "sink" "Waiting.sink" nV 377):=Hd.FL (by kernel_rfl) λ_ _ _ _ _ _ _ _=>rfl
theorem Aw:cV PW w (KX w.params) mg base eN 2 378 (Hd.fd jc "sink" "Waiting.sink" nV 377) ["self","thing"] (fm nW):=by
 let Q:=Qt e
 show fy (N:=oo) (nX e).fn aW.sc (λcdv A outer s H E hr=>(ay (bQ aW.sc.nd (aW.v.l 2) (a9 Q.dH.cl Q.eK (aW.v.nm 0)))
  (ay (bQ aW.sc.nd (aW.v.l 3) bY)
  (ay (bQ aW.sc.nd (aW.v.l 4) (d6 (aW.v.nm 0) Q.dH.cl (fe e).me (lZ base e) (hr.mono ⋯) (fe e).bd (af (aW.v.nm 3) ax)))
  (ay (qD (Ck (zh (eP sD (di _) (aW.v.nm 4) mh) (v8 (eP (Iq hr) (di _) (cn (aW.v.nm 2) (aW.v.nm 4)) (aW.v.nm 1))))) (ay (fQ (cn (aW.v.nm 2) (aW.v.nm 4)) (aW.v.nm 2) (aW.v.nm 3))
  (ay (bQ aW.sc.nd (aW.v.l 3) (aW.v.nm 4))
  (aV (bQ aW.sc.nd (aW.v.l 4) (d6 (aW.v.nm 0) Q.dH.cl (fe e).me (lZ base e) (hr.mono ⋯) (fe e).bd (af (aW.v.nm 3) ax)))))))
  (aV (fQ (aW.v.nm 1) (aW.v.nm 2) (aW.v.nm 3)))))))) y6
theorem jy:MethAt (KX w.params) b9 "take_least" "Waiting.take_least" fC ["self"] 371 (Hd.fd fC "take_least" "Waiting.take_least" nV 370):=Hd.Rf (by kernel_rfl) λ_ _ _ _ _ _ _=>rfl
theorem tS:cV PW w (KX w.params) mg base eN 3 371 (Hd.fd fC "take_least" "Waiting.take_least" nV 370) ["self"] (fm gL):=by
 let B:=Bt e;let Q:=Qt e
 show fy (N:=jF) (jy e).fn bJ.sc (λcdv A outer s H E hr=>(ay (bQ bJ.sc.nd (bJ.v.l 1) (a9 Q.dH.cl Q.eK (bJ.v.nm 0)))
  (ay (bQ bJ.sc.nd (bJ.v.l 2) (cn (bJ.v.nm 1) bY))
  (ay (bQ bJ.sc.nd (bJ.v.l 3) (RP (bJ.v.nm 1)))
  (ay (gm (eP tx (di _) (dZ fV (af (bJ.v.nm 1) ax) B.fY rfl fh (bJ.v.d 0) (bJ.v.g 0)) bY) (aV (iq (d6 (bJ.v.nm 0) Q.dH.cl (nX e).me (Aw base e) (hr.mono ⋯) (nX e).bd (af (bJ.v.nm 3) ax)))) fw)
  (aV (cG (bJ.v.nm 2)))))))) sj
theorem qy:Fk w mg base "first_and_rows" jq ["task","taken","row"] 397 mV 396 2 gZ:=by
 let c1:=mY base e;let c2:=vW base e;let B:=Bt e;let Q:=Qt e
 show fk (by ac_rfl) aD (λv nd cdv A outer s H E hr=>(ay (bQ aD.sc.nd (aD.v.l 3) (cn (a9 Q.cz.cl Q.qB (aD.v.nm 0)) (aD.v.nm 1)))
  (ay (bQ aD.sc.nd (aD.v.l 4) (ck c1.1 c1.2 (hr.mono ⋯) (af (aD.v.nm 3) ax) (aD.v.d 0) (aD.v.g 0)))
  (ay (bQ aD.sc.nd (aD.v.l 5) (nQ (dS (oi hr rfl aD.sc.gen aD.sc.co) (dS nG (cn (aD.v.nm 2) (aD.v.nm 4)) (cn (a9 Q.cz.cl Q.pJ (aD.v.nm 0)) (aD.v.nm 4))) (cn (aD.v.nm 3) (aD.v.nm 4)))))
  (ay (bQ aD.sc.nd (aD.v.l 6) (dS (oi hr rfl aD.sc.gen aD.sc.co) (dS nG (cn (a9 Q.cz.cl Q.oz (aD.v.nm 0)) (aD.v.nm 4)) (cn (aD.v.nm 2) (aD.v.nm 4))) (cn (aD.v.nm 3) (aD.v.nm 4))))
  (aV (cG (gj (af (aD.v.nm 5) (af (oS (Nc:=["z","row","step"]) (dz.look (bO jq) ["task","taken","row","step","lead","first","last"] ∅) (CW (aD.v.g 1) B.lg (af (aD.v.nm 5) (af (dS mj (aD.v.nm 6) bY) ax))) (λ_ _ _ _=>(kU (show(["z","row","step"]:List Str).Nodup by decide+kernel))) (λ_ _ _ _=>ir) (λ_ _ _ _=>(j6 jU (af (ck c2.1 c2.2 (hr.mono ⋯) (af fG (af fG (af fG ax))) ∅ rfl) ax) B.iw rfl gB ∅ rfl)) jx) ax)))))))))) wj
theorem sM:Fk w mg base "node_against" n5 ["task","taken","row"] 404 mV 403 3 k_:=by
 let B:=Bt e;let Q:=Qt e
 show fk (by ac_rfl) a_ (λv nd cdv A outer s H E hr=>(ay (bQ a_.sc.nd (a_.v.l 3) (d6 (a_.v.nm 0) Q.cz.cl (g_ e).me (qI base e) (hr.mono ⋯) (g_ e).bd (af (a_.v.nm 1) (af (a_.v.nm 2) ax))))
  (ay (oZ (ow (a_.v.g 1) B.lg (af (dZ fV (af (a_.v.nm 3) ax) B.fY rfl fh (a_.v.d 0) (a_.v.g 0)) ax)) (kU a_.sc.nd) (aV (gm (oH (d6 (a_.v.nm 0) Q.cz.cl (lD e).me (wB base e) (hr.mono ⋯) (lD e).bd (af (a_.v.nm 4) (af (a_.v.nm 2) ax)))) (aV (cG (gj (af nk (af (a_.v.nm 4) ax))))) fw)))
  (ay (oZ (ow (a_.v.g 1) B.lg (af (dZ fV (af (a9 Q.cz.cl Q.lV (a_.v.nm 0)) ax) B.fY rfl fh (a_.v.d 0) (a_.v.g 0)) ax)) (kU a_.sc.nd) (aV (gm (oH (d6 (a_.v.nm 0) Q.cz.cl (mL e).me (xq base e) (hr.mono ⋯) (mL e).bd (af (a_.v.nm 5) (af (a_.v.nm 1) (af (a_.v.nm 3) ax))))) (aV (cG (gj (af nk (af (a_.v.nm 5) ax))))) fw)))
  (aV (cG mh)))))) zk
theorem BI:Fk w mg base "put_if_open" pw ["waiting","task","taken","row"] 411 mV 410 4 jR:=by
 let c1:=sM base e;let Q:=Qt e
 show fk (by ac_rfl) cy (λv nd cdv A outer s H E hr=>(aV (gm (eP zU (di _) (ck c1.1 c1.2 (hr.mono ⋯) (af (cy.v.nm 1) (af (cy.v.nm 2) (af (cy.v.nm 3) ax))) (cy.v.d 0) (cy.v.g 0)) mh) (ay (bQ cy.sc.nd (cy.v.l 4) (d6 (cy.v.nm 1) Q.cz.cl (g_ e).me (qI base e) (hr.mono ⋯) (g_ e).bd (af (cy.v.nm 2) (af (cy.v.nm 3) ax))))
  (aV (iq (d6 (cy.v.nm 0) Q.dH.cl (pe e).me (BW base e) (hr.mono ⋯) (pe e).bd (af (gj (af (d6 (cy.v.nm 1) Q.cz.cl (gI e).me (pH base e) (hr.mono ⋯) (gI e).bd (af (cy.v.nm 2) (af (cy.v.nm 4) ax))) (af (cy.v.nm 4) (af (cy.v.nm 2) (af (cy.v.nm 3) ax))))) ax))))) fw))) AI
theorem Fm:Fk w mg base "best_plan" rS ["task","answer"] 418 mV 417 5 rJ:=by
 let c1:=BI base e;let c2:=qy base e;let Q:=Qt e
 show fk (by ac_rfl) ba (λv nd cdv A outer s H E hr=>(ay (bQ ba.sc.nd (ba.v.l 2) (Pa ⟨Q.dH.FJ,(iD e).me.at_,(iD e).me.fn,Q.dH.kp⟩ (uK base e) (hr.mono ⋯) (ba.v.g 0) Q.dH.mg (iD e).bd (ba.v.d 0)))
  (ay (iq (ck c1.1 c1.2 (hr.mono ⋯) (af (ba.v.nm 2) (af (ba.v.nm 0) (af bY (af (ba.v.nm 1) ax)))) (ba.v.d 1) (ba.v.g 1)))
  (ay (qD (K2 (oH (Gj (ba.v.nm 2) Q.dH.cl (kK e).me (uQ base e) (hr.mono ⋯) (kK e).bd))) (ay (bQ ba.sc.nd (ba.v.l 3) (Gj (ba.v.nm 2) Q.dH.cl (jy e).me (tS base e) (hr.mono ⋯) (jy e).bd))
  (ay (bQ ba.sc.nd (ba.v.l 4) (cn (ba.v.nm 3) bY))
  (ay (gm (oH (d6 (ba.v.nm 0) Q.cz.cl (jP e).me (uf base e) (hr.mono ⋯) (jP e).bd (af (ba.v.nm 4) ax))) (aV (cG (cn (ba.v.nm 3) bY))) fw)
  (aV (oZ (oE (cn (ck c2.1 c2.2 (hr.mono ⋯) (af (ba.v.nm 0) (af (ba.v.nm 4) (af (cn (ba.v.nm 3) bY) ax))) (ba.v.d 2) (ba.v.g 2)) bY)) (kU ba.sc.nd) (aV (iq (ck c1.1 c1.2 (hr.mono ⋯) (af (ba.v.nm 2) (af (ba.v.nm 0) (af (dS mj (ba.v.nm 4) bY) (af (ba.v.nm 5) ax)))) (ba.v.d 1) (ba.v.g 1))))))))))
  (aV (cG mh)))))) DB
theorem iS:MethAt (KX w.params) bV "__init__" "Grower.__init__" gH ["self","task","plan"] 432 (Hd.fd gH "__init__" "Grower.__init__" mV 431):=Hd.ve (by kernel_rfl) λ_ _ _ _ _ _ _ _ _=>rfl
theorem wc:cV PW w (KX w.params) mg base eN 2 432 (Hd.fd gH "__init__" "Grower.__init__" mV 431) ["self","task","plan"] (fm iY):=by
 let c1:=GW base e;let Q:=Qt e
 show fy (N:=lH) (iS e).fn cX.sc (λcdv A outer s H E hr=>(ay (d_ Q.dM.cl Q.il (cX.v.nm 0) (cX.v.nm 1))
  (ay (d_ Q.dM.cl Q.jM (cX.v.nm 0) (cX.v.nm 2))
  (aV (d_ Q.dM.cl Q.kZ (cX.v.nm 0) (IG (eP sD (di _) (cX.v.nm 2) mh) (ck c1.1 c1.2 (hr.mono ⋯) (af (a9 Q.cz.cl Q.nK (cX.v.nm 1)) (af (cX.v.nm 2) ax)) (cX.v.d 0) (cX.v.g 0)) mh)))))) vh
theorem ko:MethAt (KX w.params) bV "is_dearer" "Grower.is_dearer" gf ["self","taken","row"] 439 (Hd.fd gf "is_dearer" "Grower.is_dearer" mV 438):=Hd.ve (by kernel_rfl) λ_ _ _ _ _ _ _ _ _=>rfl
theorem u9:cV PW w (KX w.params) mg base eN 4 439 (Hd.fd gf "is_dearer" "Grower.is_dearer" mV 438) ["self","taken","row"] (fm kW):=by
 let Q:=Qt e
 show fy (N:=kJ) (ko e).fn dA.sc (λcdv A outer s H E hr=>(ay (gm (eP zU (di _) (a9 Q.dM.cl Q.jM (dA.v.nm 0)) mh) (aV (cG Ex)) fw)
  (aV (cG (d6 (a9 Q.dM.cl Q.il (dA.v.nm 0)) Q.cz.cl (mN e).me (xi base e) (hr.mono ⋯) (mN e).bd (af (dA.v.nm 1) (af (d6 (a9 Q.dM.cl Q.il (dA.v.nm 0)) Q.cz.cl (g_ e).me (qI base e) (hr.mono ⋯) (g_ e).bd (af (dA.v.nm 1) (af (dA.v.nm 2) ax))) (af (a9 Q.dM.cl Q.kZ (dA.v.nm 0)) (af (a9 Q.dM.cl Q.jM (dA.v.nm 0)) ax))))))))) uv
theorem pk:MethAt (KX w.params) bV "node" "Grower.node" gz ["self","taken","row"] 444 (Hd.fd gz "node" "Grower.node" mV 443):=Hd.ve (by kernel_rfl) λ_ _ _ _ _ _ _ _ _=>rfl
theorem rg:∀n:Nat,cV PW w (KX w.params) mg base eN (4+n) 444 (Hd.fd gz "node" "Grower.node" mV 443) ["self","taken","row"] (fm (gy n))
 |0=>MR (yX)
 |n+1=>by
  let GR:=rg n;let F:=pk e;let c1:=sM base e;let c2:=qy base e;let B:=Bt e;let Q:=Qt e;show fy (N:=o_) F.fn bE.sc (λcdv A outer s H E hr=>(ay (bQ bE.sc.nd (bE.v.l 3) (ck c1.1 c1.2 (hr.mono (Xy (show _<=4 by decide) (aab _ n))) (af (a9 Q.dM.cl Q.il (bE.v.nm 0)) (af (bE.v.nm 1) (af (bE.v.nm 2) ax))) (bE.v.d 0) (bE.v.g 0)))
  (ay (gm (eP sD (di _) (bE.v.nm 3) mh) (aV (cG (bE.v.nm 3))) fw)
  (ay (gm (oH (d6 (bE.v.nm 0) Q.dM.cl (ko e).me (u9 base e) (hr.mono (Xy (show _<=4 by decide) (aab _ n))) (ko e).bd (af (bE.v.nm 1) (af (bE.v.nm 2) ax)))) (aV (cG (gj (af nk ax)))) fw)
  (ay (gm (oH (d6 (a9 Q.dM.cl Q.il (bE.v.nm 0)) Q.cz.cl (jP e).me (uf base e) (hr.mono (Xy (show _<=4 by decide) (aab _ n))) (jP e).bd (af (bE.v.nm 1) ax))) (aV (cG (gj (af nk ax)))) fw)
  (ay (bQ bE.sc.nd (bE.v.l 4) (ck c2.1 c2.2 (hr.mono (Xy (show _<=4 by decide) (aab _ n))) (af (a9 Q.dM.cl Q.il (bE.v.nm 0)) (af (bE.v.nm 1) (af (bE.v.nm 2) ax))) (bE.v.d 1) (bE.v.g 1)))
  (aV (cG (gj (af nk (af (cn (bE.v.nm 4) bY) (af (j6 jU (af (oS (Nc:=["each","self","taken"]) (dz.look (bO gz) ["self","taken","row","against","further"] ∅) (oE (cn (bE.v.nm 4) bY)) (λ_ _ _ _=>(kU (show(["each","self","taken"]:List Str).Nodup by decide+kernel))) (λ_ _ _ _=>ir) (λ_ _ _ _=>(d6 fG Q.dM.cl F.me GR hr F.bd (af (dS mj fG bY) (af fG ax)))) jx) ax) B.iw rfl gB (bE.v.d 2) (bE.v.g 2)) ax)))))))))))) (Ag n)
theorem BX:cV PW w (KX w.params) mg base eN 13 444 (Hd.fd gz "node" "Grower.node" mV 443) ["self","taken","row"] (fm (gy 9)):=rg base e 9
theorem LL:Fk w mg base "planned" vm ["costs","rows","due","low","high"] 458 mV 457 14 jj:=by
 let c1:=Ko base e;let c2:=Fm base e;let Q:=Qt e
 show fk (by ac_rfl) bD (λv nd cdv A outer s H E hr=>(ay (bQ bD.sc.nd (bD.v.l 5) (ck c1.1 c1.2 (hr.mono ⋯) (af (bD.v.nm 1) (af (bD.v.nm 2) ax)) (bD.v.d 0) (bD.v.g 0)))
  (ay (gm (eP (tJ hr) (di _) (cn (bD.v.nm 5) bY) nk) (aV (cG (gj (af nk (af (gj (af (bD.v.nm 5) (af (gj ax) ax))) ax))))) fw)
  (ay (bQ bD.sc.nd (bD.v.l 6) (uA ⟨Q.cz.FJ,(kh e).me.at_,(kh e).me.fn,Q.cz.kp⟩ (yw base e) (hr.mono ⋯) (bD.v.g 1) Q.cz.mg (kh e).bd (af (bD.v.nm 0) (af (bD.v.nm 1) (af (bD.v.nm 2) (af (bD.v.nm 3) (af (bD.v.nm 4) (af (cn (bD.v.nm 5) bY) ax)))))) (bD.v.d 1)))
  (ay (bQ bD.sc.nd (bD.v.l 7) (uA ⟨Q.dM.FJ,(iS e).me.at_,(iS e).me.fn,Q.dM.kp⟩ (wc base e) (hr.mono ⋯) (bD.v.g 3) Q.dM.mg (iS e).bd (af (bD.v.nm 6) (af (ck c2.1 c2.2 (hr.mono ⋯) (af (bD.v.nm 6) (af (cn (bD.v.nm 5) bY) ax)) (bD.v.d 2) (bD.v.g 2)) ax)) (bD.v.d 3)))
  (ay (bQ bD.sc.nd (bD.v.l 8) (gj (af (bD.v.nm 5) (af (d6 (bD.v.nm 7) Q.dM.cl (pk e).me (BX base e) (hr.mono ⋯) (pk e).bd (af bY (af (cn (bD.v.nm 5) bY) ax))) ax))))
  (ay (gm (eP zU (di _) (a9 Q.dM.cl Q.jM (bD.v.nm 7)) mh) (aV (cG (gj (af nk (af (bD.v.nm 8) ax))))) fw)
  (aV (cG (gj (af nk (af (a9 Q.dM.cl Q.kZ (bD.v.nm 7)) (af (a9 Q.dM.cl Q.jM (bD.v.nm 7)) (af (bD.v.nm 8) ax)))))))))))))) Ic
theorem L9:Fk w mg base "_law_at" xo ["_law_script","_law_k"] 465 gE 464 1 xB:=by
 let B:=Bt e;show fk (by ac_rfl) MJ (λv nd _ _ _ _ _ _ hr=>by nofun) KN
theorem HU:Fk w mg base "_law_hand" tu ["_law_script","_law_k"] 472 gE 471 2 tD:=by
 let c1:=L9 base e;let B:=Bt e;show fk (by ac_rfl) GV (λv nd _ _ _ _ _ _ hr=>by nofun) Fo
theorem iH:Fk w mg base "_law_take" tE ["_law_hand_here","_law_many"] 479 gE 478 1 cH:=by
 let B:=Bt e;show fk (by ac_rfl) Iv (λv nd _ _ _ _ _ _ hr=>by nofun) E8
theorem AU:Fk w mg base "_law_dot" vk ["_law_one","_law_other"] 484 gE 483 1 o6:=by
 let B:=Bt e;show fk (by ac_rfl) J8 (λv nd _ _ _ _ _ _ hr=>by nofun) HB
theorem rh:Fk w mg base "_law_row" vn ["_law_hand_here","_law_wide","_law_size"] 489 gE 488 2 jm:=by
 let c1:=iH base e;let B:=Bt e;show fk (by ac_rfl) Kj (λv nd _ _ _ _ _ _ hr=>by nofun) Im
theorem Ie:Fk w mg base "_law_rows" tG ["_law_hand_here","_law_wide","_law_many"] 494 gE 493 3 s_:=by
 let c1:=iH base e;let c2:=rh base e;let B:=Bt e;show fk (by ac_rfl) GS (λv nd _ _ _ _ _ _ hr=>by nofun) E7
theorem KQ:Fk w mg base "_law_box" uU ["_law_hand_here","_law_wide","_law_span"] 499 gE 498 3 u_:=by
 let c1:=rh base e;let c2:=iH base e;let B:=Bt e;show fk (by ac_rfl) Lg (λv nd _ _ _ _ _ _ hr=>by nofun) HI
theorem Fh:Fk w mg base "_law_inner" r9 ["_law_hand_here","_law_low","_law_high"] 506 gE 505 2 rO:=by
 let c1:=iH base e;let B:=Bt e;show fk (by ac_rfl) E3 (λv nd _ _ _ _ _ _ hr=>by nofun) DY
theorem GI:Fk w mg base "_law_task" pL ["_law_hand_here","_law_wide","_law_many","_law_span"] 511 gE 510 4 tT:=by
 let c1:=Ie base e;let c2:=KQ base e;let c3:=Fh base e;let c4:=AU base e;let c5:=iH base e;let c6:=rh base e;let B:=Bt e
 show fk (by ac_rfl) aH (λv nd cdv A outer s H E hr=>(ay (bQ aH.sc.nd (aH.v.l 4) (ck c1.1 c1.2 (hr.mono ⋯) (af (aH.v.nm 0) (af (aH.v.nm 1) (af (aH.v.nm 2) ax))) (aH.v.d 0) (aH.v.g 0)))
  (ay (Kw (ck c2.1 c2.2 (hr.mono ⋯) (af (aH.v.nm 0) (af (aH.v.nm 1) (af (aH.v.nm 3) ax))) (aH.v.d 1) (aH.v.g 1)) (yW rfl aH.sc.nd))
  (ay (bQ aH.sc.nd (aH.v.l 7) (ck c3.1 c3.2 (hr.mono ⋯) (af (aH.v.nm 0) (af (aH.v.nm 5) (af (aH.v.nm 6) ax))) (aH.v.d 2) (aH.v.g 2)))
  (ay (Ng aH.sc.nd (aH.v.l 8) (Nc:=["_law_row_here","_law_inner_here"]) (dz.look (bO pL) ["_law_hand_here","_law_wide","_law_many","_law_span","_law_rows_here","_law_low","_law_high","_law_inner_here","_law_due","_law_costs"] ∅) (oE (aH.v.nm 4)) (λ_ _ _ _=>(kU (show(["_law_row_here","_law_inner_here"]:List Str).Nodup by decide+kernel))) (λ_ _ _ _=>ir) (λ_ _ _ _=>(ck c4.1 c4.2 (hr.mono ⋯) (af fG (af fG ax)) ∅ rfl)) jx)
  (ay (gm (eP (tJ hr) (di _) (ck c5.1 c5.2 (hr.mono ⋯) (af (aH.v.nm 0) (af bY ax)) (aH.v.d 3) (aH.v.g 3)) bY) (aV (MW (aH.v.nm 8) (ck c5.1 c5.2 (hr.mono ⋯) (af (aH.v.nm 0) (af (aH.v.nm 2) ax)) (aH.v.d 3) (aH.v.g 3)) (dS nG (ck c5.1 c5.2 (hr.mono ⋯) (af (aH.v.nm 0) (af bY ax)) (aH.v.d 3) (aH.v.g 3)) bY) Lu)) fw)
  (ay (bQ aH.sc.nd (aH.v.l 9) (ck c6.1 c6.2 (hr.mono ⋯) (af (aH.v.nm 0) (af (aH.v.nm 1) (af (cn (gj (af bY (af bY (af bY (af bY ax))))) (ck c5.1 c5.2 (hr.mono ⋯) (af (aH.v.nm 0) (af bY ax)) (aH.v.d 3) (aH.v.g 3))) ax))) (aH.v.d 4) (aH.v.g 4)))
  (aV (cG (gj (af (aH.v.nm 9) (af (aH.v.nm 4) (af (j6 jU (af (aH.v.nm 8) ax) B.iw rfl gB (aH.v.d 5) (aH.v.g 5)) (af (aH.v.nm 5) (af (aH.v.nm 6) ax))))))))))))))) ET
theorem rj:Fk w mg base "_law_is_number" nR ["_law_found"] 528 gE 527 1 kb:=by
 let B:=Bt e;show fk (by ac_rfl) yL (λv nd _ _ _ _ _ _ hr=>by nofun) yg
theorem CG:Fk w mg base "_law_is_row" p9 ["_law_found","_law_due"] 533 gE 532 2 qb:=by
 let c1:=rj base e;let B:=Bt e;show fk (by ac_rfl) Ey (λv nd _ _ _ _ _ _ hr=>by nofun) BL
theorem BP:Fk w mg base "_law_is_best" pd ["_law_told","_law_best"] 540 gE 539 3 fK:=by
 let c1:=rj base e;let c2:=CG base e;let B:=Bt e;show fk (by ac_rfl) BH (λv nd _ _ _ _ _ _ hr=>by nofun) zW
theorem y4:Fk w mg base "_law_plus" tZ ["_law_one","_law_other","_law_many"] 545 gE 544 1 jC:=by
 let B:=Bt e;show fk (by ac_rfl) IA (λv nd _ _ _ _ _ _ hr=>by nofun) ES
theorem CV:Fk w mg base "_law_turned" qo ["_law_hand_here","_law_rows_here","_law_due"] 550 gE 549 2 qE:=by
 let c1:=iH base e;let c2:=y4 base e;let B:=Bt e;show fk (by ac_rfl) Ej (λv nd _ _ _ _ _ _ hr=>by nofun) BY
theorem E2:Fk w mg base "_law_right" rV ["_law_hand_here","_law_task_here"] 555 gE 554 15 rY:=by
 let c1:=LL base e;let c2:=BP base e;let c3:=CV base e;let c4:=iH base e;let c5:=y4 base e;let c6:=rh base e;let c7:=AU base e;let B:=Bt e;show fk (by ac_rfl) Fi (λv nd _ _ _ _ _ _ hr=>by nofun) DG
theorem T9:Fk w mg base "law" yi ["_law_script"] 562 gE 561 16 NF:=by
 let c1:=HU base e;let c2:=iH base e;let c3:=GI base e;let c4:=E2 base e;let B:=Bt e;show fk (by ac_rfl) Uj (λv nd _ _ _ _ _ _ hr=>by nofun) RG
end
def dL:DefRec:=match yi with
 | .FunctionDef n a b _ _ _ sc _ _ pos=>⟨n,a,b,sc,pos⟩
 |_=>⟨"",L2.m4 (.Pass ⟨0,0,0,0⟩),[],L2.bO (.Pass ⟨0,0,0,0⟩),⟨0,0,0,0⟩⟩
end Row
open PySem PySem.W PyProof.Rows
set_option maxRecDepth 100000 in
set_option maxHeartbeats 0 in
theorem PySem.Challenge.cw_latticeworks_k78_turned_tasks_holds : PySem.Challenge.rw_latticeworks_k78_turned_tasks.Holds := by
 show PySem.W.holds_law Row.Mc λMc=>?_;show PySem.W.holds_open (r:=PySem.Challenge.rw_latticeworks_k78_turned_tasks.row) (q:=PySem.W.view Row.PW [1,2,3,4,5,6,7,9,10,11,12,13,14,15,16,18,19,20,21,22,23,24,25,27,28,29,31,32,34,35,36,37,39,41,42,43,44,45,46,48,49,50,51,52,53,54,55,56,57,58,59,60,61,62,63,64,65]) (loose:=[]) (Xt:=λ_=>true) (XP:=λ_ _=>True) (YP:=(PySem.W.kmHook Row.KX Row.KA (λ_=>rfl) [166]).says) (d:=Row.dL) (kwd:=[]) Row.left ((PySem.W.kmHook Row.KX Row.KA (λ_=>rfl) [166]).of) ((PySem.W.kmHook Row.KX Row.KA (λ_=>rfl) [166]).keeps) (λ_ _=>trivial) (λ_ _ _ _ _=>trivial) (by kernel_rfl) (by kernel_rfl) (by kernel_rfl) (λs _=>PySem.W.recFacts_of (R:=[]) rfl) (by kernel_rfl) Mc ∅ ⟨rfl,rfl,rfl,rfl,rfl,by decide+kernel⟩ ?hw ?hc;case hw=>w_witness2
 show L2.TZ (n:=63) (k:=16) (x:="_law_script") (ts:=[(168,166)]) (K:=Row.KX) (sp:=λw=>L3.Kn (Row.KX w.params) [(168,166)]) rfl ⋯ (by kernel_rfl) ⟨rfl,by decide,by decide⟩ (by kernel_rfl) rfl (λw h Y=>⟨PySem.W.km_in_of Y,⟨(λq hq=>by rcases XU.mp hq with rfl|hq;kernel_rfl;cases hq),(λq hq=>by rcases XU.mp hq with rfl|hq;kernel_rfl;cases hq),λq hq=>PySem.W.km_tabs_of Y _ (Yl (f:=Prod.snd) hq)⟩⟩) ?F λ_ _ a ns hl hE=>⟨a,ns,rfl,hE,hl,λ_=>rfl⟩
 intro w mg fa h X G hmg;let e2:=hmg.symm.trans (aaf (v:= .ref 562) X G (by kernel_rfl));cases e2;show⟨Hd.fd Row.yi "law" "law" Row.gE 561,λs v=> .of_eq rfl,λbase _ _=>(Row.T9 base ⟨X,G⟩).2.imp λvs H Q E h=>L3.Jj (tl:=[(166,⟨84,32,84,66⟩,"Bench.live_rows.<locals>.<lambda>")]) (by kernel_rfl) rfl ⋯ h⟩
