import PyProof.Rows.All
import Wide.All
import OpenK.AllK
import Wide.FinOn
import Lean
import PyProof.EqAt
import PyProof.EqKinds
import PyProof.TupleCall
import PyProof.NeKinds
import KE.KUnpack
import PyProof.CallStr
import PyProof.StrLawsChain
import KE.KIntText
import PySem.Challenge.RW_latticeworks_k81_orders_read
set_option Elab.async false
set_option linter.all false
set_option maxRecDepth 100000
def GV:=@List.length_map
def GW:=@List.getElem?_eq_some_iff
def GX:=@List.length_append
def GY:=@PySem.Heap.get?_push_of_some
def GZ:=@PySem.wpAny_bind
def G0:=@List.getElem?_eq_getElem
def G7:=@List.mem_cons_of_mem
def G8:=@Nat.le_refl
def G9:=@List.mem_cons
def G_:=@Nat.le_of_ble_eq_true
def Hb:=@List.getElem?_map
def Hc:=@decide_eq_false
def He:=@List.length_replicate
def Hf:=@List.size_toArray
def Hg:=@PySem.Heap.lt_size
def Hi:=@if_neg
def Hj:=@Bool.false_ne_true
def Hk:=@List.mem_of_getElem?
def Hl:=@List.length_cons
def Hm:=@List.mem_cons_self
def Hn:=@List.append_assoc
def Ho:=@Bool.and_eq_true
def Hq:=@PySem.Heap.get?_push_size
def Hr:=@decide_eq_true
def Hu:=@if_pos
def Hv:=@List.mem_map
def Hw:=@Nat.lt_of_lt_of_le
def Hx:=@List.mem_iff_getElem?
def Hy:=@List.map_cons
def Hz:=@List.mem_append
def HA:=@PySem.wpAny_pure
def HB:=@List.getElem?_set_ne
def HC:=@List.map_map
def HD:=@List.mem_map_of_mem
def HE:=@List.getElem?_cons_succ
def HF:=@List.getElem?_append_left
def HG:=@List.replicate_succ
def HH:=@List.all_eq_true
def HI:=@PySem.W.mg_none_of
def HJ:=@List.getElem?_set_self
def HK:=@Nat.ne_of_lt
def HL:=@List.append_nil
def HM:=@List.mem_append_right
def HN:=@Option.map_eq_some_iff
def HP:=@Ne.symm
def HQ:=@List.getElem?_append_right
def HR:=@List.cons_append
def HS:=@Option.some.inj
def HU:=@List.lookup_cons
def HV:=@PySem.mem_of_lookup
def HW:=@Int.fdiv_eq_ediv_of_nonneg
def HX:=@Nat.le_trans
def HY:=@List.nodup_cons
def HZ:=@List.length_set
def H0:=@congrArg
def H_:=@List.eq_of_mem_replicate
def Ia:=@PySem.W.kia_one
def Ib:=@PySem.wpAny_truthy_bool
def Ic:=@List.filter_cons
def Ie:=@List.length_eq_zero_iff
def Ig:=@decide_eq_true_eq
def Ih:=@PyProof.Rows.callWith_type1
def Ii:=@List.range_succ_eq_map
def Ij:=@List.not_mem_nil
def Ik:=@PySem.Heap.size_push
def Il:=@List.forIn_cons
def Im:=@List.all_cons
def Io:=@PySem.wpAny_callSpecial?_slot
def Ip:=@PySem.wpAny_mono
def Iq:=@PySem.W.cellsFrom_some
def Ir:=@PySem.call_meets
def Iu:=@Int.fmod_nonneg_of_pos
def Iv:=@PySem.wpAny_passesOwn
def Iw:=@List.map_append
def Iy:=@Nat.lt_irrefl
def Iz:=@List.any_cons
def IA:=@List.getD_eq_getElem?_getD
def IB:=@PySem.F.slot_tuple_iterator_next
def IC:=@List.flatten_cons
def ID:=@Int.toNat_natCast
def IE:=@not_or
def IF:=@List.drop_eq_getElem_cons
def IG:=@PySem.wpAny_field
def IH:=@Option.isSome_iff_exists
def II:=@List.takeWhile_append_dropWhile
def IJ:=@PySem.wpAny_Call_Name_kw
def IK:=@Option.map_some
def IL:=@PySem.wpAny_pyIter_tuple
def IM:=@Int.natAbs_natCast
def IP:=@List.mem_singleton
def IQ:=@Int.fmod_lt_of_pos
def IS:=@Nat.zero_le
def IT:=@List.take_of_length_le
def IU:=@Int.one_mul
def IV:=@PySem.F.slot_str_split
def IW:=@PySem.F.type_str_split
def IX:=@Nat.ne_of_gt
def IY:=@PySem.F.slot_str_join
def IZ:=@PySem.F.type_str_join
def I_:=@List.mem_iff_getElem
def Ja:=@PySem.F.slot_tuple_mul
def Jb:=@PySem.wpAny_call_entry
def Jc:=@List.reverse_reverse
def Jd:=@PySem.W.mg_of
def Je:=@beq_eq_false_iff_ne
def Jf:=@Array.length_toList
def Jg:=@List.dropWhile_cons
def Jh:=@PySem.F.args_tuple_add_2
def Ji:=@PySem.wpAny_setField_rec
def Jj:=@List.zip_cons_cons
def Jk:=@PySem.typeIs_str
def Jl:=@PySem.wpAny_seqItems
def Jm:=@Nat.mul_le_mul
def Jn:=@PySem.F.entry_tuple_add
def Jo:=@Option.bind_eq_some_iff
def Jp:=@PySem.W.kitx_list
def Jq:=@PySem.W.kitx_dict
def Jr:=@PySem.wpAny_pyIter_list
def Js:=@PySem.F.slot_tuple_add
def Jt:=@PySem.F.slot_str_strip
def Ju:=@PySem.F.type_str_strip
def Jv:=@PySem.StrLaws.strSub_toList
def Jw:=@Nat.le_of_not_lt
def Jx:=@beq_self_eq_true
def Jy:=@Nat.eq_zero_of_gcd_eq_zero_right
def Jz:=@PySem.Heap.get?_update_self
def JD:=@List.replicate_append_replicate
def JF:=@List.mem_append_left
def JH:=@PySem.wpAny_execs_nil
def JJ:=@Bool.eq_iff_iff
def JK:=@List.nil_append
def JL:=@PySem.F.slot_int_rmul
def JM:=@PySem.wpAny_ite_false
def JN:=@Bool.or_eq_true
def JP:=@PySem.F.slot_zip_next
def JQ:=@Bool.and_eq_true_iff
def JR:=@List.filterMap_cons
def JU:=@PySem.Heap.SameBut.update
def JV:=@ne_true_of_eq_false
def JX:=@List.append_toArray
def JY:=@PySem.F.args_tuple_iterator_next_1
def JZ:=@List.drop_drop
def J0:=@Int.mul_ediv_mul_of_pos_left
def J1:=@Nat.log2_lt
def J2:=@PyProof.Rows.assignInOrder_cons
def J3:=@PySem.F.args_tuple_mul_2
def J4:=@PySem.F.entry_tuple_iterator_next
def J5:=@PySem.F.args_str_split_2
def J6:=@PySem.Calls.Name_function_global
def J8:=@PySem.wpAny_holding
def J9:=@PySem.wpAny_standAt
def J_:=@PySem.F.slot_str_partition
def Ka:=@PySem.F.type_str_partition
def Kb:=@PySem.wpAny_newObj_type
def Kc:=@Nat.lt_succ_of_lt
def Kd:=@Nat.le_of_succ_le
def Ke:=@PySem.F.entry_tuple_mul
def Kf:=@PySem.F.entry_str_split
def Kg:=@Nat.gcd_dvd_right
def Kh:=@of_decide_eq_true
def Ki:=@PySem.typeIs_int
def Kj:=@PySem.wpAny_binaryOp_repeat_ref
def Kk:=@List.getElem?_eq_none_iff
def Kl:=@PySem.strKind_is
def Km:=@PySem.noFill_tuple_add
def Kn:=@List.map_nil
def Ko:=@PySem.wpAny_comprehension_free
def Kp:=@or_false
def Kq:=@decide_eq_decide
def Kr:=@PySem.wpAny_pyIter_zip
def Ks:=@PySem.F.slot_str_split
def Kt:=@Nat.gcd_comm
def Ku:=@Int.mul_fdiv_cancel_left
def Kv:=@List.getElem?_replicate
def Kw:=@List.of_mem_zip
def Kx:=@beq_false_of_ne
def Ky:=@PySem.sizeLine_eq
def Kz:=@PySem.Heap.get?_update_other
def KC:=@Prod.mk.inj
def KD:=@List.drop_eq_nil_of_le
def KG:=@List.reverse_replicate
def KH:=@List.mem_range
def KI:=@List.length_singleton
def KJ:=@List.forIn_nil
def KL:=@List.getElem?_toArray
def KN:=@List.getElem?_eq_none
def KO:=@PySem.wpAny_newTuple
def KP:=@List.contains_iff_mem
def KQ:=@bne_iff_ne
def KR:=@beq_iff_eq
def KS:=@PySem.seq_tuple_add
def KU:=@PySem.wpAny_attempt
def KW:=@Nat.le_of_lt
def KY:=@PySem.codeAny_mono
def KZ:=@PySem.concat_meets
def K0:=@Nat.mul_comm
namespace L2
open PySem PySem.Spec PyProof.Rows
abbrev Key:=Sum Int Str
def zz:Key->Value->Bool
 | .inl k,v=>Value.isInt k v
 | .inr x,v=>Value.isStrOf x v
def Gh(w:World):Key->Int
 | .inl k=>hashInt k
 | .inr x=>hashStr w x
theorem cf:∀ {k:Key} {v:Value},zz k v=true->(∃i t,k=Sum.inl i/\v=Value.int i t)\/(∃x t,k=Sum.inr x/\v=Value.str x t)
 | .inl i,v,h=>by
   obtain⟨t,e⟩:=Value.isInt_shape (k:=i) (v:=v) h;exact .inl ⟨i,t,rfl,e⟩
 | .inr x,v,h=>by
   obtain⟨t,e⟩:=Value.isStrOf_shape (x:=x) (v:=v) h;exact .inr ⟨x,t,rfl,e⟩
theorem Dz(a b:Int):decide ((Sum.inl a:Key)=Sum.inl b)=(a==b):=by
 by_cases e:a=b
 . subst e;simp
 . have h:¬(Sum.inl a:Key)=Sum.inl b:=λ q=>e (Sum.inl.inj q);rw[Hc h];exact(Je.mpr e).symm
theorem DG(a b:Str):decide ((Sum.inr a:Key)=Sum.inr b)=decide (a=b):=by
 by_cases e:a=b
 . subst e;simp
 . have h:¬(Sum.inr a:Key)=Sum.inr b:=λ q=>e (Sum.inr.inj q);rw[Hc h,Hc e]
theorem B_(a:Int)(b:Str):decide ((Sum.inl a:Key)=Sum.inr b)=false:=Hc (λ q=>nomatch q)
theorem Cc(a:Str)(b:Int):decide ((Sum.inr a:Key)=Sum.inl b)=false:=Hc (λ q=>nomatch q)
def tZ(prog:Program)(w:World):PySem.KeyKind prog w Key where
 is:=zz
 hash:=Gh w
 inj:=λ v a b ha hb=>by
  rcases cf ha with⟨i,t,rfl,rfl⟩|⟨x,t,rfl,rfl⟩
  . rcases cf hb with⟨j,u,rfl,e⟩|⟨y,u,rfl,e⟩
    . injection e with e1 _;rw[e1]
    . exact nomatch e
  . rcases cf hb with⟨j,u,rfl,e⟩|⟨y,u,rfl,e⟩
    . exact nomatch e
    . injection e with e1 _;rw[e1]
 byValue:=λ k v h=>by
  rcases cf h with⟨i,t,rfl,rfl⟩|⟨x,t,rfl,rfl⟩<;>rfl
 pyHash:=λ hv h=>by
  rcases cf hv with⟨i,t,rfl,rfl⟩|⟨x,t,rfl,rfl⟩
  . exact wpAny_pyHash_int h
  . exact wpAny_pyHash_str h
 eqBool:=λ hu hv h=>by
  rcases cf hu with⟨i,t,rfl,rfl⟩|⟨x,t,rfl,rfl⟩
  . rcases cf hv with⟨j,u,rfl,rfl⟩|⟨y,u,rfl,rfl⟩
    . rw[Dz]at h;exact wpAny_eqBool_int h
    . rw[B_]at h;exact SeqAt.EqAt.int_str i t y u _ _ _ _ h
  . rcases cf hv with⟨j,u,rfl,rfl⟩|⟨y,u,rfl,rfl⟩
    . rw[Cc]at h;exact SeqAt.EqAt.str_int x t j u _ _ _ _ h
    . rw[DG]at h;exact wpAny_eqBool_str h
 «strs» :=λ k x t v h=>by
  rcases cf h with⟨i,u,rfl,e⟩|⟨y,u,rfl,e⟩
  . exact nomatch e
  . injection e with e1 _;subst e1;cases v<;>rfl
inductive V where
 |aH|bl (b:Bool)|int (i:Int)|str (x:Str)|nk (b:Array UInt8)|ny (b:UInt64)|ref (a:Addr)|ty (n:String)
 deriving DecidableEq
def RelV:V->Value->Prop
 | .aH,u=>u=Value.none
 | .bl b,u=>u=Value.bool b
 | .int i,u=>∃t,u=Value.int i t
 | .str x,u=>∃t,u=Value.str x t
 | .nk b,u=>∃t,u=Value.bytes b t
 | .ny b,u=>∃t,u=Value.float b t
 | .ref a,u=>u=Value.ref a
 | .ty n,u=>u=Value.type n
abbrev Vals:List V->List Value->Prop:=Paired RelV
theorem Vals.length{xs:List V}{us:List Value}(r:Vals xs us):xs.length=us.length:=Paired.length r
theorem Vals.get:∀ {xs:List V} {us:List Value} {i:Nat} {x:V},Vals xs us->xs[i]?=some x->∃u,us[i]?=some u/\RelV x u
 |_,_,_,_,.nil,e=>by simp at e
 |_,_,0,_,.cons r _,e=>by simp at e;subst e;exact⟨_,rfl,r⟩
 |_,_,i+1,x,.cons _ t,e=>by
  obtain⟨u,h1,h2⟩:=Vals.get (i:=i) (x:=x) t (by simpa using e);exact⟨u,by simpa using h1,h2⟩
theorem Vals.set{x:V}{u:Value}(r:RelV x u):∀ {xs:List V} {us:List Value} (i:Nat),Vals xs us->Vals (xs.set i x) (us.set i u)
 |_,_,_,.nil=> .nil
 |_,_,0,.cons _ t=> .cons r t
 |_,_,i+1,.cons q t=> .cons q (Vals.set r i t)
theorem Vals.append:∀ {xs ys:List V} {us ws:List Value},Vals xs us->Vals ys ws->Vals (xs++ys) (us++ws)
 |_,_,_,_,.nil,s=>s
 |_,_,_,_,.cons r t,s=> .cons r (Vals.append t s)
def yY:Option V->Option Value->Prop
 |some v,some u=>RelV v u
 |none,none=>True
 |_,_=>False
def KV{κ:Type}:List (κ×V)->List (κ×Value)->Prop:=Paired λ(p:κ×V) (q:κ×Value)=>p.1=q.1/\RelV p.2 q.2
def kV:Key->V
 | .inl i=> .int i
 | .inr x=> .str x
inductive HO where
 |lst (xs:List V)
 |tup (xs:List V)
 |dK (kvs:List (Key×V))|dT (kvs:List (List Key×V))
 |set (S:Int->Bool) (n:Nat)
 |ins (C dx:Addr) (fs:List (Str×V))
 |own (x:Addr)
 |xd (fs:List (Str×V))
 |met (f x:Addr)
 |CS (lo hi:Int)
 |d7 (o:Obj) (u:HO)
 |gN (ps:Array Value)
 |ext (φ:Heap->Prop)
abbrev Hp:=Addr->Option HO
def upd(H:Hp)(a:Addr)(o:HO):Hp:=λ b=>if b=a then some o else H b
theorem a9{H:Hp}{a:Addr}{o:HO}:upd H a o a=some o:=by unfold upd;rw[Hu rfl]
theorem aK{H:Hp}{a b:Addr}{o:HO}(h:b≠a):upd H a o b=H b:=by unfold upd;rw[Hi h]
theorem Ah{H:Hp}{a:Addr}{o u:HO}:upd (upd H a o) a u=upd H a u:=by
 funext b;unfold upd;split<;>rfl
theorem cc{H:Hp}{a b:Addr}{o:HO}(h:H a=some o)(h':H b=none):a≠b:=by
 intro e;subst e;rw[h]at h';cases h'
section
variable (P:Program)(w:World)
def bL(H:Hp)(h:Heap)(a:Addr):HO->Prop
 | .lst xs=>xs.length<=sizeLine/\∃(its:List Value) (n:Nat),Vals xs its/\h.get? a=some {cls:= .type "list",data:= .seq its.toArray n}
 | .tup xs=>xs.length<=sizeLine/\∃its:List Value,Vals xs its/\IsTup h a its.toArray
 | .dK kvs=>kvs.length<=sizeLine/\(a==sysModules)=false/\∃vs,KV kvs vs/\h.DictOf (tZ P w) a vs
 | .dT kvs=>kvs.length<=sizeLine/\(a==sysModules)=false/\∃xs:List (List Key×Addr×Value),
    Paired (λ(p:List Key×V) (q:List Key×Addr×Value)=>p.1=q.1/\H q.2.1=some (.tup (p.1.map kV))/\RelV p.2 q.2.2) kvs xs/\
    ∃o es ep,h.get? a=some o/\o.ExactDict/\o.data= .dict es ep/\es.toList=xs.map (entryOfKey (tupleKind (tZ P w)))/\(xs.map (·.1)).Nodup
 | .set S n=>h.SetOf (intKind P w) a S n
 | .ins C dx fs=>H dx=some (.own a)/\fs.length<=1000/\dx≠a/\h.get? a=some (PySem.W.instObj C dx)/\
    ∃mA,h.Ns1 dx mA/\(∀f,yY (fs.lookup f) (mA f))/\PySem.Within mA (fs.map (·.1))
 | .own _=>∃o,h.get? a=some o
 | .xd fs=>∃mA,h.Ns1 a mA/\∀f,yY (fs.lookup f) (mA f)
 | .CS lo hi=>∃t u v,h.get? a=some {cls:= .type "range",data:= .fields #[.int lo t,.int hi u,.int 1 v]}
 | .d7 o u=>h.get? a=some o/\bL H h a u
 | .gN ps=>h.get? a=some {cls:= .none,data:= .fields ps}
 | .met f x=>h.get? a=some (PySem.W.methodObj (.ref f) (.ref x))
 | .ext φ=>φ h/\(∃o,h.get? a=some o)/\∀h1 h2:Heap,φ h1->(∀o,h1.get? a=some o->h2.get? a=some o)->φ h2
def du(H:Hp)(h:Heap):Prop:=∀a o,H a=some o->bL P w H h a o
end
section
variable {P:Program}{w:World}{H H':Hp}{h h':Heap}{a:Addr}{o:HO}
theorem bL.lt(x:bL P w H h a o):a<h.objs.size:=by
 cases o with
 |lst xs=>obtain⟨_,_,_,_,e⟩:=x;exact Hg e
 |tup xs=>obtain⟨_,_,_,p⟩:=x;exact p.lt
 |dK kvs=>obtain⟨_,_,_,_,o,_,_,e,_⟩:=x;exact Hg e
 |dT kvs=>obtain⟨_,_,_,_,o,_,_,e,_⟩:=x;exact Hg e
 |set S n=>obtain⟨o,_,_,_,e,_⟩:=x;exact Hg e
 |ins C dx fs=>obtain⟨_,_,_,e,_⟩:=x;exact Hg e
 |own y=>obtain⟨_,e⟩:=x;exact Hg e
 |xd fs=>obtain⟨_,⟨_,_,_,e,_⟩,_⟩:=x;exact Hg e
 |CS lo hi=>obtain⟨_,_,_,e⟩:=x;exact Hg e
 |d7 ob u=>obtain⟨e,_⟩:=x;exact Hg e
 |gN ps=>exact Hg (show h.get? a=some _ from x)
 |met f y=>exact Hg (show h.get? a=some _ from x)
 |ext φ=>obtain⟨_,⟨_,e⟩,_⟩:=x;exact Hg e
theorem Paired.x_{α β:Type}{F G:α->β->Prop}:∀ {l₁:List α} {l₂:List β},Paired F l₁ l₂->(∀a b,F a b->G a b)->Paired G l₁ l₂
 |_,_,.nil,_=> .nil
 |_,_,.cons r t,f=> .cons (f _ _ r) (Paired.x_ t f)
theorem bL.kG(x:bL P w H h a o)(k:∀b u,(b=a\/H b=some (.own a))->h.get? b=some u->h'.get? b=some u)
 (ho:∀b,H b=some (.own a)->H' b=some (.own a)) (ht:∀b xs,H b=some (.tup xs)->H' b=some (.tup xs)):bL P w H' h' a o:=by
 induction o with
 |lst xs=>obtain⟨z,its,n,r,e⟩:=x;exact⟨z,its,n,r,k _ _ (.inl rfl) e⟩
 |tup xs=>obtain⟨z,its,r,ob,e,c⟩:=x;exact⟨z,its,r,ob,k _ _ (.inl rfl) e,c⟩
 |dK kvs=>obtain⟨z,y,vs,r,ob,es,ep,e,c⟩:=x;exact⟨z,y,vs,r,ob,es,ep,k _ _ (.inl rfl) e,c⟩
 |dT kvs=>
  obtain⟨z,y,xs,r,ob,es,ep,e,c⟩:=x;exact⟨z,y,xs,Paired.x_ r λ p q z=>⟨z.1,ht _ _ z.2.1,z.2.2⟩,ob,es,ep,k _ _ (.inl rfl) e,c⟩
 |set S n=>obtain⟨ob,es,ep,t,e,c⟩:=x;exact⟨ob,es,ep,t,k _ _ (.inl rfl) e,c⟩
 |ins C dx fs=>
  obtain⟨d,z,ne,e,mA,⟨od,es,ep,e2,c⟩,r⟩:=x;exact⟨ho _ d,z,ne,k _ _ (.inl rfl) e,mA,⟨od,es,ep,k _ _ (.inr d) e2,c⟩,r⟩
 |own y=>obtain⟨ob,e⟩:=x;exact⟨ob,k _ _ (.inl rfl) e⟩
 |xd fs=>obtain⟨mA,⟨od,es,ep,e,c⟩,r⟩:=x;exact⟨mA,⟨od,es,ep,k _ _ (.inl rfl) e,c⟩,r⟩
 |CS lo hi=>obtain⟨t,u,v,e⟩:=x;exact⟨t,u,v,k _ _ (.inl rfl) e⟩
 |d7 ob u ih=>obtain⟨e,q⟩:=x;exact⟨k _ _ (.inl rfl) e,ih q⟩
 |gN ps=>
  have e:h.get? a=some {cls:= .none,data:= .fields ps}:=x;show h'.get? a=some {cls:= .none,data:= .fields ps};exact k a _ (.inl rfl) e
 |met f y=>
  have e:h.get? a=some (PySem.W.methodObj (.ref f) (.ref y)):=x;show h'.get? a=some (PySem.W.methodObj (.ref f) (.ref y));exact k a _ (.inl rfl) e
 |ext φ=>obtain⟨p,⟨o,e⟩,st⟩:=x;exact⟨st _ _ p λ o q=>k _ _ (.inl rfl) q,⟨o,k _ _ (.inl rfl) e⟩,st⟩
theorem du.lt(x:du P w H h)(e:H a=some o):a<h.objs.size:=(x a o e).lt
theorem du.fresh(x:du P w H h)(e:h.objs.size<=a):H a=none:=by
 cases q:H a with
 |none=>rfl
 |some u=>exact absurd (Hw (x.lt q) e) (Iy _)
theorem du.kept(x:du P w H h)(k:∀b u,h.get? b=some u->h'.get? b=some u):du P w H h':=λ a o e=>
 (x a o e).kG (λ b u _ q=>k b u q) (λ _ q=>q) λ _ _ q=>q
theorem du.laid(x:du P w H h)(k:∀b u,h.get? b=some u->h'.get? b=some u)(hp:h.objs.size<=a)(new:bL P w (upd H a o) h' a o):du P w (upd H a o) h':=λ b u e=>by
 have hn:=x.fresh hp;by_cases hb:b=a
 . subst hb;rw[a9]at e;cases e;exact new
 . rw[aK hb]at e;exact(x b u e).kG (λ c v _ q=>k c v q) (λ c q=>by rw[aK (cc q hn)];exact q) λ c xs q=>by rw[aK (cc q hn)];exact q
end
def Rd(H:Hp)(a:Addr)(u:HO):Prop:=H a=some u\/∃o,H a=some (.d7 o u)
theorem Rd.of{H:Hp}{a:Addr}{u:HO}(h:H a=some u):Rd H a u:= .inl h
theorem Rd.ok{P:Program}{w:World}{H:Hp}{h:Heap}{a:Addr}{u:HO}(r:Rd H a u)(x:du P w H h):bL P w H h a u:=by
 rcases r with r|⟨o,r⟩
 . exact x a u r
 . obtain⟨_,q⟩:=x a _ r;exact q
def zl:Option HO->Prop
 |some (.lst _)=>True
 |some (.dK _)=>True
 |some (.dT _)=>True
 |some (.set _ _)=>True
 |some (.ins _ _ _)=>True
 |some (.ext _)=>True
 |_=>False
section
variable {P:Program}{w:World}{H:Hp}{h h':Heap}{x e:Addr}{o':HO}
theorem du.write(ok:du P w H h)(mu:zl (H x))(he:e=x\/H e=some (.own x))(k:∀b u,b≠e->h.get? b=some u->h'.get? b=some u)(heo:∃u,h'.get? e=some u)
 (new:bL P w (upd H x o') h' x o'):du P w (upd H x o') h':=λ b u q=>by
 have nown:∀c y,H c=some (.own y)->c≠x:=λ c y r z=>by subst z;rw[r]at mu;exact mu
 have ntup:∀c xs,H c=some (.tup xs)->c≠x:=λ c xs r z=>by subst z;rw[r]at mu;exact mu
 by_cases hb:b=x
 . subst hb;rw[a9]at q;cases q;exact new
 . rw[aK hb]at q;by_cases hbe:b=e
   . have q':H b=some (.own x):=by
      rcases he with z|z
      . exact absurd (hbe.trans z) hb
      . rw[hbe];exact z
     rw[q]at q';cases q';obtain⟨v,hv⟩:=heo;exact⟨v,by rw[hbe];exact hv⟩
   . refine(ok b u q).kG (λ c v hc r=>k c v ?_ r) (λ c r=>by rw[aK (nown c b r)];exact r) λ c xs r=>by rw[aK (ntup c xs r)];exact r
     rcases hc with rfl|hc
     . exact hbe
     . rintro rfl;rcases he with z|z
       . exact nown c b hc z
       . rw[hc]at z;cases z;exact hb rfl
end
structure Un(fs ex:List Addr)(H H':Hp)(h h':Heap):Prop where
 keep:∀b o,h.get? b=some o->H b=none->b∉fs->b∉ex->h'.get? b=some o
 slot:∀b o,h.get? b=some o->H b=none->b∈fs->b∉ex->∃sl,h'.get? b=some {o with slots:=sl}
 free:∀b o,h.get? b=some o->H b=none->b∉ex->H' b=none
 there:∀b o,h.get? b=some o->b∉ex->∃o',h'.get? b=some o'
 jn:∀b xs,H b=some (.tup xs)->H' b=some (.tup xs)
 iQ:∀b o u,H b=some (.d7 o u)->H' b=some (.d7 o u)
 iu:∀b ps,H b=some (.gN ps)->∃more,H' b=some (.gN (ps++more))
section
variable {fs fs' ex ex':List Addr}{H H1 H2:Hp}{h h1 h2 h':Heap}{a x e:Addr}{o:HO}
theorem Un.any(u:Un fs ex H H1 h h1){b:Addr}{ob:Obj}(q:h.get? b=some ob)(n:H b=none)(hx:b∉ex):∃sl,h1.get? b=some {ob with slots:=sl}:=by
 by_cases hb:b∈fs
 . exact u.slot b ob q n hb hx
 . exact⟨ob.slots,u.keep b ob q n hb hx⟩
theorem Un.kept(k:∀b u,h.get? b=some u->h'.get? b=some u):Un fs ex H H h h':=
 ⟨λ b ob q _ _ _=>k b ob q,λ b ob q _ _ _=>⟨ob.slots,k b ob q⟩,λ _ _ _ n _=>n,λ b ob q _=>⟨ob,k b ob q⟩,λ _ _ q=>q,λ _ _ _ q=>q,λ _ ps q=>⟨#[],by rw[q];simp⟩⟩
theorem Un.refl:Un fs ex H H h h:=Un.kept λ _ _ q=>q
theorem Un.laid(k:∀b u,h.get? b=some u->h'.get? b=some u)(hp:h.objs.size<=a)(hn:H a=none):Un fs ex H (upd H a o) h h' where
 keep:=λ b u q _ _ _=>k b u q
 slot:=λ b u q _ _ _=>⟨u.slots,k b u q⟩
 free:=λ b u q n _=>by rw[aK (HK (Hw (Hg q) hp))];exact n
 there:=λ b u q _=>⟨u,k b u q⟩
 jn:=λ b xs q=>by rw[aK (cc q hn)];exact q
 iQ:=λ b u xs q=>by rw[aK (cc q hn)];exact q
 iu:=λ b ps q=>⟨#[],by rw[aK (cc q hn),q];simp⟩
theorem Un.write(mu:zl (H x))(he:e=x\/H e=some (.own x))(k:∀b u,b≠e->h.get? b=some u->h'.get? b=some u)(heo:∃u,h'.get? e=some u):Un fs ex H (upd H x o) h h':=by
 have hx:∀b,H b=none->b≠x:=λ b n z=>by subst z;rw[n]at mu;exact mu
 have hb:∀b,H b=none->b≠e:=λ b n z=>by
  subst z;rcases he with r|r
  . exact hx b n r
  . rw[n]at r;cases r
 have hm:∀b u,H b=some u->¬zl (some u)->b≠x:=λ b u q nm z=>by subst z;rw[q]at mu;exact nm mu
 refine⟨λ b u q n _ _=>k b u (hb b n) q,λ b u q n _ _=>⟨u.slots,k b u (hb b n) q⟩,λ b u q n _=>by rw[aK (hx b n)];exact n,λ b u q _=>?_,
  λ b xs q=>by rw[aK (hm b _ q λ z=>z)];exact q,λ b u xs q=>by rw[aK (hm b _ q λ z=>z)];exact q,λ b ps q=>⟨#[],by rw[aK (hm b _ q λ z=>z),q];simp⟩⟩
 by_cases hbe:b=e
 . subst hbe;exact heo
 . exact⟨u,k b u hbe q⟩
end
def zF(h:Heap)(H:Hp):List Addr:=(List.range h.objs.size).filter λ a=>(H a).isSome
def iH(h:Heap)(H:Hp):Heap:=PySem.W.hideAll h (zF h H)
theorem vN(h:Heap)(H:Hp):(iH h H).objs.size=h.objs.size:=PySem.W.hideAll_size _ _
theorem jw{h:Heap}{H:Hp}{b:Addr}{o:Obj}(e:h.get? b=some o)(n:H b=none):(iH h H).get? b=some o:=
 PySem.W.hideAll_get _ e λ hm=>by
  have q:(H b).isSome=true:=(List.mem_filter.mp hm).2;rw[n]at q;simp at q
theorem Br{h:Heap}{H:Hp}{b:Addr}{o:Obj}(e:(iH h H).get? b=some o):h.get? b=some o/\H b=none:=by
 have e':h.get? b=some o:=PySem.W.of_hideAll (zF h H) e;refine⟨e',?_⟩;cases q:H b with
 |none=>rfl
 |some x=>
  have hm:b∈zF h H:=List.mem_filter.mpr ⟨KH.mpr (Hg e'),by simp[q]⟩;have z:(iH h H).get? b=none:=PySem.W.hideAll_none (zF h H) hm;rw[z]at e;cases e
def A6(g h:Heap)(L:Addr):List (Addr×Obj):=(List.range h.objs.size).filterMap λ a=>if a=L\/(g.get? a).isSome=true then none else(h.get? a).map λ o=>(a,o)
def rest(g h:Heap)(L d:Addr):List (Addr×Obj):=(A6 g h L).filter λ p=>decide (p.1≠d)
structure Mod(K:PySem.W.Frag)(mg:Str->Option Value)(base:Heap):Prop where
 zB:K.In base
 glob:base.Ns mainGlobals mg
 blt:∃mb,base.Ns builtinsNs mb/\∀x:Str,x≠"__name__"->mb x=bootBuiltins x
 nolimit:base.NoLimit
 seer:base.NoSeer
 bmain:∃bm ob,mg "__builtins__"=some (.ref bm)/\bm≠builtinsNs/\base.get? bm=some ob/\ob.cls= .type "module"/\ob.dict=some builtinsNs/\ob.data= .plain
structure Cx where
 prog:Program
 w:World
 K:PySem.W.Frag
 mg:Str->Option Value
 base:Heap
 A:Around
 N:List Str
 s₀:Shared
 H₀:Hp
 env:Env
 outer:List Env
 stack:List Env
 ex:List Addr
 fn:Str->Bool
 calm:Bool
 pn:List (Addr×Obj)
 xe:Value->Shared->Prop
def iY(l:List Env):List Addr:=l.filterMap (·.frame)
abbrev Cx.fs(X:Cx):List Addr:=iY X.outer
def qA(sc:Scope)(x:Str):Prop:=sc.names.lookup x=some .local\/sc.names.lookup x=some .cell\/sc.names.lookup x=some .free
def Loc(sc:Scope)(x:Str):Prop:=sc.names.lookup x=some .local\/sc.names.lookup x=some .cell
def Look(env:Env)(h:Heap)(m:Str->Option Value)(x:Str)(u:Value):Prop:=
 (env.kindOf x=some .local/\m x=some u)\/((env.kindOf x=some .cell\/env.kindOf x=some .free)/\∃c,env.cells.lookup x=some c/\h.IsCell c (some u))
structure Cx.Ok(X:Cx):Prop where
 mod:Mod X.K X.mg X.base
 kind:X.env.scope.kind= .function
 glob:X.env.globals=mainGlobals
 blt:X.env.builtins=builtinsNs
 above:X.s₀.heap.objs.size<=X.env.locals
 inj:∀x y c,X.env.cells.lookup x=some c->X.env.cells.lookup y=some c->x=y
 has:∀x,(X.env.kindOf x=some .cell\/X.env.kindOf x=some .free)->∃c,X.env.cells.lookup x=some c
 tH:∀x c,X.fn x=true->X.env.cells.lookup x=some c->X.s₀.heap.objs.size<=c
 hd:X.calm=true->X.A.handled=none
 frames:X.A.frames=some X.stack
 xJ:X.stack=X.outer\/(X.stack=X.env::X.outer/\X.env.frame=some X.env.locals)
 y4:∀b∈X.ex,b≠X.env.locals/\∀x c,X.env.cells.lookup x=some c->c≠b
 bs:∀b o,X.base.get? b=some o->X.s₀.heap.get? b=some o/\X.H₀ b=none
 pw:X.base.objs.size<=X.s₀.heap.objs.size
 og:∀b o,X.base.get? b=some o->b∉X.ex
 oo:∀b∈X.ex,b∉X.fs
 gn:X.s₀.heap.FunFrames X.base X.outer
 sq:∀b∈X.fs,X.H₀ b=none
 gt:X.prog.given.tree=none
structure Inv(X:Cx)(pins:List (Addr×Obj))(σ:List (Option V))(H:Hp)(s:Shared):Prop where
 ok:X.Ok
 os:s.os=X.s₀.os
 bare:AllBare s.gens
 base:Un X.fs X.ex X.H₀ H X.s₀.heap s.heap
 loc:∃m,s.heap.Ns X.env.locals m/\∀(i:Nat) (x:Str) (v:V),X.N[i]?=some x->σ[i]?=some (some v)->qA X.env.scope x->∃u,RelV v u/\Look X.env s.heap m x u
 cell:∀x c,X.env.cells.lookup x=some c->∃v,s.heap.IsCell c v
 free:H X.env.locals=none
 fo:∀x c,X.env.cells.lookup x=some c->H c=none
 pin:∀p∈X.pn++pins,s.heap.get? p.1=some p.2/\H p.1=none/\p.1≠X.env.locals/\p.1∉X.fs/\∀v,p.2.data≠ .cell v
 aF:du X.prog X.w H s.heap
 len:σ.length=X.N.length
section
variable {X:Cx}{pins:List (Addr×Obj)}{σ:List (Option V)}{H H':Hp}{s:Shared}{h':Heap}
theorem Cx.Ok.F6(ok:X.Ok){b:Addr}{o:Obj}(e:X.base.get? b=some o):b∉X.fs:=λ hb=>by
 have:=(ok.gn.mem hb).1;rw[e]at this;cases this
theorem Inv.bs(I:Inv X pins σ H s):∀b o,X.base.get? b=some o->s.heap.get? b=some o/\H b=none:=λ b o e=>
 ⟨I.base.keep b o (I.ok.bs b o e).1 (I.ok.bs b o e).2 (I.ok.F6 e) (I.ok.og b o e),I.base.free b o (I.ok.bs b o e).1 (I.ok.bs b o e).2 (I.ok.og b o e)⟩
theorem Inv.bk(I:Inv X pins σ H s):∀b o,X.base.get? b=some o->s.heap.get? b=some o:=λ b o e=>(I.bs b o e).1
theorem Inv.mod(I:Inv X pins σ H s):Mod X.K X.mg X.base:=I.ok.mod
theorem Inv.er(I:Inv X pins σ H s):X.K.In s.heap:=I.ok.mod.zB.keeps I.bk
theorem Inv.lt(I:Inv X pins σ H s):X.env.locals<s.heap.objs.size:=let⟨_,hn,_⟩:=I.loc;hn.lt
theorem Inv.sz(I:Inv X pins σ H s):X.s₀.heap.objs.size<=s.heap.objs.size:=HX I.ok.above (KW I.lt)
theorem Inv.Gf(I:Inv X pins σ H s){a:Addr}(h:s.heap.objs.size<=a):a∉X.fs:=λ hb=>by
 obtain⟨_,o,ho,_⟩:=I.ok.gn.mem hb;exact absurd (Hw (Hg ho) (HX I.sz h)) (Iy _)
theorem Inv.qT(I:Inv X pins σ H s):∀x c,X.env.cells.lookup x=some c->c≠X.env.locals:=λ x c e z=>by
 obtain⟨v,o,ho,hd⟩:=I.cell x c e;obtain⟨m,⟨o',es,ep,ho',hd',_⟩,_⟩:=I.loc;rw[z,ho']at ho;cases ho;rw[hd']at hd;cases hd
theorem Inv.gn(I:Inv X pins σ H s):s.heap.FunFrames X.base X.outer:=by
 have all:∀(l:List Env),(∀b∈iY l,b∈X.fs)->X.s₀.heap.FunFrames X.base l->s.heap.FunFrames X.base l:=by
  intro l;induction l with
  |nil=>intro _ _;trivial
  |cons env r ih=>
   intro hs hl;obtain⟨hk,⟨L,o,hf,hn,ho,hd⟩,hr⟩:=hl;have hL:L∈X.fs:=hs L (by unfold iY;rw[JR,hf];exact Hm);obtain⟨sl,e⟩:=I.base.slot L o ho (I.ok.sq L hL) hL λ z=>I.ok.oo L z hL;exact⟨hk,⟨L,_,hf,hn,e,hd⟩,ih (λ b hb=>hs b (by unfold iY;rw[JR,hf];exact G7 _ hb)) hr⟩
 exact all X.outer (λ _ hb=>hb) I.ok.gn
theorem Inv.stack(I:Inv X pins σ H s):s.heap.FunFrames X.base X.stack:=by
 rcases I.ok.xJ with e|⟨e,hf⟩
 . rw[e];exact I.gn
 . rw[e];obtain⟨m,hn,_⟩:=I.loc;refine .cons (by rw[I.ok.kind];decide) hf hn ?_ I.gn;exact Heap.get?_none_of_le (HX I.ok.pw I.ok.above)
theorem Inv.si(I:Inv X pins σ H s):∀b∈iY X.stack,b∈X.env.locals::X.fs:=λ b hb=>by
 rcases I.ok.xJ with e|⟨e,hf⟩
 . rw[e]at hb;exact G7 _ hb
 . rw[e]at hb;unfold iY at hb;rw[JR,hf]at hb;exact hb
theorem Inv.tG(I:Inv X pins σ H s):∀b∈iY X.stack,H b=none:=λ b hb=>by
 rcases G9.mp (I.si b hb)with e|hb
 . rw[e];exact I.free
 . obtain⟨_,o,ho,_⟩:=I.ok.gn.mem hb;exact I.base.free b o ho (I.ok.sq b hb) λ z=>I.ok.oo b z hb
theorem Inv.step{g':Array GenState}{t':Nat}{d':Drawn}{ch:List Addr}(I:Inv X pins σ H s)
 (hch:∀b∈ch,(b∈X.ex\/X.s₀.heap.objs.size<=b)/\b≠X.env.locals/\(∀x c,X.env.cells.lookup x=some c->c≠b)/\∀p∈X.pn++pins,p.1≠b)
 (keep:∀b o,b≠X.env.locals->b∉X.fs->b∉ch->s.heap.get? b=some o->H b=none->h'.get? b=some o)
 (slot:∀b o,b≠X.env.locals->b∈X.fs->b∉ch->s.heap.get? b=some o->H b=none->∃sl,h'.get? b=some {o with slots:=sl}) (free:∀b o,b∉ch->s.heap.get? b=some o->H b=none->H' b=none)
 (there:∀b o,b∉ch->s.heap.get? b=some o->∃o',h'.get? b=some o')
 (jn:∀b xs,H b=some (.tup xs)->H' b=some (.tup xs)) (iQ:∀b o u,H b=some (.d7 o u)->H' b=some (.d7 o u)) (iu:∀b ps,H b=some (.gN ps)->∃more,H' b=some (.gN (ps++more)))
 (ns:∀m,s.heap.Ns X.env.locals m->h'.Ns X.env.locals m) (aF:du X.prog X.w H' h') (hg:AllBare g'):
 Inv X pins σ H' {s with heap:=h',gens:=g',drawn:=d',toks:=t'}:=by
 have neL:∀b o,X.s₀.heap.get? b=some o->b≠X.env.locals:=λ b o e=>HK (Hw (Hg e) I.ok.above)
 have neC:∀b o,X.s₀.heap.get? b=some o->b∉X.ex->b∉ch:=λ b o e hx hb=>by
  rcases(hch b hb).1 with z|z
  . exact hx z
  . exact absurd (Hw (Hg e) z) (Iy _)
 have cellK:∀x c,X.env.cells.lookup x=some c->∀v,s.heap.IsCell c v->h'.IsCell c v:=λ x c e v ⟨o,ho,hd⟩=>by
  have nch:c∉ch:=λ z=>(hch c z).2.2.1 x c e rfl;by_cases hc:c∈X.fs
  . obtain⟨sl,q⟩:=slot c o (I.qT x c e) hc nch ho (I.fo x c e);exact⟨_,q,hd⟩
  . exact⟨o,keep c o (I.qT x c e) hc nch ho (I.fo x c e),hd⟩
 refine⟨I.ok,I.os,hg,⟨λ b o e n hb hx=>?_,λ b o e n hb hx=>?_,λ b o e n hx=>?_,λ b o e hx=>?_,λ b xs e=>jn b xs (I.base.jn b xs e),λ b o xs e=>iQ b o xs (I.base.iQ b o xs e),λ b ps e=>?_⟩,?_,λ x c e=>?_,?_,λ x c e=>?_,λ p hp=>?_,aF,I.len⟩
 . exact keep b o (neL b o e) hb (neC b o e hx) (I.base.keep b o e n hb hx) (I.base.free b o e n hx)
 . obtain⟨sl,e1⟩:=I.base.slot b o e n hb hx;obtain⟨sl',e2⟩:=slot b _ (neL b o e) hb (neC b o e hx) e1 (I.base.free b o e n hx);exact⟨sl',e2⟩
 . obtain⟨o',e1⟩:=I.base.there b o e hx;exact free b o' (neC b o e hx) e1 (I.base.free b o e n hx)
 . obtain⟨o',e1⟩:=I.base.there b o e hx;exact there b o' (neC b o e hx) e1
 . obtain⟨m1,e1⟩:=I.base.iu b ps e;obtain⟨m2,e2⟩:=iu b _ e1;exact⟨m1++m2,by rw[e2,Array.append_assoc]⟩
 . obtain⟨m,hn,hl⟩:=I.loc;refine⟨m,ns m hn,λ i x v e1 e2 e3=>?_⟩;obtain⟨u,r,l⟩:=hl i x v e1 e2 e3;refine⟨u,r,?_⟩;rcases l with l|⟨k,c,e,z⟩
   . exact .inl l
   . exact .inr ⟨k,c,e,cellK x c e _ z⟩
 . obtain⟨v,z⟩:=I.cell x c e;exact⟨v,cellK x c e v z⟩
 . obtain⟨m,⟨o,_,_,ho,_⟩,_⟩:=I.loc;exact free _ o (λ z=>(hch _ z).2.1 rfl) ho I.free
 . obtain⟨v,o,ho,hd⟩:=I.cell x c e;exact free c o (λ z=>(hch c z).2.2.1 x c e rfl) ho (I.fo x c e)
 . obtain⟨e,n,ne,nf,d⟩:=I.pin p hp;have nch:p.1∉ch:=λ z=>(hch p.1 z).2.2.2 p hp rfl;exact⟨keep p.1 p.2 ne nf nch e n,free p.1 p.2 nch e n,ne,nf,d⟩
theorem Inv.un{t':Nat}(I:Inv X pins σ H s)(u:Un X.fs [] H H' s.heap h')(aF:du X.prog X.w H' h'):Inv X pins σ H' {s with heap:=h',toks:=t'}:=by
 obtain⟨m,⟨o,es,ep,ho,r⟩,_⟩:=id I.loc;obtain⟨sl,hL⟩:=u.any ho I.free (by simp)
 exact I.step (g':=s.gens) (d':=s.drawn) (ch:=[]) (λ _ z=>nomatch z) (λ b o _ hb _ e n=>u.keep b o e n hb (by simp)) (λ b o _ hb _ e n=>u.slot b o e n hb (by simp)) (λ b o _ e n=>u.free b o e n (by simp)) (λ b o _ e=>u.there b o e (by simp)) u.jn u.iQ u.iu (λ m' hm=>by
  obtain⟨o',es',ep',ho',r'⟩:=hm;rw[ho]at ho';cases ho';exact⟨_,es',ep',hL,r'⟩) aF I.bare
theorem Inv.call{g':Array GenState}{t':Nat}{d':Drawn}{ch:List Addr}(I:Inv X pins σ H s)(u:Un (iY X.stack) ch H H' s.heap h')(aF:du X.prog X.w H' h')(hg:AllBare g')
 (hch:∀b∈ch,(b∈X.ex\/X.s₀.heap.objs.size<=b)/\b≠X.env.locals/\(∀x c,X.env.cells.lookup x=some c->c≠b)/\∀p∈X.pn++pins,p.1≠b):
 Inv X pins σ H' {s with heap:=h',gens:=g',drawn:=d',toks:=t'}:=by
 obtain⟨m,⟨o,es,ep,ho,r⟩,_⟩:=id I.loc;obtain⟨sl,hL⟩:=u.any ho I.free λ z=>(hch _ z).2.1 rfl
 exact I.step (ch:=ch) hch (λ b o hL hb hc e n=>u.keep b o e n (λ z=>(G9.mp (I.si b z)).elim hL hb) hc) (λ b o _ _ hc e n=>u.any e n hc) (λ b o hc e n=>u.free b o e n hc) (λ b o hc e=>u.there b o e hc) u.jn u.iQ u.iu (λ m' hm=>by
  obtain⟨o',es',ep',ho',r'⟩:=hm;rw[ho]at ho';cases ho';exact⟨_,es',ep',hL,r'⟩) aF hg
theorem Inv.turned{t':Nat}{it:Addr}(I:Inv X pins σ H s)(k:∀b o,b≠it->s.heap.get? b=some o->h'.get? b=some o)(hn:H it=none)(hL:it≠X.env.locals)
 (h1:it∈X.ex\/X.s₀.heap.objs.size<=it) (h2:∀x c,X.env.cells.lookup x=some c->c≠it) (h3:∀p∈X.pn++pins,p.1≠it):Inv X pins σ H {s with heap:=h',toks:=t'}:=by
 have nit:∀b u,H b=some u->b≠it:=λ b u e z=>by rw[z,hn]at e;cases e
 refine I.step (g':=s.gens) (d':=s.drawn) (ch:=[it]) (λ b hb=>?_) (λ b o _ _ hc e _=>k b o (λ z=>hc (by simp[z])) e) (λ b o _ _ hc e _=>⟨o.slots,k b o (λ z=>hc (by simp[z])) e⟩) (λ _ _ _ _ n=>n)
  (λ b o hc e=>⟨o,k b o (λ z=>hc (by simp[z])) e⟩) (λ _ _ e=>e) (λ _ _ _ e=>e) (λ b ps e=>⟨#[],by rw[e];simp⟩) (λ m hm=>?_) (λ b u e=>?_) I.bare
 . have e:b=it:=by simpa using hb
   subst e;exact⟨h1,hL,h2,h3⟩
 . obtain⟨o,es,ep,ho,r⟩:=hm;exact⟨o,es,ep,k _ o (HP hL) ho,r⟩
 . refine(I.aF b u e).kG (λ c v hc q=>k c v ?_ q) (λ _ q=>q) λ _ _ q=>q;rcases hc with z|z
   . rw[z];exact nit b u e
   . exact nit c _ z
theorem Inv.tok(I:Inv X pins σ H s)(t:Nat):Inv X pins σ H {s with toks:=t}:=I.un (h':=s.heap) (t':=t) Un.refl I.aF
theorem Inv.kept{t':Nat}(I:Inv X pins σ H s)(k:∀b u,s.heap.get? b=some u->h'.get? b=some u):Inv X pins σ H {s with heap:=h',toks:=t'}:=I.un (Un.kept k) (I.aF.kept k)
theorem Inv.laid{a:Addr}{o:HO}{t':Nat}(I:Inv X pins σ H s)(k:∀b u,s.heap.get? b=some u->h'.get? b=some u)(hp:s.heap.objs.size<=a)(new:bL X.prog X.w (upd H a o) h' a o):
 Inv X pins σ (upd H a o) {s with heap:=h',toks:=t'}:=I.un (Un.laid k hp (I.aF.fresh hp)) (I.aF.laid k hp new)
theorem Inv.write{x e:Addr}{o:HO}{t':Nat}(I:Inv X pins σ H s)(mu:zl (H x))(he:e=x\/H e=some (.own x))(k:∀b u,b≠e->s.heap.get? b=some u->h'.get? b=some u)(heo:∃u,h'.get? e=some u)
 (new:bL X.prog X.w (upd H x o) h' x o):Inv X pins σ (upd H x o) {s with heap:=h',toks:=t'}:=I.un (Un.write mu he k heo) (I.aF.write mu he k heo new)
theorem Inv.tU{pins':List (Addr×Obj)}(I:Inv X pins σ H s)(h:∀p∈pins',s.heap.get? p.1=some p.2/\H p.1=none/\p.1≠X.env.locals/\p.1∉X.fs/\∀v,p.2.data≠ .cell v):Inv X pins' σ H s:=
 ⟨I.ok,I.os,I.bare,I.base,I.loc,I.cell,I.free,I.fo,λ p hp=>(Hz.mp hp).elim (λ z=>I.pin p (JF _ z)) (h p),I.aF,I.len⟩
theorem qB{N:List Str}(hN:N.Nodup){i j:Nat}{x:Str}(a:N[i]?=some x)(b:N[j]?=some x):i=j:=by
 obtain⟨h1,e1⟩:=GW.mp a;obtain⟨h2,e2⟩:=GW.mp b;exact(List.getElem_inj hN).mp (e1.trans e2.symm)
theorem pq{M:Model}{A:Around}{E:Value->Shared->Prop}{i:Nat}{x:Str}{v:V}{u:Value}{Q:Unit->Shared->Prop}(I:Inv X pins σ H s)(hN:X.N.Nodup)(hi:X.N[i]?=some x)(hx:Loc X.env.scope x)(r:RelV v u)
 (h:∀s',Inv X pins (σ.set i (some v)) H s'->(∃a,Heap.SameBut a s.heap s'.heap/\(a=X.env.locals\/X.env.cells.lookup x=some a))->Q () s') (hf:X.fn x=true\/X.env.scope.names.lookup x=some .local:=by first|exact .inl rfl|exact .inr rfl|assumption):wpAny M A (storeName X.env x u) Q E s:=by
 obtain⟨m,hn,hl⟩:=id I.loc;have hcls:(X.env.scope.kind== .class||(X.env.scope.kind== .module&&X.env.locals != X.env.globals))=false:=by rw[I.ok.kind];rfl
 have hiσ:i<σ.length:=by rw[I.len];exact(GW.mp hi).1
 have qT:=I.qT
 have tracked:∀ {a:Addr} {h':Heap},(∃o,s.heap.get? a=some o/\H a=none)->Heap.SameBut a s.heap h'->du X.prog X.w H h':=λ{a h'} ha hs b ob e=>by
  obtain⟨_,_,hfree⟩:=ha;refine(I.aF b ob e).kG (λ c w' hc q=>(hs.2 c ?_).trans q) (λ _ q=>q) λ _ _ q=>q;rintro rfl;rcases hc with rfl|hc
  . rw[hfree]at e;cases e
  . rw[hfree]at hc;cases hc
 rcases hx with hk|hk
 . refine wpAny_storeName_local hk hn (λ h' hn' hs=>?_) hcls;obtain⟨oL,_,_,hoL,_⟩:=id hn;refine h _ ⟨I.ok,I.os,I.bare,⟨λ b o e n hb hx=>?_,λ b o e n hb hx=>?_,I.base.free,λ b o e hx=>?_,I.base.jn,I.base.iQ,I.base.iu⟩,⟨_,hn',λ j y v' e1 e2 e3=>?_⟩,λ y c e=>?_,I.free,I.fo,λ p hp=>?_,tracked ⟨oL,hoL,I.free⟩ hs,by simpa using I.len⟩ ⟨_,hs,.inl rfl⟩
   . exact(hs.2 b (HK (Hw (Hg e) I.ok.above))).trans (I.base.keep b o e n hb hx)
   . obtain⟨sl,e1⟩:=I.base.slot b o e n hb hx;exact⟨sl,(hs.2 b (HK (Hw (Hg e) I.ok.above))).trans e1⟩
   . obtain⟨o',e1⟩:=I.base.there b o e hx;exact⟨o',(hs.2 b (HK (Hw (Hg e) I.ok.above))).trans e1⟩
   . by_cases hj:j=i
     . subst hj;rw[hi]at e1;cases e1;rw[HJ hiσ]at e2;cases e2;exact⟨u,r,.inl ⟨hk,by simp⟩⟩
     . rw[HB (HP hj)]at e2;obtain⟨u',r',q⟩:=hl j y v' e1 e2 e3;refine⟨u',r',?_⟩;rcases q with⟨k,e⟩|⟨k,c,e,z⟩
       . refine .inl ⟨k,?_⟩;have:y≠x:=λ e=>hj (qB hN e1 (e▸hi));simp[this,e]
       . exact .inr ⟨k,c,e,z.sameBut hs (qT y c e)⟩
   . obtain⟨w',z⟩:=I.cell y c e;exact⟨w',z.sameBut hs (qT y c e)⟩
   . obtain⟨e,n,ne,nf,d⟩:=I.pin p hp;exact⟨(hs.2 p.1 ne).trans e,n,ne,nf,d⟩
 . have hfn:X.fn x=true:=by
    rcases hf with z|z
    . exact z
    . rw[z]at hk;cases hk
   obtain⟨c,hc⟩:=I.ok.has x (.inl hk);obtain⟨w',z⟩:=I.cell x c hc;refine wpAny_storeName_cell I.ok.kind hk hc z (λ h' hc' hs=>?_);obtain⟨oc,hoc,hocd⟩:=id z;refine h {s with heap:=h'} ⟨I.ok,I.os,I.bare,⟨λ b o e n hb hx=>?_,λ b o e n hb hx=>?_,I.base.free,λ b o e hx=>?_,I.base.jn,I.base.iQ,I.base.iu⟩,⟨m,hn.sameBut hs (HP (qT x c hc)),λ j y v' e1 e2 e3=>?_⟩,λ y c' e=>?_,I.free,I.fo,λ p hp=>?_,tracked ⟨oc,hoc,I.fo x c hc⟩ hs,by simpa using I.len⟩ ⟨c,hs,.inr hc⟩
   . exact(hs.2 b (HK (Hw (Hg e) (I.ok.tH x c hfn hc)))).trans (I.base.keep b o e n hb hx)
   . obtain⟨sl,e1⟩:=I.base.slot b o e n hb hx;exact⟨sl,(hs.2 b (HK (Hw (Hg e) (I.ok.tH x c hfn hc)))).trans e1⟩
   . obtain⟨o',e1⟩:=I.base.there b o e hx;exact⟨o',(hs.2 b (HK (Hw (Hg e) (I.ok.tH x c hfn hc)))).trans e1⟩
   . by_cases hj:j=i
     . subst hj;rw[hi]at e1;cases e1;rw[HJ hiσ]at e2;cases e2;exact⟨u,r,.inr ⟨.inl hk,c,hc,hc'⟩⟩
     . rw[HB (HP hj)]at e2;obtain⟨u',r',q⟩:=hl j y v' e1 e2 e3;refine⟨u',r',?_⟩;rcases q with q|⟨k,c',e,z'⟩
       . exact .inl q
       . refine .inr ⟨k,c',e,z'.sameBut hs ?_⟩;rintro rfl;exact hj (qB hN e1 (I.ok.inj _ _ _ e hc▸hi))
   . by_cases hcc:c'=c
     . subst hcc;exact⟨_,hc'⟩
     . obtain⟨w2,z2⟩:=I.cell y c' e;exact⟨w2,z2.sameBut hs hcc⟩
   . obtain⟨e,n,ne,nf,d⟩:=I.pin p hp;refine⟨(hs.2 p.1 ?_).trans e,n,ne,nf,d⟩;intro q;rw[q,hoc]at e;have q':oc=p.2:=HS e;exact d w' (by rw[<-q'];exact hocd)
theorem jF{M:Model}{A:Around}{E:Value->Shared->Prop}{i:Nat}{x:Str}{v:V}{u:Value}{Q:Unit->Shared->Prop}(I:Inv X pins σ H s)(hN:X.N.Nodup)(hi:X.N[i]?=some x)(hx:Loc X.env.scope x)(r:RelV v u)
 (h:∀s',Inv X pins (σ.set i (some v)) H s'->Q () s') (hf:X.fn x=true\/X.env.scope.names.lookup x=some .local:=by first|exact .inl rfl|exact .inr rfl|assumption):wpAny M A (storeName X.env x u) Q E s:=
 pq I hN hi hx r (λ s' I' _=>h s' I') hf
theorem Inv.zj{s':Shared}{ch:List Addr}(I:Inv X pins σ H s)(ho:s'.os=s.os)(u:Un (iY X.stack) ch H H' s.heap s'.heap)(aF:du X.prog X.w H' s'.heap)(hg:AllBare s'.gens)
 (hch:∀b∈ch,(b∈X.ex\/X.s₀.heap.objs.size<=b)/\b≠X.env.locals/\(∀x c,X.env.cells.lookup x=some c->c≠b)/\∀p∈X.pn++pins,p.1≠b):Inv X pins σ H' s':=by
 obtain⟨h',g',d',t',o'⟩:=s';have e:o'=s.os:=ho;subst e;exact I.call (g':=g') (t':=t') (d':=d') u aF hg hch
end
abbrev XK:=Value->Option Addr->Hp->Prop
abbrev St:=List (Option V)
abbrev VK:=V->Hp->Prop
abbrev TE:=St->Hp->VK->Prop
abbrev TT:=St->Hp->(Bool->Hp->Prop)->Prop
abbrev TA:=St->Hp->(List V->Hp->Prop)->Prop
structure Ends where
 nx:St->Hp->Prop
 rt:VK
 bk:St->Hp->Prop:=λ _ _=>False
 ct:St->Hp->Prop:=λ _ _=>False
abbrev TS:=Ends->St->Hp->Prop
def EP(X:Cx)(pins:List (Addr×Obj))(σ:St)(Q:VK)(u:Value)(s':Shared):Prop:=∃v H',Inv X pins σ H' s'/\RelV v u/\Q v H'
def TP(X:Cx)(pins:List (Addr×Obj))(σ:St)(Q:Bool->Hp->Prop)(b:Bool)(s':Shared):Prop:=∃H',Inv X pins σ H' s'/\Q b H'
def AP(X:Cx)(pins:List (Addr×Obj))(σ:St)(Q:List V->Hp->Prop)(us:List Value)(s':Shared):Prop:=∃vs H',Inv X pins σ H' s'/\Vals vs us/\Q vs H'
def SP(X:Cx)(pins:List (Addr×Obj))(D:Ends)(f:Flow)(s':Shared):Prop:=
 match f with
 | .next=>∃σ' H',Inv X pins σ' H' s'/\D.nx σ' H'
 | .brk=>∃σ' H',Inv X pins σ' H' s'/\D.bk σ' H'
 | .cont=>∃σ' H',Inv X pins σ' H' s'/\D.ct σ' H'
 | .ret u=>∃v σ' H',Inv X pins σ' H' s'/\RelV v u/\D.rt v H'
def PE(X:Cx)(e:Expr)(t:TE):Prop:=
 ∀(pins:List (Addr×Obj)) (s:Shared) (σ:St) (H:Hp) (Q:VK),Inv X pins σ H s->t σ H Q->wpAny (model X.prog X.w) X.A (eval e X.env) (EP X pins σ Q) X.xe s
def PT(X:Cx)(e:Expr)(t:TT):Prop:=
 ∀(pins:List (Addr×Obj)) (s:Shared) (σ:St) (H:Hp) (Q:Bool->Hp->Prop),Inv X pins σ H s->t σ H Q->wpAny (model X.prog X.w) X.A (isTrue e X.env (eval e X.env)) (TP X pins σ Q) X.xe s
def PW(X:Cx)(e:Expr)(t:TT):Prop:=
 ∀(whole:Sem Value) (pins:List (Addr×Obj)) (s:Shared) (σ:St) (H:Hp) (Q:Bool->Hp->Prop),Inv X pins σ H s->t σ H Q->wpAny (model X.prog X.w) X.A (isTrue e X.env whole) (TP X pins σ Q) X.xe s
theorem PW.pt{X:Cx}{e:Expr}{t:TT}(h:PW X e t):PT X e t:=h _
def PA(X:Cx)(es:List Expr)(t:TA):Prop:=
 ∀(pos:Pos) (pins:List (Addr×Obj)) (s:Shared) (σ:St) (H:Hp) (Q:List V->Hp->Prop),Inv X pins σ H s->t σ H Q->wpAny (model X.prog X.w) X.A (spliced (backTo pos (starEach es X.env))) (AP X pins σ Q) X.xe s
def PS(X:Cx)(st:Stmt)(t:TS):Prop:=
 ∀(pins:List (Addr×Obj)) (s:Shared) (σ:St) (H:Hp) (D:Ends),Inv X pins σ H s->t D σ H->wpAny (model X.prog X.w) X.A (exec st X.env) (SP X pins D) X.xe s
def de(X:Cx)(st:List Stmt)(t:TS):Prop:=
 ∀(pins:List (Addr×Obj)) (s:Shared) (σ:St) (H:Hp) (D:Ends),Inv X pins σ H s->t D σ H->wpAny (model X.prog X.w) X.A (execs st X.env) (SP X pins D) X.xe s
theorem a6{α:Type}{t:Sem α}{Q Q':α->Shared->Prop}{M:Model}{A:Around}{E:Value->Shared->Prop}{s:Shared}(h:wpAny M A t Q E s)(hQ:∀a s,Q a s->Q' a s):wpAny M A t Q' E s:=Ip h hQ λ _ _ x=>x
section
variable {X:Cx}
def Dx(i:Nat):TE:=λ σ H Q=>∃v,σ[i]?=some (some v)/\Q v H
def tC(v:V):TE:=λ _ H Q=>Q v H
theorem wC{i:Nat}{x:Str}{pos:Pos}(hN:X.N[i]?=some x)(hv:qA X.env.scope x)(hd:(x==("__debug__":Str))=false:=by decide)(hcd:(x==("__classdict__":Str))=false:=by decide):PE X (.Name x pos) (Dx i):=by
 intro pins s σ H Q I h;obtain⟨v,e,h⟩:=h;obtain⟨m,hn,hl⟩:=I.loc;obtain⟨u,r,l⟩:=hl i x v hN e hv;have fin:EP X pins σ Q u s:=⟨v,H,I,r,h⟩
 rcases l with⟨hk,hm⟩|⟨hk,c,hc,hcell⟩
 . exact wpAny_Name (wpAny_loadName_local I.ok.kind hk hn hm fin) hd
 . rcases hk with hk|hk
   . exact wpAny_Name (wpAny_loadName_cell I.ok.kind hk hc hcell fin) hd
   . exact wpAny_Name (wpAny_loadName_free I.ok.kind hk hc hcell fin hcd) hd
theorem DH{i j pos}:PE X (.Constant (.int i) j pos) (tC (.int i)):=λ _ _ _ H _ I h=>wpAny_Constant_int ⟨.int i,H,I.tok _,⟨_,rfl⟩,h⟩
theorem EF{b j pos}:PE X (.Constant (.bool b) j pos) (tC (.bl b)):=λ _ _ _ H _ I h=>Constant_bool ⟨.bl b,H,I,rfl,h⟩
theorem CG{x j pos}:PE X (.Constant (.str x) j pos) (tC (.str x)):=λ _ _ _ H _ I h=>Calls.Constant_str ⟨.str x,H,I.tok _,⟨_,rfl⟩,h⟩
def Gl(X:Cx)(x:Str):Prop:=X.env.kindOf x=some .globalImplicit
theorem jf{E:Value->Shared->Prop}{pins:List (Addr×Obj)}{s:Shared}{σ:St}{H:Hp}{x:Str}{u:Value}{pos:Pos}{Q:Value->Shared->Prop}(I:Inv X pins σ H s)(hg:Gl X x)(hm:X.mg x=some u)(h:Q u s)
 (hd:(x==("__debug__":Str))=false:=by decide):wpAny (model X.prog X.w) X.A (eval (.Name x pos) X.env) Q E s:=
 J6 I.ok.kind hg (Calls.loadGlobal_global (by rw[I.ok.glob];exact I.mod.glob.keeps I.bk) hm h) hd
theorem gY{E:Value->Shared->Prop}{pins:List (Addr×Obj)}{s:Shared}{σ:St}{H:Hp}{x:Str}{u:Value}{pos:Pos}{Q:Value->Shared->Prop}(I:Inv X pins σ H s)(hg:Gl X x)(hm:X.mg x=none)(hv:bootBuiltins x=some u)(h:Q u s)
 (hn:x≠"__name__":=by decide) (hd:(x==("__debug__":Str))=false:=by decide):wpAny (model X.prog X.w) X.A (eval (.Name x pos) X.env) Q E s:=by
 obtain⟨mb,h1,h2⟩:=I.mod.blt;exact J6 I.ok.kind hg (Calls.loadGlobal_builtin (by rw[I.ok.glob];exact I.mod.glob.keeps I.bk) hm (by rw[I.ok.blt];exact h1.keeps I.bk) ((h2 x hn).trans hv) h) hd
theorem A2{x:Str}{v:V}{u:Value}{pos:Pos}(hg:Gl X x)(hm:X.mg x=some u)(r:RelV v u)(hd:(x==("__debug__":Str))=false:=by decide):PE X (.Name x pos) (tC v):=
 λ _ _ _ H _ I h=>jf I hg hm ⟨v,H,I,r,h⟩ hd
theorem AB{x:Str}{v:V}{u:Value}{pos:Pos}(hg:Gl X x)(hm:X.mg x=none)(hv:bootBuiltins x=some u)(r:RelV v u)(hn:x≠"__name__":=by decide)(hd:(x==("__debug__":Str))=false:=by decide):PE X (.Name x pos) (tC v):=
 λ _ _ _ H _ I h=>gY I hg hm hv ⟨v,H,I,r,h⟩ hn hd
variable {a b:Expr}{ta tb:TE}{pos:Pos}
def tB(t:TE):TT:=λ σ H Q=>t σ H λ x H1=>∃c,x= .bl c/\Q c H1
theorem Dg{e:Expr}{t:TE}(h:PE X e t)(he:∀whole,isTrue e X.env whole=(do let v <-whole;standAt e.pos;holding [v] (truthy v)):=by intro _;rfl):PT X e (tB t):=by
 intro pins s σ H Q I hw;refine isTrue_plain (a6 (h pins s σ H _ I hw) λ v s1 ⟨x,H1,I1,r1,q1⟩=>?_) (he _);obtain⟨d,rfl,q⟩:=q1;cases r1;exact Ib ⟨H1,I1,q⟩
variable {tA tB':TT}{rest:List Expr}
def Bv(t u:TT):TT:=λ σ H Q=>t σ H λ c H1=>if c=true then u σ H1 Q else Q false H1
def Ff(t u:TT):TT:=λ σ H Q=>t σ H λ c H1=>if c=true then Q true H1 else u σ H1 Q
def Ga(t:TT):TT:=λ σ H Q=>t σ H λ c H1=>Q (!c) H1
theorem pw_and1(ha:PT X a tA):PW X (.BoolOp .And [a] pos) tA:=by
 intro wh pins s σ H Q I h;refine isTrue_and (a6 (ha pins s σ H Q I h) λ c s1 e=>?_);cases c with
 |true=>exact isTrue_and_nil e
 |false=>exact e
theorem pw_or1(ha:PT X a tA):PW X (.BoolOp .Or [a] pos) tA:=by
 intro wh pins s σ H Q I h;refine isTrue_or (a6 (ha pins s σ H Q I h) λ c s1 e=>?_);cases c with
 |false=>exact isTrue_or_nil e
 |true=>exact e
theorem pw_and(ha:PT X a tA)(hb:PW X (.BoolOp .And (b::rest) pos) tB'):PW X (.BoolOp .And (a::b::rest) pos) (Bv tA tB'):=by
 intro wh pins s σ H Q I h;refine isTrue_and (a6 (ha pins s σ H _ I h) λ c s1 ⟨H1,I1,q1⟩=>?_);cases c with
 |true=>exact hb wh pins s1 σ H1 Q I1 q1
 |false=>exact⟨H1,I1,q1⟩
theorem pw_or(ha:PT X a tA)(hb:PW X (.BoolOp .Or (b::rest) pos) tB'):PW X (.BoolOp .Or (a::b::rest) pos) (Ff tA tB'):=by
 intro wh pins s σ H Q I h;refine isTrue_or (a6 (ha pins s σ H _ I h) λ c s1 ⟨H1,I1,q1⟩=>?_);cases c with
 |true=>exact⟨H1,I1,q1⟩
 |false=>exact hb wh pins s1 σ H1 Q I1 q1
theorem B7(ha:PT X a tA):PT X (.UnaryOp .Not a pos) (Ga tA):=by
 intro pins s σ H Q I h;exact isTrue_not (ha pins s σ H (λ c H1=>Q (!c) H1) I h)
def D9(ta tb:TE):TE:=λ σ H Q=>ta σ H λ x H1=>∃c,x= .bl c/\if c=true then tb σ H1 Q else Q (.bl false) H1
def F4(ta tb:TE):TE:=λ σ H Q=>ta σ H λ x H1=>∃c,x= .bl c/\if c=true then Q (.bl true) H1 else tb σ H1 Q
def Ex(ta:TE):TE:=λ σ H Q=>ta σ H λ x H1=>∃c,x= .bl c/\Q (.bl (!c)) H1
theorem Ck{op}{t:TE}(h:PE X a t):PE X (.BoolOp op [a] pos) t:=λ pins s σ H Q I hw=>BoolOp_one (h pins s σ H Q I hw)
theorem By(ha:PE X a ta)(hb:PE X (.BoolOp .And (b::rest) pos) tb):PE X (.BoolOp .And (a::b::rest) pos) (D9 ta tb):=by
 intro pins s σ H Q I h;refine BoolOp_and (a6 (ha pins s σ H _ I h) λ v s1 ⟨x,H1,I1,r1,q1⟩=>?_);obtain⟨c,rfl,q1⟩:=q1;cases r1;refine Ib ?_;cases c with
 |true=>exact hb pins s1 σ H1 Q I1 q1
 |false=>exact⟨.bl false,H1,I1,rfl,q1⟩
theorem EH(ha:PE X a ta)(hb:PE X (.BoolOp .Or (b::rest) pos) tb):PE X (.BoolOp .Or (a::b::rest) pos) (F4 ta tb):=by
 intro pins s σ H Q I h;refine BoolOp_or (a6 (ha pins s σ H _ I h) λ v s1 ⟨x,H1,I1,r1,q1⟩=>?_);obtain⟨c,rfl,q1⟩:=q1;cases r1;refine Ib ?_;cases c with
 |false=>exact hb pins s1 σ H1 Q I1 q1
 |true=>exact⟨.bl true,H1,I1,rfl,q1⟩
theorem Dt(ha:PE X a ta):PE X (.UnaryOp .Not a pos) (Ex ta):=by
 intro pins s σ H Q I h;refine UnaryOp_ (a6 (ha pins s σ H _ I h) λ v s1 ⟨x,H1,I1,r1,q1⟩=>?_);obtain⟨c,rfl,q1⟩:=q1;cases r1;exact not_of (Ib ⟨.bl (!c),H1,I1,rfl,q1⟩)
def GA(t:TT)(ta tb:TE):TE:=λ σ H Q=>t σ H λ c H1=>if c=true then ta σ H1 Q else tb σ H1 Q
theorem yj{c:Expr}(hc:PT X c tA)(ha:PE X a ta)(hb:PE X b tb):PE X (.IfExp c a b pos) (GA tA ta tb):=by
 intro pins s σ H Q I h;refine wpAny_IfExp (a6 (hc pins s σ H _ I h) λ d s1 ⟨H1,I1,q1⟩=>?_);cases d with
 |true=>exact ha pins s1 σ H1 Q I1 q1
 |false=>exact hb pins s1 σ H1 Q I1 q1
end
def fz(K:PySem.W.Frag)(H:Hp)(a:Addr)(xs:List V):Prop:=
 Rd H a (.lst xs)\/
  ∃(o:Obj) (its:Array Value) (n:Nat),K.lookup a=some o/\o.cls= .type "list"/\o.dict=none/\o.data= .seq its n/\its.size<=sizeLine/\Vals xs its.toList
def cZ(K:PySem.W.Frag)(H:Hp)(a:Addr)(xs:List V):Prop:=
 Rd H a (.tup xs)\/
  ∃(o:Obj) (its:Array Value) (n:Nat),K.lookup a=some o/\o.cls= .type "tuple"/\o.data= .seq its n/\its.size<=sizeLine/\Vals xs its.toList
def Gi:Value->Option V
 | .none=>some .aH
 | .bool b=>some (.bl b)
 | .int i _=>some (.int i)
 | .str x _=>some (.str x)
 | .bytes b _=>some (.nk b)
 | .float b _=>some (.ny b)
 | .ref a=>some (.ref a)
 | .type n=>some (.ty n)
 |_=>none
theorem RelV.abs{x:V}{u:Value}(r:RelV x u):Gi u=some x:=by
 cases x with
 |aH=>cases r;rfl
 |bl _=>cases r;rfl
 |int _=>obtain⟨t,rfl⟩:=r;rfl
 |str _=>obtain⟨t,rfl⟩:=r;rfl
 |nk _=>obtain⟨t,rfl⟩:=r;rfl
 |ny _=>obtain⟨t,rfl⟩:=r;rfl
 |ref _=>cases r;rfl
 |ty _=>cases r;rfl
theorem RelV.inj{x y:V}{u:Value}(r:RelV x u)(q:RelV y u):x=y:=HS (r.abs.symm.trans q.abs)
theorem Vals.inj:∀ {xs ys:List V} {us:List Value},Vals xs us->Vals ys us->xs=ys
 |_,_,_,.nil,.nil=>rfl
 |_,_,_,.cons r t,.cons r' t'=>by rw[r.inj r',Vals.inj t t']
section
variable {X:Cx}{pins:List (Addr×Obj)}{σ:St}{H:Hp}{s:Shared}{a:Addr}{xs ys:List V}
theorem fz.of{K:PySem.W.Frag}(h:H a=some (.lst xs)):fz K H a xs:= .inl (.inl h)
theorem cZ.of{K:PySem.W.Frag}(h:H a=some (.tup xs)):cZ K H a xs:= .inl (.inl h)
theorem Inv.list(I:Inv X pins σ H s)(h:fz X.K H a xs):∃its:List Value,Vals xs its/\PlainL s.heap a its.toArray/\xs.length<=sizeLine:=by
 rcases h with h|⟨o,its,n,hk,hc,hd,hs,hz,r⟩
 . obtain⟨z,its,n,r,e⟩:=h.ok I.aF;exact⟨its,r,⟨_,n,e,rfl,rfl,rfl⟩,z⟩
 . refine⟨its.toList,r,⟨o,n,I.er a o hk,hc,hd,by simpa using hs⟩,?_⟩;have e:=r.length;simp only[Jf]at e;omega
theorem Inv.tuple(I:Inv X pins σ H s)(h:cZ X.K H a xs):∃its:List Value,Vals xs its/\IsTup s.heap a its.toArray/\xs.length<=sizeLine:=by
 rcases h with h|⟨o,its,n,hk,hc,hs,hz,r⟩
 . obtain⟨z,its,r,p⟩:=h.ok I.aF;exact⟨its,r,p,z⟩
 . refine⟨its.toList,r,⟨o,I.er a o hk,hc,n,by simpa using hs⟩,?_⟩;have e:=r.length;simp only[Jf]at e;omega
theorem Inv.sy(I:Inv X pins σ H s)(h:fz X.K H a xs)(h':fz X.K H a ys):xs=ys:=by
 obtain⟨its,r,⟨o,n,e,_,_,d⟩,_⟩:=I.list h;obtain⟨its',r',⟨o',n',e',_,_,d'⟩,_⟩:=I.list h';rw[e]at e';cases e';rw[d]at d';injection d' with d1 _;have:its=its':=by simpa using H0 Array.toList d1
 subst this;exact r.inj r'
theorem Inv.oV(I:Inv X pins σ H s)(h:cZ X.K H a xs)(h':cZ X.K H a ys):xs=ys:=by
 obtain⟨its,r,⟨o,e,_,n,d⟩,_⟩:=I.tuple h;obtain⟨its',r',⟨o',e',_,n',d'⟩,_⟩:=I.tuple h';rw[e]at e';cases e';rw[d]at d';injection d' with d1 _;have:its=its':=by simpa using H0 Array.toList d1
 subst this;exact r.inj r'
end
abbrev Cx.iO(X:Cx)(E:Value->Shared->Prop):Cx:={X with xe:=E}
abbrev Cx.oX(X:Cx):Cx:=X.iO λ _ _=>False
theorem Cx.Ok.iO{X:Cx}(ok:X.Ok)(E:Value->Shared->Prop):(X.iO E).Ok:=
 ⟨ok.mod,ok.kind,ok.glob,ok.blt,ok.above,ok.inj,ok.has,ok.tH,ok.hd,ok.frames,ok.xJ,ok.y4,ok.bs,ok.pw,ok.og,ok.oo,ok.gn,ok.sq,ok.gt⟩
theorem Cx.Ok.fV{X:Cx}{E:Value->Shared->Prop}(ok:(X.iO E).Ok):X.Ok:=
 ⟨ok.mod,ok.kind,ok.glob,ok.blt,ok.above,ok.inj,ok.has,ok.tH,ok.hd,ok.frames,ok.xJ,ok.y4,ok.bs,ok.pw,ok.og,ok.oo,ok.gn,ok.sq,ok.gt⟩
section
variable {X:Cx}{pins:List (Addr×Obj)}{σ:St}{H:Hp}{s:Shared}{E:Value->Shared->Prop}
theorem Inv.iO(I:Inv X pins σ H s)(E:Value->Shared->Prop):Inv (X.iO E) pins σ H s:=⟨I.ok.iO E,I.os,I.bare,I.base,I.loc,I.cell,I.free,I.fo,I.pin,I.aF,I.len⟩
theorem Inv.fV(I:Inv (X.iO E) pins σ H s):Inv X pins σ H s:=⟨I.ok.fV,I.os,I.bare,I.base,I.loc,I.cell,I.free,I.fo,I.pin,I.aF,I.len⟩
theorem SP.fV{D:Ends}{f:Flow}{s':Shared}(h:SP (X.iO E) pins D f s'):SP X pins D f s':=by
 cases f with
 |next=>obtain⟨σ',H',I,q⟩:=h;exact⟨σ',H',I.fV,q⟩
 |brk=>obtain⟨σ',H',I,q⟩:=h;exact⟨σ',H',I.fV,q⟩
 |cont=>obtain⟨σ',H',I,q⟩:=h;exact⟨σ',H',I.fV,q⟩
 |ret u=>obtain⟨v,σ',H',I,r,q⟩:=h;exact⟨v,σ',H',I.fV,r,q⟩
theorem de.oX{st:List Stmt}{t:TS}(h:de X.oX st t):de X st t:=λ pins s σ H D I hw=>
 Ip (h pins s σ H D (I.iO _) hw) (λ _ _ q=>q.fV) λ _ _ z=>False.elim z
end
section
variable {X:Cx}{st:Stmt}{rest:List Stmt}{t u:TS}{e:Expr}{te:TE}{pos:Pos}
def Eh:TS:=λ D σ H=>D.nx σ H
def FL(t u:TS):TS:=λ D σ H=>t {D with nx:=u D} σ H
theorem Ab:de X [] Eh:=λ _ _ σ H _ I h=>JH ⟨σ,H,I,h⟩
theorem xU(h1:PS X st t)(h2:de X rest u):de X (st::rest) (FL t u):=by
 intro pins s σ H D I h;refine wpAny_execs_cons (a6 (h1 pins s σ H {D with nx:=u D} I h) λ f s1 q=>?_);cases f with
 |next=>
  obtain⟨σ',H',I',q⟩:=q;exact h2 pins s1 σ' H' D I' q
 |ret v=>exact q
 |brk=>exact q
 |cont=>exact q
theorem Aa(h1:PS X st t):de X [st] t:=by
 intro pins s σ H D I h;refine wpAny_execs_cons (a6 (h1 pins s σ H D I h) λ f s1 q=>?_);cases f with
 |next=>exact JH q
 |ret v=>exact q
 |brk=>exact q
 |cont=>exact q
theorem Inv.quiet{pins:List (Addr×Obj)}{σ:St}{H:Hp}{s:Shared}(I:Inv X pins σ H s):interactive X.env=false:=by simp[interactive,I.ok.kind]
def Ey(te:TE):TS:=λ D σ H=>te σ H λ _ H1=>D.nx σ H1
theorem AW(he:PE X e te)(hs:swapsWith e none pos.line X.env=pure false:=by rfl):PS X (.Expr e pos) (Ey te):=by
 intro pins s σ H D I h;exact wpAny_Expr_any (a6 (he pins s σ H _ I h) λ v s1 ⟨x,H1,I1,r1,q1⟩=>⟨σ,H1,I1,q1⟩) I.quiet hs
def FW(te:TE):TS:=λ D σ H=>te σ H D.rt
theorem B8(he:PE X e te):PS X (.Return (some e) pos) (FW te):=by
 intro pins s σ H D I h;exact wpAny_Return_some (a6 (he pins s σ H _ I h) λ v s1 ⟨x,H1,I1,r1,q1⟩=>⟨x,σ,H1,I1,r1,q1⟩)
def Ge(c:TT)(t u:TS):TS:=λ D σ H=>c σ H λ b H1=>if b=true then t D σ H1 else u D σ H1
theorem E6{c:Expr}{a b:List Stmt}{tc:TT}(hc:PT X c tc)(ha:de X a t)(hb:de X b u):PS X (.If c a b pos) (Ge tc t u):=by
 intro pins s σ H D I h;refine wpAny_If (a6 (hc pins s σ H _ I h) λ d s1 ⟨H1,I1,q1⟩=>?_);cases d with
 |true=>exact ha pins s1 σ H1 D I1 q1
 |false=>exact hb pins s1 σ H1 D I1 q1
end
abbrev TG:=V->St->Hp->(St->Hp->Prop)->Prop
abbrev rT:=List V->St->Hp->(St->Hp->Prop)->Prop
def PG(X:Cx)(target:Expr)(t:TG):Prop:=
 ∀(pins:List (Addr×Obj)) (s:Shared) (σ:St) (H:Hp) (v:V) (u:Value) (Q:St->Hp->Prop),Inv X pins σ H s->RelV v u->t v σ H Q->
  wpAny (model X.prog X.w) X.A (assign target X.env u) (λ _ s'=>∃σ' H',Inv X pins σ' H' s'/\Q σ' H') X.xe s
def zd(X:Cx)(ts:List Expr)(t:rT):Prop:=
 ∀(pins:List (Addr×Obj)) (s:Shared) (σ:St) (H:Hp) (vs:List V) (us:List Value) (Q:St->Hp->Prop),Inv X pins σ H s->Vals vs us->t vs σ H Q->
  wpAny (model X.prog X.w) X.A (assignInOrder ((assignEach ts X.env).map (·.2)) us) (λ _ s'=>∃σ' H',Inv X pins σ' H' s'/\Q σ' H') X.xe s
abbrev yB:=V->V->V->Hp->(Hp->Prop)->Prop
def C6(X:Cx)(t:yB):Prop:=
 ∀(pins:List (Addr×Obj)) (s:Shared) (σ:St) (H:Hp) (o i v:V) (ov iv u:Value) (Q:Hp->Prop),Inv X pins σ H s->RelV o ov->RelV i iv->RelV v u->t o i v H Q->
  wpAny (model X.prog X.w) X.A (setItem ov iv u) (λ _ s'=>∃H',Inv X pins σ H' s'/\Q H') X.xe s
section
variable {X:Cx}{pos:Pos}
def gu(i:Nat):TG:=λ v σ H Q=>Q (σ.set i (some v)) H
theorem oO{i:Nat}{x:Str}(hN:X.N.Nodup)(hi:X.N[i]?=some x)(hx:Loc X.env.scope x)(hf:X.fn x=true\/X.env.scope.names.lookup x=some .local:=by first|exact .inl rfl|exact .inr rfl|assumption):PG X (.Name x pos) (gu i):=by
 intro pins s σ H v u Q I r h;exact wpAny_assign_Name (jF I hN hi hx r (λ s' I'=>⟨_,H,I',h⟩) hf)
def Co:rT:=λ vs σ H Q=>vs=[]/\Q σ H
def u3(t:TG)(u:rT):rT:=λ vs σ H Q=>∃v r,vs=v::r/\t v σ H λ σ' H'=>u r σ' H' Q
theorem Ba:zd X [] Co:=by
 intro pins s σ H vs us Q I r h;obtain⟨e,h⟩:=h;subst e;cases r;exact assignInOrder_nil ⟨σ,H,I,h⟩
theorem su{e:Expr}{es:List Expr}{t:TG}{u:rT}(h1:PG X e t)(h2:zd X es u)
 (hs:(assignEach (e::es) X.env).map (·.2)=assign e X.env::(assignEach es X.env).map (·.2):=by rfl):zd X (e::es) (u3 t u):=by
 intro pins s σ H vs us Q I r h;obtain⟨v,vr,e1,h⟩:=h;subst e1;cases r with
 |cons r rr=>
  rw[hs];refine J2 (a6 (h1 pins s σ H _ _ _ I r h) λ _ s1 ⟨σ1,H1,I1,q1⟩=>?_);exact h2 pins s1 σ1 H1 _ _ Q I1 rr q1
def C9(K:PySem.W.Frag)(n:Nat)(t:rT):TG:=λ v σ H Q=>∃a xs,v= .ref a/\cZ K H a xs/\xs.length=n/\t xs σ H Q
theorem Dd{es:List Expr}{k:Nat}{t:rT}{n:Nat}(hc:X.calm=true)(h:zd X es t)
 (hn:(assignEach es X.env).length=n:=by rfl) (hst:(assignEach es X.env).findIdx? (·.1)=none:=by rfl):PG X (.Tuple es k pos) (C9 X.K n t):=by
 intro pins s σ H v u Q I r hw;obtain⟨a,xs,e1,hq,hl,hw⟩:=hw;subst e1;cases r;obtain⟨its,rv,ht,hz⟩:=I.tuple hq;refine assign_Tuple_tuple (I.ok.hd hc) ht (by simp[hn,<-hl,rv.length]) hst λ h' hx=>?_;have I1:Inv X pins σ H {s with heap:=h'}:=I.kept (t':=s.toks) λ b o e=>hx b o (HK (Hg e)) e;exact h pins _ σ H xs _ Q I1 (by simpa using rv) hw
def vA(to ti:TE)(t:yB):TG:=λ v σ H Q=>to σ H λ o H1=>ti σ H1 λ i H2=>t o i v H2 λ H3=>Q σ H3
theorem Bs{o i:Expr}{to ti:TE}{t:yB}(ho:PE X o to)(hi:PE X i ti)(hs:C6 X t)
 (ha:∀v,assign (.Subscript o i pos) X.env v=(do
   let ov <-holding [v] (eval o X.env)
   let iv <-holding [v,ov] (eval i X.env)
   standAt pos
   holding [v,ov,iv] (setItem ov iv v)
   release [v,ov,iv] []):=by intro _;rfl):PG X (.Subscript o i pos) (vA to ti t):=by
 intro pins s σ H v u Q I r h;rw[ha];refine GZ (J8 (a6 (ho pins s σ H _ I h) λ ov s1 ⟨x,H1,I1,r1,q1⟩=>?_));refine GZ (J8 (a6 (hi pins s1 σ H1 _ I1 q1) λ iv s2 ⟨y,H2,I2,r2,q2⟩=>?_));refine GZ (J9 (GZ (J8 (a6 (hs pins s2 σ H2 x y v ov iv u _ I2 r1 r2 r q2) λ _ s3 ⟨H3,I3,q3⟩=>?_))));exact wpAny_release ⟨σ,H3,I3,q3⟩
def iC(te:TE)(g:TG):TS:=λ D σ H=>te σ H λ x H1=>g x σ H1 D.nx
theorem wL{tg e:Expr}{te:TE}{g:TG}(he:PE X e te)(hg:PG X tg g)(hs:swapsWithSole [tg] e pos.line X.env=pure false:=by rfl)(hw:swappedStores [tg] e X.env=pure none:=by rfl)
 (h1:(assignEach [tg] X.env).map (·.2)=[assign tg X.env]:=by rfl):PS X (.Assign [tg] e pos) (iC te g):=by
 intro pins s σ H D I h;refine wpAny_Assign_stores (a6 (he pins s σ H _ I h) λ v s1 ⟨x,H1,I1,r1,q1⟩=>?_) hs hw;rw[h1];exact a6 (hg pins s1 σ H1 x v _ I1 r1 q1) λ _ s2 q=>q
theorem DC{i:Nat}{x:Str}{e:Expr}{te:TE}{pos':Pos}(hN:X.N.Nodup)(hi:X.N[i]?=some x)(hx:Loc X.env.scope x)(he:PE X e te)(hs:swapsWith e (some (.Name x pos')) pos.line X.env=pure false:=by rfl)(hf:X.fn x=true\/X.env.scope.names.lookup x=some .local:=by first|exact .inl rfl|exact .inr rfl|assumption):
 PS X (.Assign [.Name x pos'] e pos) (iC te (gu i)):=by
 intro pins s σ H D I h;refine wpAny_Assign_Name (a6 (he pins s σ H _ I h) λ v s1 ⟨y,H1,I1,r1,q1⟩=>?_) hs;exact jF I1 hN hi hx r1 (λ s2 I2=>⟨_,H1,I2,q1⟩) hf
def B0(i j:Nat)(ta:TA):TS:=λ D σ H=>ta σ H λ vs H1=>∃v w,vs=[v,w]/\D.nx ((σ.set i (some v)).set j (some w)) H1
theorem CD{i j:Nat}{x y:Str}{a b:Expr}{ta:TA}{px py pt:Pos}{kt k2 pt2}(hc:X.calm=true)(hN:X.N.Nodup)(hi:X.N[i]?=some x)(hj:X.N[j]?=some y)(hij:i≠j)
 (hx:X.env.scope.names.lookup x=some .local) (hy:X.env.scope.names.lookup y=some .local) (ha:PA X [a,b] ta)
 (hw:swappedStores [.Tuple [.Name x px,.Name y py] kt pt] (.Tuple [a,b] k2 pt2) X.env=pure (some [x,y]))
 (hs:swapsWithSole [.Tuple [.Name x px,.Name y py] kt pt] (.Tuple [a,b] k2 pt2) pos.line X.env=pure false:=by rfl):
 PS X (.Assign [.Tuple [.Name x px,.Name y py] kt pt] (.Tuple [a,b] k2 pt2) pos) (B0 i j ta):=by
 intro pins s σ H D I h;rw[exec_Assign_arm];refine GZ (J9 ?_);rw[hs];refine GZ (HA ?_);rw[Hi (by decide)];refine GZ (Tuple_ (a6 (ha _ pins s σ H _ I h) λ us s1 ⟨vs,H1,I1,r1,q1⟩=>?_));obtain⟨v,w,e1,q1⟩:=q1;subst e1
 obtain⟨u1,u2,rfl,rv,rw'⟩:∃u1 u2,us=[u1,u2]/\RelV v u1/\RelV w u2:=by
  cases r1 with
  |cons p q=>
   cases q with
   |cons p' q'=>
    cases q';exact⟨_,_,rfl,p,p'⟩
 refine Kb ?_ (by show 2<=sizeLine;decide);have I2:Inv X pins σ H1 {s1 with heap:=s1.heap.push {cls:= .type "tuple",data:= .seq [u1,u2].toArray}}:=I1.kept (t':=s1.toks) λ b o e=>GY _ e;rw[hw];refine GZ (HA ?_);show wpAny (model X.prog X.w) X.A (do rule "assign.swapped-stores";let items <-unpackItems (.ref s1.heap.objs.size) 2 none;assignInOrder [λ v=>bindName X.env y v,λ v=>bindName X.env x v] items.reverse;pure Flow.next) _ _ _;refine GZ (wpAny_rule (GZ (unpackItems_tuple (items:= #[u1,u2]) (I.ok.hd hc) (IsTup.new s1.heap _) λ h' hx'=>?_)));have I3:=I2.kept (h':=h') (t':=s1.toks) λ b o e=>hx' b o (HK (Hg e)) e;show wpAny _ _ (assignInOrder [λ v=>bindName X.env y v,λ v=>bindName X.env x v] [u2,u1] >>= λ _=>pure Flow.next) _ _ _;refine GZ (J2 (wpAny_bindName (jF I3 hN hj (.inl hy) rw' (λ s2 I4=>?_) (.inr hy))));refine J2 (wpAny_bindName (jF I4 hN hi (.inl hx) rv (λ s3 I5=>assignInOrder_nil (HA ?_)) (.inr hx)));rw[List.set_comm _ _ (HP hij)]at I5;exact⟨_,H1,I5,q1⟩
def wm(c:TT)(tb:TS):TS:=λ D σ H=>∃W:Nat->St->Hp->Prop,(∃m,W m σ H)/\∀m σ H,W m σ H->
 c σ H λ b H1=>if b=true then∃N:St->Hp->Prop,(∀σ' H',N σ' H'->∃m',m'<m/\W m' σ' H')/\tb {D with nx:=N,ct:=N,bk:=D.nx} σ H1 else D.nx σ H1
theorem yQ{c:Expr}{body:List Stmt}{tc:TT}{tb:TS}(hp:PassesOwn (model X.prog X.w) X.A X.env X.xe)(hc:PT X c tc)(hb:de X body tb):PS X (.While c body [] pos) (wm tc tb):=by
 intro pins s σ H D I h;obtain⟨W,⟨m0,w0⟩,turn⟩:=h;refine wpAny_While (codeAny_whileLoop (λ n s'=>∃σ' H',Inv X pins σ' H' s'/\W n σ' H') ?_ m0 ⟨σ,H,I,w0⟩);rintro n s1 ⟨σ1,H1,I1,w1⟩;refine Iv hp (a6 (hc pins s1 σ1 H1 _ I1 (turn n σ1 H1 w1)) λ b s2 ⟨H2,I2,q2⟩=>?_);cases b with
 |true=>
  obtain⟨N,hN,q2⟩:=q2;rw[Hu rfl];refine Iv hp (a6 (hb pins s2 σ1 H2 _ I2 q2) λ f s3 q3=>?_);cases f with
  |next=>
   obtain⟨σ3,H3,I3,n3⟩:=q3;obtain⟨m',hm,w3⟩:=hN σ3 H3 n3;exact⟨m',hm,σ3,H3,I3,w3⟩
  |cont=>
   obtain⟨σ3,H3,I3,n3⟩:=q3;obtain⟨m',hm,w3⟩:=hN σ3 H3 n3;exact⟨m',hm,σ3,H3,I3,w3⟩
  |brk=>exact q3
  |ret v=>exact q3
 |false=>
  rw[Hi Hj];exact JH ⟨σ1,H2,I2,q2⟩
end
structure It where
 go:Nat->Hp->Prop
 ia:Nat->Hp->V->Hp->Prop
 stop:Nat->Hp->Prop
def fM(X:Cx)(pins:List (Addr×Obj))(H:Hp)(b:Addr):Prop:=
 H b=none/\b≠X.env.locals/\b∉X.fs/\(b∈X.ex\/X.s₀.heap.objs.size<=b)/\(∀x c,X.env.cells.lookup x=some c->c≠b)/\∀p∈X.pn++pins,p.1≠b
theorem Inv.kh{X:Cx}{pins:List (Addr×Obj)}{σ:St}{H H':Hp}{s:Shared}{b:Addr}(I:Inv X pins σ H s)(hb:s.heap.objs.size<=b)(hn:H' b=none):fM X pins H' b:=by
 refine⟨hn,IX (Hw I.lt hb),I.Gf hb,.inr (HX I.sz hb),λ x c e z=>?_,λ p hp z=>?_⟩
 . obtain⟨v,q⟩:=I.cell x c e;exact absurd (Hw q.lt (by rw[z];exact hb)) (Iy _)
 . exact absurd (Hw (Hg (I.pin p hp).1) (by rw[z];exact hb)) (Iy _)
structure Turn(P:Program)(w:World)(K:PySem.W.Frag)(tg:Expr)(J:It)(fp:List Addr)(it:Addr)(tn:Nat->Heap->Prop):Prop where
 mem:it∈fp
 obj:∀i h,tn i h->∀b∈fp,∃o,h.get? b=some o/\∀v,o.data≠ .cell v
 keep:∀i h h',tn i h->(∀b∈fp,∀o,h.get? b=some o->h'.get? b=some o)->tn i h'
 item:∀(X:Cx),X.prog=P->X.w=w->X.K=K->X.calm=true->∀(i:Nat) (pins:List (Addr×Obj)) (s:Shared) (σ:St) (H:Hp) (E:Value->Shared->Prop),Inv X pins σ H s->(∀b∈fp,fM X pins H b)->tn i s.heap->J.go i H->
  wpAny (model P w) X.A (pyNext (.ref it)) (λ r s1=>∃u,r=some u/\
   wpAny (model P w) X.A (letOwnedTupleGo tg (.ref it) u) (λ _ s2=>∃x H',Inv X pins σ H' s2/\RelV x u/\J.ia i H x H'/\tn (i+1) s2.heap/\∀b∈fp,H' b=none) E s1) E s
 done:∀(X:Cx),X.prog=P->X.w=w->X.K=K->X.calm=true->∀(i:Nat) (pins:List (Addr×Obj)) (s:Shared) (σ:St) (H:Hp) (E:Value->Shared->Prop),Inv X pins σ H s->(∀b∈fp,fM X pins H b)->tn i s.heap->J.stop i H->
  wpAny (model P w) X.A (pyNext (.ref it)) (λ r s1=>r=none/\Inv X pins σ H s1) E s
 self:∀(A:Around) (i:Nat) (s:Shared) (Q:Value->Shared->Prop) (E:Value->Shared->Prop),tn i s.heap->Q (.ref it) s->wpAny (model P w) A (pyIter (.ref it)) Q E s
abbrev TI:=St->Hp->(It->Hp->Prop)->Prop
def y8(X:Cx)(pins:List (Addr×Obj))(σ:St)(tg:Expr)(R:It->Hp->Prop)(itv:Value)(s2:Shared):Prop:=
 ∃(it:Addr) (fp:List Addr) (tn:Nat->Heap->Prop) (J:It) (H':Hp),itv= .ref it/\Inv X pins σ H' s2/\Turn X.prog X.w X.K tg J fp it tn/\tn 0 s2.heap/\(∀b∈fp,fM X pins H' b)/\R J H'
def PI(X:Cx)(tg iter:Expr)(wi:TI):Prop:=
 ∀(pins:List (Addr×Obj)) (s:Shared) (σ:St) (H:Hp) (R:It->Hp->Prop),Inv X pins σ H s->wi σ H R->
  wpAny (model X.prog X.w) X.A (eval iter X.env) (λ v s1=>wpAny (model X.prog X.w) X.A (pyIter v) (y8 X pins σ tg R) X.xe s1) X.xe s
theorem pS{M:Model}{A:Around}{E:Value->Shared->Prop}{s:Shared}{tg:Expr}{it:Addr}{u:Value}{o:Obj}{n:String}{vs:Array Value}{Q:Unit->Shared->Prop}(ho:s.heap.get? it=some o)(hc:o.cls= .type n)(hd:o.data= .fields vs)
 (hn: ["enumerate","zip","dict_itemiterator","dict_reverseitemiterator","odict_iterator","itertools.zip_longest","itertools.pairwise"].contains n=false) (hQ:Q () s):wpAny M A (letOwnedTupleGo tg (.ref it) u) Q E s:=by
 unfold letOwnedTupleGo
 cases tg<;>first
  |exact HA hQ
  |(cases u<;>first
     |exact HA hQ
     |(refine GZ (wpAny_load ho ?_)
       rw[hc,hd];show wpAny M A (if(["enumerate","zip","dict_itemiterator","dict_reverseitemiterator","odict_iterator","itertools.zip_longest","itertools.pairwise"].contains n&&vs[0]?==some (rawInt _))=true then _ else _) Q E s;rw[Hi (by intro h;rw[hn,Bool.false_and]at h;cases h)];exact HA hQ))
def BS(K:PySem.W.Frag)(a:Addr):It:=
 ⟨λ i H=>∃xs x,fz K H a xs/\xs[i]?=some x,λ i H x H'=>H'=H/\∀xs,fz K H a xs->xs[i]?=some x,λ i H=>∃xs,fz K H a xs/\xs.length<=i⟩
def C3(K:PySem.W.Frag)(a:Addr):It:=
 ⟨λ i H=>∃xs x,cZ K H a xs/\xs[i]?=some x,λ i H x H'=>H'=H/\∀xs,cZ K H a xs->xs[i]?=some x,λ i H=>∃xs,cZ K H a xs/\xs.length<=i⟩
def rG(lo:Int)(n:Nat):It:=⟨λ i _=>i<n,λ i H x H'=>H'=H/\x= .int (lo+i),λ i _=>n<=i⟩
theorem w4{P:Program}{w:World}{K:PySem.W.Frag}{tg:Expr}(a it:Addr):Turn P w K tg (BS K a) [it] it (λ i h=>h.IsListIter it a i) where
 mem:=by simp
 obj:=λ i h st b hb=>by
  have e:b=it:=by simpa using hb
  subst e;obtain⟨o,e,c,d⟩:=st;exact⟨o,e,λ v z=>by rw[d]at z;cases z⟩
 keep:=λ i h h' st k=>st.at λ o e=>k it (by simp) o e
 item:=by
  intro X hP hw hK hc i pins s σ H E I hf st hg;subst hP hw hK;obtain⟨xs,x,hq,hx⟩:=hg;obtain⟨its,rv,p,hz⟩:=I.list hq;obtain⟨u,hu,ru⟩:=rv.get hx;obtain⟨f0,f1,f2,f3,f4,f5⟩:=hf it (by simp);refine wpAny_pyNext_list_item st p.isList (x:=u) (by simpa using hu) λ h' st' sb=>?_;have I1:Inv X pins σ H {s with heap:=h'}:=I.turned (t':=s.toks) (λ b o hb e=>(sb.2 b hb).trans e) f0 f1 f3 f4 f5;obtain⟨o,e,c,d⟩:=id st';exact⟨u,rfl,pS (s:={s with heap:=h'}) e c d (by decide) ⟨x,H,I1,ru,⟨rfl,λ ys hy=>by rw[I.sy hy hq];exact hx⟩,st',λ b hb=>(hf b hb).1⟩⟩
 done:=by
  intro X hP hw hK hc i pins s σ H E I hf st hg;subst hP hw hK;obtain⟨xs,hq,hx⟩:=hg;obtain⟨its,rv,p,hz⟩:=I.list hq;obtain⟨f0,f1,f2,f3,f4,f5⟩:=hf it (by simp);have hl:=rv.length;exact wpAny_pyNext_list_end (I.ok.hd hc) st p.isList (by simp;omega) λ h' eb=>⟨rfl,I.turned (t':=s.toks) (λ b o hb e=>eb b o hb e) f0 f1 f3 f4 f5⟩
 self:=λ _ _ _ _ _ st h=>wpAny_pyIter_listiter st h
theorem vx{P:Program}{w:World}{K:PySem.W.Frag}{tg:Expr}(a it:Addr):Turn P w K tg (C3 K a) [it] it (λ i h=>h.IsTupleIter it a i) where
 mem:=by simp
 obj:=λ i h st b hb=>by
  have e:b=it:=by simpa using hb
  subst e;obtain⟨o,e,c,d⟩:=st;exact⟨o,e,λ v z=>by rw[d]at z;cases z⟩
 keep:=λ i h h' st k=>st.at λ o e=>k it (by simp) o e
 item:=by
  intro X hP hw hK hc i pins s σ H E I hf st hg;subst hP hw hK;obtain⟨xs,x,hq,hx⟩:=hg;obtain⟨its,rv,p,hz⟩:=I.tuple hq;obtain⟨u,hu,ru⟩:=rv.get hx;obtain⟨f0,f1,f2,f3,f4,f5⟩:=hf it (by simp);refine wpAny_pyNext_tuple_item st (show s.heap.IsTuple a its.toArray from p) (x:=u) (by simpa using hu) λ h' st' sb=>?_;have I1:Inv X pins σ H {s with heap:=h'}:=I.turned (t':=s.toks) (λ b o hb e=>(sb.2 b hb).trans e) f0 f1 f3 f4 f5;obtain⟨o,e,c,d⟩:=id st';exact⟨u,rfl,pS (s:={s with heap:=h'}) e c d (by decide) ⟨x,H,I1,ru,⟨rfl,λ ys hy=>by rw[I.oV hy hq];exact hx⟩,st',λ b hb=>(hf b hb).1⟩⟩
 done:=by
  intro X hP hw hK hc i pins s σ H E I hf st hg;subst hP hw hK;obtain⟨xs,hq,hx⟩:=hg;obtain⟨its,rv,p,hz⟩:=I.tuple hq;obtain⟨f0,f1,f2,f3,f4,f5⟩:=hf it (by simp);have hl:=rv.length;exact wpAny_pyNext_tuple_end (I.ok.hd hc) st (show s.heap.IsTuple a its.toArray from p) (by simp;omega) λ h' eb=>⟨rfl,I.turned (t':=s.toks) (λ b o hb e=>eb b o hb e) f0 f1 f3 f4 f5⟩
 self:=λ _ _ _ _ _ st h=>wpAny_pyIter_tupleiter st h
theorem uP{P:Program}{w:World}{K:PySem.W.Frag}{tg:Expr}(it:Addr)(lo:Int)(n:Nat):Turn P w K tg (rG lo n) [it] it (λ i h=>IsRangeIter h it (lo+(i:Nat)*1) ((n:Int)-(i:Nat)) 1) where
 mem:=by simp
 obj:=λ i h st b hb=>by
  have e:b=it:=by simpa using hb
  subst e
  exact⟨_,st,λ v z=>by
   have z':Data.fields _=Data.cell v:=z;cases z'⟩
 keep:=λ i h h' st k=>k it (by simp) _ st
 item:=by
  intro X hP hw hK hc i pins s σ H E I hf st hg;subst hP hw hK;obtain⟨f0,f1,f2,f3,f4,f5⟩:=hf it (by simp);have W:=Walks.range (prog:=X.prog) (w:=X.w) (I.ok.hd hc) it lo 1 n;refine W.item i s _ _ hg st λ v h' tk hv st' kk=>?_;obtain⟨t,rfl⟩:=hv;have I1:Inv X pins σ H {s with heap:=h',toks:=tk}:=I.turned (λ b o hb e=>kk b o (by simpa using hb) e) f0 f1 f3 f4 f5;refine⟨_,rfl,pS (s:={s with heap:=h',toks:=tk}) (n:="range_iterator") st' rfl rfl (by decide) ⟨.int (lo+i),H,I1,⟨t,?_⟩,⟨rfl,rfl⟩,st',λ b hb=>(hf b hb).1⟩⟩;rw[Int.mul_one]
 done:=by
  intro X hP hw hK hc i pins s σ H E I hf st hg;subst hP hw hK;obtain⟨f0,f1,f2,f3,f4,f5⟩:=hf it (by simp);exact wpAny_pyNext_range_end (I.ok.hd hc) st (by have:n<=i:=hg;omega) λ h' eb=>⟨rfl,I.turned (t':=s.toks) (λ b o hb e=>eb b o hb e) f0 f1 f3 f4 f5⟩
 self:=λ _ _ _ _ _ st h=>wpAny_pyIter_rangeiter st h
section
variable {X:Cx}{tg:Expr}
theorem xV{pins:List (Addr×Obj)}{σ:St}{H:Hp}{s:Shared}{R:It->Hp->Prop}{E:Value->Shared->Prop}{lo hi:Int}{t u v:Tok}{tk:Nat}(I:Inv X pins σ H s)(h1: -(2^62)<=lo)(h2:lo<2^62)(h3: -(2^62)<=hi)(h4:hi<2^62)
 (q:R (rG lo (hi-lo).toNat) H):wpAny (model X.prog X.w) X.A (pyIter (.ref s.heap.objs.size)) (y8 X pins σ tg R) E {s with heap:=s.heap.push {cls:= .type "range",data:= .fields #[.int lo t,.int hi u,.int 1 v]},toks:=tk}:=by
 refine wpAny_pyIter_range (IsRange.new ..) (small_one h1 h2 h3 h4) ?_;have I1:Inv X pins σ H {s with heap:=s.heap.push {cls:= .type "range",data:= .fields #[.int lo t,.int hi u,.int 1 v]},toks:=tk}:=I.kept λ b o e=>GY _ e
 refine⟨(s.heap.push {cls:= .type "range",data:= .fields #[.int lo t,.int hi u,.int 1 v]}).objs.size,[(s.heap.push {cls:= .type "range",data:= .fields #[.int lo t,.int hi u,.int 1 v]}).objs.size],_,_,H,rfl,
  I1.kept (t':=tk) λ b o e=>GY _ e,uP _ lo (hi-lo).toNat,?_,λ b hb=>?_,q⟩
 . have e1:lo+((0:Nat):Int)*1=lo:=by simp
   have e2:(((hi-lo).toNat:Nat):Int)-((0:Nat):Int)=Builtin.Range.rangeSize lo hi 1:=by rw[rangeSize_one];split<;>omega
   show IsRangeIter _ _ (lo+((0:Nat):Int)*1) ((((hi-lo).toNat:Nat):Int)-((0:Nat):Int)) 1;rw[e1,e2];exact Hq _ rfl
 . have e:b=(s.heap.push {cls:= .type "range",data:= .fields #[.int lo t,.int hi u,.int 1 v]}).objs.size:=by simpa using hb
   subst e;exact I1.kh (G8 _) (I1.aF.fresh (G8 _))
def uB(ta:TA):TI:=λ σ H R=>ta σ H λ vs H1=>∃j:Int,vs=[.int j]/\ -(2^62)<=j/\j<2^62/\R (rG 0 j.toNat) H1
theorem xO{a:Expr}{ta:TA}{p pos:Pos}(hg:Gl X "range")(hm:X.mg "range"=none)(ha:PA X [a] ta)(hs:starEach [a] X.env=[(false,eval a X.env)]:=by rfl):PI X tg (.Call (.Name "range" p) [a] [] pos) (uB ta):=by
 intro pins s σ H R I h;refine Call_ (gY I hg hm boot_range (Ih (a6 (ha pos pins s σ H _ I h) λ us s1 ⟨vs,H1,I1,r1,q1⟩=>?_) hs rfl));obtain⟨j,e,q1,q2,q⟩:=q1;subst e;cases r1 with
 |cons r rr=>
  cases rr;obtain⟨t,rfl⟩:=r;exact call_range_1 (xV I1 (by omega) (by omega) q1 q2 (by simpa using q))
def Dl(wi:TI)(g:TG)(tb:TS):TS:=λ D σ H=>wi σ H λ J H1=>∃W:Nat->Nat->St->Hp->Prop,(∃m,W 0 m σ H1)/\∀i m σ H,W i m σ H->
 (J.stop i H/\D.nx σ H)\/(J.go i H/\∃N:St->Hp->Prop,(∀σ' H',N σ' H'->∃m',m'<m/\W (i+1) m' σ' H')/\∀x H',J.ia i H x H'->g x σ H' λ σ2 H2=>tb {D with nx:=N,ct:=N,bk:=D.nx} σ2 H2)
def kB(fp:List Addr)(h:Heap):List (Addr×Obj):=fp.filterMap λ b=>(h.get? b).map λ o=>(b,o)
theorem gy{fp:List Addr}{h:Heap}{b:Addr}{o:Obj}(hb:b∈fp)(e:h.get? b=some o):(b,o)∈kB fp h:=List.mem_filterMap.mpr ⟨b,hb,by rw[e];rfl⟩
theorem wN{fp:List Addr}{h:Heap}{p:Addr×Obj}(hp:p∈kB fp h):p.1∈fp/\h.get? p.1=some p.2:=by
 obtain⟨b,hb,e⟩:=List.mem_filterMap.mp hp;cases q:h.get? b with
 |none=>rw[q]at e;cases e
 |some o=>
  rw[q]at e;have e':(b,o)=p:=HS e;subst e';exact⟨hb,q⟩
theorem Inv.pinned{pins:List (Addr×Obj)}{σ:St}{H:Hp}{s:Shared}{fp:List Addr}(I:Inv X pins σ H s)(hf:∀b∈fp,fM X pins H b)(ho:∀b∈fp,∃o,s.heap.get? b=some o/\∀v,o.data≠ .cell v):Inv X (pins++kB fp s.heap) σ H s:=
 I.tU λ p hp=>(Hz.mp hp).elim (λ z=>I.pin p (HM _ z)) λ z=>by
  obtain⟨hb,e⟩:=wN z;obtain⟨f0,f1,f2,_⟩:=hf p.1 hb;obtain⟨o,e',d⟩:=ho p.1 hb;rw[e]at e';cases e';exact⟨e,f0,f1,f2,d⟩
theorem Inv.jE{pins pl:List (Addr×Obj)}{σ:St}{H:Hp}{s:Shared}(I:Inv X (pins++pl) σ H s):Inv X pins σ H s:=I.tU λ p hp=>I.pin p (HM _ (JF _ hp))
theorem CM{iter:Expr}{body:List Stmt}{wi:TI}{g:TG}{tb:TS}{pos:Pos}(hp:PassesOwn (model X.prog X.w) X.A X.env X.xe)(hc:X.calm=true)(hi:PI X tg iter wi)(hg:PG X tg g)(hb:de X body tb)
 (hs:∀x,foldedSetIterable iter X.env x=pure x:=by intro _;rfl):PS X (.For tg iter body [] pos) (Dl wi g tb):=by
 intro pins s σ H D I h;refine wpAny_For (a6 (hi pins s σ H _ I h) λ v s1 h1=>a6 h1 λ itv s2 h2=>?_) hs;obtain⟨it,fp,tn,J,H2,e,I2,T,st2,f2,W,⟨m0,w0⟩,turn⟩:=h2;subst e;have stat:∀ {H':Hp},(∀b∈fp,H' b=none)->∀b∈fp,fM X pins H' b:=λ hn b hb=>⟨hn b hb,(f2 b hb).2⟩
 refine codeAny_forLoop_any (λ n s'=>∃i σ' H',Inv X pins σ' H' s'/\tn i s'.heap/\(∀b∈fp,H' b=none)/\W i n σ' H') ?_ m0 ⟨0,σ,H2,I2,st2,λ b hb=>(f2 b hb).1,w0⟩;rintro n s3 ⟨i,σ3,H3,I3,st3,fr3,w3⟩;rcases turn i n σ3 H3 w3 with⟨stop,qn⟩|⟨go,N,hN,step⟩
 . refine Iv hp (a6 (T.done X rfl rfl rfl hc i pins s3 σ3 H3 X.xe I3 (stat fr3) st3 stop) λ r s4 ⟨hr,I4⟩=>?_);subst hr;exact JH ⟨σ3,H3,I4,qn⟩
 . refine Iv hp (a6 (T.item X rfl rfl rfl hc i pins s3 σ3 H3 X.xe I3 (stat fr3) st3 go) λ r s4 ⟨u,hr,h4⟩=>?_);subst hr;refine Iv hp (a6 h4 λ _ s5 ⟨x,H5,I5,r5,y5,st5,fr5⟩=>?_);have I5':=I5.pinned (stat fr5) (T.obj _ _ st5);refine Iv hp (a6 (hg _ s5 σ3 H5 x u _ I5' r5 (step x H5 y5)) λ _ s6 ⟨σ6,H6,I6,q6⟩=>?_);refine Iv hp (a6 (hb _ s6 σ6 H6 _ I6 q6) λ f s7 q7=>?_)
   have again:∀ {σ7:St} {H7:Hp},Inv X (pins++kB fp s5.heap) σ7 H7 s7->N σ7 H7->∃m,m<n/\∃i σ' H',Inv X pins σ' H' s7/\tn i s7.heap/\(∀b∈fp,H' b=none)/\W i m σ' H':=λ{σ7 H7} I7 n7=>by
    obtain⟨m',hm,w7⟩:=hN σ7 H7 n7;refine⟨m',hm,i+1,σ7,H7,I7.jE,T.keep _ _ _ st5 λ b hb o e=>(I7.pin (b,o) (HM _ (HM _ (gy hb e)))).1,λ b hb=>?_,w7⟩;obtain⟨o,e,d⟩:=T.obj _ _ st5 b hb;exact(I7.pin (b,o) (HM _ (HM _ (gy hb e)))).2.1
   cases f with
   |next=>obtain⟨σ7,H7,I7,n7⟩:=q7;exact again I7 n7
   |cont=>obtain⟨σ7,H7,I7,n7⟩:=q7;exact again I7 n7
   |brk=>obtain⟨σ7,H7,I7,q7⟩:=q7;exact⟨σ7,H7,I7.jE,q7⟩
   |ret v=>obtain⟨x7,σ7,H7,I7,r7,q7⟩:=q7;exact⟨x7,σ7,H7,I7.jE,r7,q7⟩
end
theorem oY{lo:Int}{n:Nat}{g:TG}{tb:TS}{D:Ends}{σ:St}{H:Hp}(Pv:Nat->St->Hp->Prop)(h0:Pv 0 σ H)
 (hs:∀i σ H,i<n->Pv i σ H->g (.int (lo+i)) σ H λ σ2 H2=>tb {D with nx:=Pv (i+1),ct:=Pv (i+1),bk:=D.nx} σ2 H2) (hd:∀σ H,Pv n σ H->D.nx σ H):
 ∃W:Nat->Nat->St->Hp->Prop,(∃m,W 0 m σ H)/\∀i m σ H,W i m σ H->
  ((rG lo n).stop i H/\D.nx σ H)\/((rG lo n).go i H/\∃N:St->Hp->Prop,(∀σ' H',N σ' H'->∃m',m'<m/\W (i+1) m' σ' H')/\∀x H',(rG lo n).ia i H x H'->g x σ H' λ σ2 H2=>tb {D with nx:=N,ct:=N,bk:=D.nx} σ2 H2):=by
 refine⟨λ i m σ H=>m=n-i/\i<=n/\Pv i σ H,⟨n,by simp,IS _,h0⟩,?_⟩;rintro i m σ H ⟨rfl,hi,p⟩;by_cases hlt:i<n
 . refine .inr ⟨hlt,Pv (i+1),λ σ' H' p'=>⟨n-(i+1),by omega,rfl,hlt,p'⟩,λ x H' y=>?_⟩;obtain⟨e,y⟩:=y;subst e y;exact hs i σ _ hlt p
 . have e:i=n:=by omega
   subst e;exact .inl ⟨G8 _,hd σ H p⟩
abbrev R2:=V->V->Hp->VK->Prop
def aQ(X:Cx)(f:Value->Value->Sem Value)(r:R2):Prop:=
 ∀(pins:List (Addr×Obj)) (s:Shared) (σ:St) (H:Hp) (x y:V) (v u:Value) (Q:VK),Inv X pins σ H s->RelV x v->RelV y u->r x y H Q->
  wpAny (model X.prog X.w) X.A (f v u) (EP X pins σ Q) X.xe s
def uv(X:Cx)(f:Value->Sem Value)(r:V->Hp->VK->Prop):Prop:=
 ∀(pins:List (Addr×Obj)) (s:Shared) (σ:St) (H:Hp) (x:V) (v:Value) (Q:VK),Inv X pins σ H s->RelV x v->r x H Q->
  wpAny (model X.prog X.w) X.A (f v) (EP X pins σ Q) X.xe s
def aN(X:Cx)(f:Value)(r:List V->Hp->VK->Prop):Prop:=
 ∀(pins:List (Addr×Obj)) (s:Shared) (σ:St) (H:Hp) (xs:List V) (us:List Value) (Q:VK),Inv X pins σ H s->Vals xs us->r xs H Q->
  wpAny (model X.prog X.w) X.A (call f us) (EP X pins σ Q) X.xe s
def v8(r:R2)(ta tb:TE):TE:=λ σ H Q=>ta σ H λ x H1=>tb σ H1 λ y H2=>r x y H2 Q
def Ft(r:V->Hp->VK->Prop)(ta:TE):TE:=λ σ H Q=>ta σ H λ x H1=>r x H1 Q
def rI(C:Int->Int->Prop)(g:Int->Int->V):R2:=λ x y H Q=>∃i j,x= .int i/\y= .int j/\C i j/\Q (g i j) H
def mW(g:Int->Int->V):R2:=λ x y H Q=>∃i j,x= .int i/\y= .int j/\Q (g i j) H
def rU(g:Int->V):V->Hp->VK->Prop:=λ x H Q=>∃i,x= .int i/\Q (g i) H
section
variable {X:Cx}{a b c:Expr}{ta tb tc:TE}{pos:Pos}
theorem yR(ha:PE X a ta)(hb:PE X b tb){pins:List (Addr×Obj)}{s:Shared}{σ:St}{H:Hp}{R:V->V->Hp->Prop}(I:Inv X pins σ H s)
 (h:ta σ H λ x H1=>tb σ H1 λ y H2=>R x y H2) {Q:Value->Shared->Prop} {f:Value->Value->Sem Value}
 (hf:∀v u s2 x y H2,Inv X pins σ H2 s2->RelV x v->RelV y u->R x y H2->wpAny (model X.prog X.w) X.A (f v u) Q X.xe s2):
 wpAny (model X.prog X.w) X.A (eval a X.env) (λ v s₁=>wpAny (model X.prog X.w) X.A (eval b X.env) (λ u s₂=>wpAny (model X.prog X.w) X.A (f v u) Q X.xe s₂) X.xe s₁) X.xe s:=by
 refine a6 (ha pins s σ H _ I h) λ v s1 ⟨x,H1,I1,r1,q1⟩=>?_;refine a6 (hb pins s1 σ H1 _ I1 q1) λ u s2 ⟨y,H2,I2,r2,q2⟩=>?_;exact hf v u s2 x y H2 I2 r1 r2 q2
theorem DW{op:Operator}{r:R2}(ho:aQ X (binaryOp op) r)(ha:PE X a ta)(hb:PE X b tb):PE X (.BinOp a op b pos) (v8 r ta tb):=by
 intro pins s σ H Q I h;exact wpAny_BinOp (yR ha hb I h λ v u s2 x y H2 I2 rx ry q=>ho pins s2 σ H2 x y v u Q I2 rx ry q)
theorem ES{op:UnaryOp}{r:V->Hp->VK->Prop}(ho:uv X (unaryOp op) r)(ha:PE X a ta):PE X (.UnaryOp op a pos) (Ft r ta):=by
 intro pins s σ H Q I h;exact UnaryOp_ (a6 (ha pins s σ H _ I h) λ v s1 ⟨x,H1,I1,r1,q1⟩=>ho pins s1 σ H1 x v Q I1 r1 q1)
theorem zD{f:Value->Value->Sem Value}{C:Int->Int->Prop}{g:Int->Int->Int}
 (rule:∀(i j:Int) (t u:Tok) (s:Shared) (Q:Value->Shared->Prop) (E:Value->Shared->Prop),C i j->Q (.int (g i j) s.toks) {s with toks:=s.toks+1}->wpAny (model X.prog X.w) X.A (f (.int i t) (.int j u)) Q E s):
 aQ X f (rI C λ i j=> .int (g i j)):=by
 intro pins s σ H x y v u Q I rx ry h;obtain⟨i,j,rfl,rfl,hc,q⟩:=h;obtain⟨t,rfl⟩:=rx;obtain⟨t',rfl⟩:=ry;exact rule i j t t' s _ _ hc ⟨.int (g i j),H,I.tok _,⟨_,rfl⟩,q⟩
theorem CO{f:Value->Value->Sem Value}{g:Int->Int->Int}
 (rule:∀(i j:Int) (t u:Tok) (s:Shared) (Q:Value->Shared->Prop) (E:Value->Shared->Prop),Q (.int (g i j) s.toks) {s with toks:=s.toks+1}->wpAny (model X.prog X.w) X.A (f (.int i t) (.int j u)) Q E s):
 aQ X f (mW λ i j=> .int (g i j)):=by
 intro pins s σ H x y v u Q I rx ry h;obtain⟨i,j,rfl,rfl,q⟩:=h;obtain⟨t,rfl⟩:=rx;obtain⟨t',rfl⟩:=ry;exact rule i j t t' s _ _ ⟨.int (g i j),H,I.tok _,⟨_,rfl⟩,q⟩
theorem vK{f:Value->Value->Sem Value}{g:Int->Int->Bool}
 (rule:∀(i j:Int) (t u:Tok) (s:Shared) (Q:Value->Shared->Prop) (E:Value->Shared->Prop),Q (.bool (g i j)) s->wpAny (model X.prog X.w) X.A (f (.int i t) (.int j u)) Q E s):
 aQ X f (mW λ i j=> .bl (g i j)):=by
 intro pins s σ H x y v u Q I rx ry h;obtain⟨i,j,rfl,rfl,q⟩:=h;obtain⟨t,rfl⟩:=rx;obtain⟨t',rfl⟩:=ry;exact rule i j t t' s _ _ ⟨.bl (g i j),H,I,rfl,q⟩
def yg(i j:Int):Prop:=0<=j/\j<=1000000/\i.natAbs<2^64
theorem CI:aQ X (binaryOp .Add) (mW λ i j=> .int (i+j)):=CO λ _ _ _ _ _ _ _ q=>add_int q
theorem BE:aQ X (binaryOp .Sub) (mW λ i j=> .int (i-j)):=CO λ _ _ _ _ _ _ _ q=>sub_int q
theorem z9:aQ X (binaryOp .Mod) (rI (λ _ j=>j≠0) λ i j=> .int (i.fmod j)):=zD λ _ _ _ _ _ _ _ hc q=>mod_int' hc q
theorem Dm:aQ X (binaryOp .Pow) (rI yg λ i j=> .int (i^j.toNat)):=zD λ _ _ _ _ _ _ _ hc q=>pow_int_small hc.1 hc.2.1 hc.2.2 q
theorem Gj{f:Value->Sem Value}{g:Int->Int}
 (rule:∀(i:Int) (t:Tok) (s:Shared) (Q:Value->Shared->Prop) (E:Value->Shared->Prop),Q (.int (g i) s.toks) {s with toks:=s.toks+1}->wpAny (model X.prog X.w) X.A (f (.int i t)) Q E s):
 uv X f (rU λ i=> .int (g i)):=by
 intro pins s σ H x v Q I rx h;obtain⟨i,rfl,q⟩:=h;obtain⟨t,rfl⟩:=rx;exact rule i t s _ _ ⟨.int (g i),H,I.tok _,⟨_,rfl⟩,q⟩
theorem Cn:uv X (unaryOp .USub) (rU λ i=> .int (-i)):=Gj λ _ _ _ _ _ q=>neg_int q
end
def F3:V->V->Bool
 | .aH,.aH=>true| .aH,.int _=>true| .int _,.aH=>true| .aH,.bl _=>true| .bl _,.aH=>true| .aH,.str _=>true| .str _,.aH=>true
 | .int _,.int _=>true| .bl _,.bl _=>true| .str _,.str _=>true| .nk _,.nk _=>true
 | .int _,.str _=>true| .str _,.int _=>true| .bl _,.str _=>true| .str _,.bl _=>true
 |_,_=>false
def Gy:R2:=λ x y H Q=>F3 x y=true/\Q (.bl (!decide (x=y))) H
theorem AN{i j:Int}:decide (V.int i=V.int j)=(i==j):=by
 rw[JJ];simp
theorem Cw{i j:Bool}:decide (V.bl i=V.bl j)=(i==j):=by
 rw[JJ];simp
theorem Ai{i j:Str}:decide (V.str i=V.str j)=(i==j):=by
 rw[JJ];simp
theorem Bo{i j:Array UInt8}:decide (V.nk i=V.nk j)=(i.toList==j.toList):=by
 rw[JJ];cases i;cases j;simp
section
variable {X:Cx}{a b c:Expr}{ta tb tc:TE}{pos:Pos}
theorem cy{pins:List (Addr×Obj)}{σ:St}{H:Hp}{s:Shared}{Q:VK}{k k':Bool}(I:Inv X pins σ H s)(q:Q (.bl k) H)(e:k=k'):EP X pins σ Q (.bool k') s:=by
 subst e;exact⟨.bl k,H,I,rfl,q⟩
theorem E7:aQ X (compareOp .NotEq) Gy:=by
 intro pins s σ H x y v u Q I rx ry h;obtain⟨hs,q⟩:=h;cases x with
 |aH=>
  cases rx;cases y with
  |aH=>cases ry;exact PySem.EqNone.ne_none_none (cy I q (by simp))
  |bl j=>cases ry;exact PySem.EqNone.ne_none_bool (cy I q (by simp))
  |int j=>obtain⟨t',rfl⟩:=ry;exact PySem.EqNone.ne_none_int (cy I q (by simp))
  |str j=>obtain⟨t',rfl⟩:=ry;exact PySem.EqNone.ne_none_str (cy I q (by simp))
  |_=>exact absurd (show false=true from hs) Hj
 |bl i=>
  cases rx;cases y with
  |aH=>cases ry;exact PySem.EqNone.ne_bool_none (cy I q (by simp))
  |bl j=>cases ry;exact ne_bool (cy I q (H0 not Cw))
  |str j=>obtain⟨t',rfl⟩:=ry;exact PySem.EqMixed.ne_bool_str (cy I q (by simp))
  |_=>exact absurd (show false=true from hs) Hj
 |int i=>
  obtain⟨t,rfl⟩:=rx;cases y with
  |aH=>cases ry;exact PySem.EqNone.ne_int_none (cy I q (by simp))
  |int j=>obtain⟨t',rfl⟩:=ry;exact ne_int (cy I q (H0 not AN))
  |str j=>obtain⟨t',rfl⟩:=ry;exact PySem.EqMixed.ne_int_str (cy I q (by simp))
  |_=>exact absurd (show false=true from hs) Hj
 |str i=>
  obtain⟨t,rfl⟩:=rx;cases y with
  |aH=>cases ry;exact PySem.EqNone.ne_str_none (cy I q (by simp))
  |bl j=>cases ry;exact PySem.EqMixed.ne_str_bool (cy I q (by simp))
  |int j=>obtain⟨t',rfl⟩:=ry;exact PySem.EqMixed.ne_str_int (cy I q (by simp))
  |str j=>obtain⟨t',rfl⟩:=ry;exact ne_str (cy I q (H0 not Ai))
  |_=>exact absurd (show false=true from hs) Hj
 |nk i=>
  obtain⟨t,rfl⟩:=rx;cases y with
  |nk j=>obtain⟨t',rfl⟩:=ry;exact PySem.W.ne_bytes (cy I q (H0 not Bo))
  |_=>exact absurd (show false=true from hs) Hj
 |_=>cases y<;>exact absurd (show false=true from hs) Hj
theorem EW:aQ X (compareOp .Lt) (mW λ i j=> .bl (decide (i<j))):=vK λ _ _ _ _ _ _ _ q=>lt_int q
theorem DY:aQ X (compareOp .LtE) (mW λ i j=> .bl (decide (i<=j))):=vK λ _ _ _ _ _ _ _ q=>le_int q
theorem Ek:aQ X (compareOp .Gt) (mW λ i j=> .bl (decide (j<i))):=vK λ _ _ _ _ _ _ _ q=>gt_int q
theorem Ew:aQ X (compareOp .GtE) (mW λ i j=> .bl (decide (j<=i))):=vK λ _ _ _ _ _ _ _ q=>ge_int q
theorem v_:aQ X (compareOp .In) (λ x y H Q=>∃i j,x= .str i/\y= .str j/\Q (.bl (!(Builtin.Str.occurrences j i 0 j.length 1).isEmpty)) H):=by
 intro pins s σ H x y v u Q I rx ry h;obtain⟨i,j,rfl,rfl,q⟩:=h;obtain⟨t,rfl⟩:=rx;obtain⟨t',rfl⟩:=ry;exact in_str (cy I q rfl)
theorem aR(b:Expr){op:CmpOp}(h:op≠ .In:=by decide)(h2:op≠ .NotIn:=by decide):behindInMarks op b=false:=by
 have e1:(op==CmpOp.In)=false:=by cases op<;>first|rfl|exact absurd rfl h
 have e2:(op==CmpOp.NotIn)=false:=by cases op<;>first|rfl|exact absurd rfl h2
 cases b<;>simp[behindInMarks,e1,e2]
theorem Bd{op:CmpOp}{r:R2}(ho:aQ X (compareOp op) r)(ha:PE X a ta)(hb:PE X b tb)(hm:behindInMarks op b=false):PE X (.Compare a [op] [b] pos) (v8 r ta tb):=by
 intro pins s σ H Q I h;exact wpAny_Compare1 (yR ha hb I h λ v u s2 x y H2 I2 rx ry q=>ho pins s2 σ H2 x y v u Q I2 rx ry q) hm
def zr(t:TE):TT:=λ σ H Q=>t σ H λ x H'=>∃k,x= .bl k/\Q k H'
theorem Ar{op:CmpOp}{r:R2}(ho:aQ X (compareOp op) r)(ha:PE X a ta)(hb:PE X b tb)(hm:behindInMarks op b=false):PT X (.Compare a [op] [b] pos) (zr (v8 r ta tb)):=by
 intro pins s σ H Q I h
 refine wpAny_isTrue_Compare1 (a6 (ha pins s σ H _ I h) λ v s1 ⟨x,H1,I1,r1,q1⟩=>a6 (hb pins s1 σ H1 _ I1 q1) λ u s2 ⟨y,H2,I2,r2,q2⟩=>
  a6 (ho pins s2 σ H2 x y v u _ I2 r1 r2 q2) λ c s3 ⟨z,H3,I3,r3,k,e,q3⟩=>?_) hm
 subst e;cases r3;exact Ib ⟨H3,I3,q3⟩
def wc(r r':R2)(ta tb tc:TE):TE:=λ σ H Q=>ta σ H λ x H1=>tb σ H1 λ y H2=>r x y H2 λ z H3=>∃k,z= .bl k/\
 (if k=true then tc σ H3 λ w' H4=>r' y w' H4 Q else Q (.bl false) H3)
theorem yC{op op':CmpOp}{r r':R2}(ho:aQ X (compareOp op) r)(ho':aQ X (compareOp op') r')(ha:PE X a ta)(hb:PE X b tb)(hc:PE X c tc)
 (hm:lastMarks [op,op'] [b,c]=false:=by with_unfolding_all rfl):PT X (.Compare a [op,op'] [b,c] pos) (zr (wc r r' ta tb tc)):=by
 intro pins s σ H Q I h
 refine isTrue_chain (a6 (ha pins s σ H _ I h) λ v s1 ⟨x,H1,I1,r1,q1⟩=>test_link (a6 (hb pins s1 σ H1 _ I1 q1) λ u s2 ⟨y,H2,I2,r2,q2⟩=>
  a6 (ho pins s2 σ H2 x y v u _ I2 r1 r2 q2) λ d s3 ⟨z,H3,I3,r3,k,e,q3⟩=>?_)) hm
 subst e;cases r3;refine Ib ?_;cases k with
 |false=>
  obtain⟨k',e',q'⟩:=q3;cases e';exact ite_ff ⟨H3,I3,q'⟩
 |true=>
  refine ite_tt (test_last (a6 (hc pins s3 σ H3 _ I3 q3) λ w' s4 ⟨z',H4,I4,r4,q4⟩=>a6 (ho' pins s4 σ H4 y z' u w' _ I4 r2 r4 q4) λ d' s5 ⟨z2,H5,I5,r5,k2,e2,q5⟩=>?_));subst e2;cases r5;exact Ib ⟨H5,I5,q5⟩
theorem i4:(sizeLine:Nat)<2^63:=by rw[Ky];decide
theorem uK:aQ X (binaryOp .Add) (λ x y H Q=>∃i j,x= .str i/\y= .str j/\i.length+j.length<=sizeLine/\Q (.str (i++j)) H):=by
 intro pins s σ H x y v u Q I rx ry h;obtain⟨i,j,rfl,rfl,hz,q⟩:=h;obtain⟨t,rfl⟩:=rx;obtain⟨t',rfl⟩:=ry;exact add_str (λ t' tk=>⟨.str (i++j),H,I.tok _,⟨_,rfl⟩,q⟩) hz
theorem vals1{x:V}{us:List Value}(r:Vals [x] us):∃u,us=[u]/\RelV x u:=by
 cases r with
 |cons r1 r2=>cases r2;exact⟨_,rfl,r1⟩
theorem vals2{x y:V}{us:List Value}(r:Vals [x,y] us):∃u w',us=[u,w']/\RelV x u/\RelV y w':=by
 cases r with
 |cons r1 r2=>
  cases r2 with
  |cons r3 r4=>cases r4;exact⟨_,_,rfl,r1,r3⟩
theorem ye:aN X (.builtin "abs") (λ xs H Q=>∃i,xs=[.int i]/\Q (.int (if i<0 then-i else i)) H):=by
 intro pins s σ H xs us Q I r h;obtain⟨i,rfl,q⟩:=h;obtain⟨u,rfl,t,rfl⟩:=vals1 r;exact call_abs_int λ u tk=>⟨.int (if i<0 then-i else i),H,I.tok _,⟨_,rfl⟩,q⟩
theorem w6(hc:X.calm=true):aN X (.builtin "max") (λ xs H Q=>∃i j,xs=[.int i,.int j]/\Q (.int (if j>i then j else i)) H):=by
 intro pins s σ H xs us Q I r h;obtain⟨i,j,rfl,q⟩:=h;obtain⟨u,w',rfl,⟨t,rfl⟩,⟨t',rfl⟩⟩:=vals2 r;refine max_two_ints (I.ok.hd hc) λ h' tk k=>⟨_,H,I.kept k,?_,q⟩
 by_cases hj:j>i
 . rw[Hu hj,Hu hj];exact⟨_,rfl⟩
 . rw[Hi hj,Hi hj];exact⟨_,rfl⟩
theorem vT(hc:X.calm=true):aN X (.builtin "min") (λ xs H Q=>∃i j,xs=[.int i,.int j]/\Q (.int (if j<i then j else i)) H):=by
 intro pins s σ H xs us Q I r h;obtain⟨i,j,rfl,q⟩:=h;obtain⟨u,w',rfl,⟨t,rfl⟩,⟨t',rfl⟩⟩:=vals2 r;refine min_two_ints (I.ok.hd hc) λ h' tk k=>⟨_,H,I.kept k,?_,q⟩
 by_cases hj:j<i
 . rw[Hu hj,Hu hj];exact⟨_,rfl⟩
 . rw[Hi hj,Hi hj];exact⟨_,rfl⟩
theorem xa:aN X (.type "int") (λ xs H Q=>(∃i,xs=[.int i]/\Q (.int i) H)\/∃k,xs=[.bl k]/\Q (.int (if k then 1 else 0)) H):=by
 intro pins s σ H xs us Q I r h;rcases h with⟨i,rfl,q⟩|⟨k,rfl,q⟩
 . obtain⟨u,rfl,t,rfl⟩:=vals1 r;exact call_int_int ⟨.int i,H,I,⟨_,rfl⟩,q⟩
 . obtain⟨u,rfl,r1⟩:=vals1 r;cases r1;exact call_int_bool ⟨.int (if k then 1 else 0),H,I.tok _,⟨_,rfl⟩,q⟩
theorem r8:aN X (.type "str") (λ xs H Q=>∃i,xs=[.int i]/\i.natAbs.log2<1920/\Q (.str (toString i)) H):=by
 intro pins s σ H xs us Q I r h;obtain⟨i,rfl,hz,q⟩:=h;obtain⟨u,rfl,t,rfl⟩:=vals1 r;exact PySem.P.str_of_int hz ⟨.str _,H,I.tok _,⟨_,rfl⟩,q⟩
end
structure yV(h:Heap)(x dx C:Addr)(mA:Str->Option Value):Prop where
 obj:h.get? x=some (PySem.W.instObj C dx)
 ns:h.Ns1 dx mA
 ne:dx≠x
theorem xp{h:Heap}{dx:Addr}{mA:Str->Option Value}(n:h.Ns1 dx mA):∃od,h.get? dx=some od/\∀name,PySem.W.lookIn name od=some (mA name):=by
 obtain⟨o,es,ep,ho,hd,hk,_,hm⟩:=n;refine⟨o,ho,λ name=>?_⟩;have e:=hm name;unfold nsFind findBy at e;rw[<-Array.find?_toList]at e;unfold PySem.W.lookIn;rw[hd];dsimp only;split
 . rename_i y q;rw[q]at e;exact H0 some e
 . rename_i q;rw[q]at e
   have a:es.toList.any (·.refKey)=false:=by
    rw[List.any_eq_false];intro y hy;obtain⟨z,t,hkey⟩:=hk y (Array.mem_toList_iff.mp hy);simp[DictEntry.refKey,hkey]
   have a':¬es.toList.any (·.refKey)=true:=by rw[a];exact Hj
   rw[Hi a'];exact H0 some e
theorem yV.look{h:Heap}{x dx C:Addr}{mA:Str->Option Value}(I:yV h x dx C mA):∃od,PySem.W.InstAt h x (PySem.W.instObj C dx) C (some od)/\∀name,PySem.W.lookIn name od=some (mA name):=
 let⟨od,ho,hl⟩:=xp I.ns
 ⟨od,⟨I.obj,rfl,rfl,ho⟩,hl⟩
section
variable {prog:Program}{w:World}{A:Around}{E:Value->Shared->Prop}{s:Shared}{K:PySem.W.Frag}{x dx C f:Addr}{mA:Str->Option Value}{name:Str}{v:Value}
end
section
variable {P:Program}{w:World}{H H':Hp}{h h':Heap}{a C dx:Addr}{fs fs':List (Str×V)}
theorem AM(aF:du P w H h)(e:H a=some (.ins C dx fs)):∃mA,yV h a dx C mA/\(∀f,yY (fs.lookup f) (mA f))/\PySem.Within mA (fs.map (·.1))/\fs.length<=1000/\H dx=some (.own a):=by
 obtain⟨d,z,ne,ob,mA,n,r,q⟩:=(show bL P w H h a (.ins C dx fs)from aF a _ e)
 exact⟨mA,⟨ob,n,ne⟩,r,q,z,d⟩
end
structure CP(K:PySem.W.Frag)(C:Addr):Prop where
 pg:PySem.W.plainGet K C Str.empty=true
 hd:PySem.W.hasDictIn K C=true
 po:PySem.W.plainOver K C=true
 sa:PySem.W.findIn K (.ref C) "__setattr__"=some (some (.builtin "object.__setattr__"))
theorem CP.get{K:PySem.W.Frag}{C:Addr}(c:CP K C)(f:Str):PySem.W.plainGet K C f=true:=c.pg
section
variable {X:Cx}{pins:List (Addr×Obj)}{σ:St}{H:Hp}{s:Shared}{a C dx:Addr}{fs:List (Str×V)}{f:Str}{v:V}{A:Around}{E:Value->Shared->Prop}
end
section
variable {X:Cx}{o e value:Expr}{f:Str}{pos pos' tpos:Pos}{ta tv:TE}
end
section
variable {X:Cx}{pins:List (Addr×Obj)}{σ:St}{H:Hp}{s:Shared}{A:Around}{E:Value->Shared->Prop}{Q:Value->Shared->Prop}{c:Value}{b:Bool}
inductive d_(K:PySem.W.Frag)(H:Hp):V->Value->Prop where
 |aH:d_ K H .aH (.type "NoneType")
 |bl (x:Bool):d_ K H (.bl x) (.type "bool")
 |int (i:Int):d_ K H (.int i) (.type "int")
 |str (x:Str):d_ K H (.str x) (.type "str")
 |ny (x:UInt64):d_ K H (.ny x) (.type "float")
 |lst {a:Addr} {xs:List V} (e:H a=some (.lst xs)):d_ K H (.ref a) (.type "list")
 |d7 {a:Addr} {o:Obj} {xs:List V} (e:H a=some (.d7 o (.lst xs))):d_ K H (.ref a) (.type "list")
 |tup {a:Addr} {xs:List V} (e:H a=some (.tup xs)):d_ K H (.ref a) (.type "tuple")
 |dK {a:Addr} {kvs:List (Key×V)} (e:H a=some (.dK kvs)):d_ K H (.ref a) (.type "dict")
 |dT {a:Addr} {kvs:List (List Key×V)} (e:H a=some (.dT kvs)):d_ K H (.ref a) (.type "dict")
 |ins {a C dx:Addr} {fs:List (Str×V)} (e:H a=some (.ins C dx fs)) (cl:CP K C) (ha:PySem.W.findIn K (.ref C) "__class__"=some (some (.builtin "object.__class__")))
   (hn:PySem.W.specialIn K (.builtin "object.__class__") "__get__"=some (some (.builtin "getset_descriptor.__get__"))) (htk:PySem.W.takesIn K (.builtin "object.__class__")=some true)
   (hm:PySem.W.mroIn K C (.type "object")=some true):d_ K H (.ref a) (.ref C)
theorem wA{x:V}{u t:Value}(I:Inv X pins σ H s)(rx:RelV x u)(ty:d_ X.K H x t)(e:PySem.W.kitOne X.K t c=some b)(h:∀tk,Q (.bool b) {s with toks:=tk}):
 wpAny (model X.prog X.w) A (call (.builtin "isinstance") [u,c]) Q E s:=by
 cases ty with
 |aH=>cases (show u=Value.none from rx);exact Ia PySem.W.kitx_none I.er True.intro e (λ z=>nomatch z) h
 |bl y=>cases (show u=Value.bool y from rx);exact Ia PySem.W.kitx_bool I.er True.intro e (λ z=>nomatch z) h
 |int i=>obtain⟨t,q⟩:=(show∃t,u=Value.int i t from rx);cases q;exact Ia PySem.W.kitx_int I.er True.intro e (λ z=>nomatch z) h
 |str y=>obtain⟨t,q⟩:=(show∃t,u=Value.str y t from rx);cases q;exact Ia PySem.W.kitx_str I.er True.intro e (λ z=>nomatch z) h
 |ny y=>obtain⟨t,q⟩:=(show∃t,u=Value.float y t from rx);cases q;exact Ia PySem.W.kitx_float I.er True.intro e (λ z=>nomatch z) h
 | @lst a xs ea=>
   cases (show u=Value.ref a from rx);obtain⟨_,_,n,_,h1⟩:=(show bL X.prog X.w H s.heap a (.lst xs)from I.aF a _ ea)
   exact Ia Jp I.er ⟨_,h1,rfl⟩ e (λ z=>nomatch z) h
 | @d7 a ob xs ea=>
   cases (show u=Value.ref a from rx);obtain⟨_,_,_,n,_,h1⟩:=(show bL X.prog X.w H s.heap a (.d7 ob (.lst xs))from I.aF a _ ea)
   exact Ia Jp I.er ⟨_,h1,rfl⟩ e (λ z=>nomatch z) h
 | @tup a xs ea=>
   cases (show u=Value.ref a from rx);obtain⟨_,_,_,p⟩:=(show bL X.prog X.w H s.heap a (.tup xs)from I.aF a _ ea)
   obtain⟨o,h1,h2,_⟩:=p;exact Ia PySem.W.kitx_tuple I.er ⟨o,h1,h2⟩ e (λ z=>nomatch z) h
 | @dK a kvs ea=>
   cases (show u=Value.ref a from rx);obtain⟨_,_,vs,_,p⟩:=(show bL X.prog X.w H s.heap a (.dK kvs)from I.aF a _ ea)
   obtain⟨o,es,ep,h1,h2,_⟩:=p;exact Ia Jq I.er ⟨o,h1,h2.1⟩ e (λ z=>nomatch z) h
 | @dT a kvs ea=>
   cases (show u=Value.ref a from rx);obtain⟨_,_,xs,_,o,es,ep,h1,h2,_⟩:=(show bL X.prog X.w H s.heap a (.dT kvs)from I.aF a _ ea)
   exact Ia Jq I.er ⟨o,h1,h2.1⟩ e (λ z=>nomatch z) h
 | @ins a C dx fs ea cl ha hn htk hm=>
   cases (show u=Value.ref a from rx);obtain⟨mA,O,_⟩:=AM I.aF ea;obtain⟨od,J,_⟩:=O.look;exact Ia (PySem.W.kitx_own (cl.get _) cl.hd ha hn htk hm) I.er J e (λ z=>nomatch z) h
end
structure bW(k:Nat)(A:Around):Prop where
 hd:A.handled=none
 dp:A.depth+3*k+105<recursionLimit
 un:A.units+16*k+200<cLine
theorem bW.mono{j k:Nat}{A:Around}(r:bW k A)(h:j<=k):bW j A:=⟨r.hd,by have:=r.dp;omega,by have:=r.un;omega⟩
theorem bW.deeper{k:Nat}{A:Around}(r:bW (k+1) A)(env:Env):bW k (A.deeper env):=
 ⟨r.hd,by have:=r.dp;show A.depth+1+3*k+105<_;omega,by have:=r.un;show A.units+3+16*k+200<_;omega⟩
theorem bW.depth{k:Nat}{A:Around}(r:bW k A):A.depth<recursionLimit:=by have:=r.dp;omega
theorem bW.units{k:Nat}{A:Around}(r:bW k A):A.units+64<cLine:=by have:=r.un;omega
def Cm:TA:=λ _ H Q=>Q [] H
def Ee(ta:TE)(tr:TA):TA:=λ σ H Q=>ta σ H λ x H1=>tr σ H1 λ xs H2=>Q (x::xs) H2
section
variable {X:Cx}{e:Expr}{es:List Expr}{te:TE}{t:TA}{pos:Pos}
theorem CL:PA X [] Cm:=λ _ _ _ _ H Q I h=>Calls.spliced_nil ⟨[],H,I,.nil,h⟩
theorem AO(ha:PE X e te)(hr:PA X es t)(hs:starEach (e::es) X.env=(false,eval e X.env)::starEach es X.env:=by rfl):PA X (e::es) (Ee te t):=by
 intro pos pins s σ H Q I h;rw[hs];show wpAny _ _ (spliced ((false,eval e X.env)::backTo pos (starEach es X.env))) _ _ s;refine Calls.spliced_cons (a6 (ha pins s σ H _ I h) λ u s1 ⟨x,H1,I1,r1,q1⟩=>?_);exact a6 (hr pos pins s1 σ H1 _ I1 q1) λ us s2 ⟨xs,H2,I2,r2,q2⟩=>⟨x::xs,H2,I2,.cons r1 r2,q2⟩
def FX(t:TA):TE:=λ σ H Q=>t σ H λ xs H1=>xs.length<=sizeLine/\∀p,H1 p=none->Q (.ref p) (upd H1 p (.tup xs))
def FI(t:TA):TE:=λ σ H Q=>t σ H λ xs H1=>xs.length<=sizeLine/\∀p,H1 p=none->Q (.ref p) (upd H1 p (.lst xs))
theorem BZ{x1}(h:PA X es t):PE X (.Tuple es x1 pos) (FX t):=by
 intro pins s σ H Q I hq;refine wpAny_Tuple_spliced (a6 (h pos pins s σ H _ I hq) λ us s1 ⟨xs,H1,I1,r,z,q⟩=>⟨by rw[<-r.length];exact z,?_⟩);have hf:H1 s1.heap.objs.size=none:=I1.aF.fresh (G8 _);refine⟨.ref s1.heap.objs.size,upd H1 s1.heap.objs.size (.tup xs),I1.laid (t':=s1.toks) (λ b u e=>GY _ e) (G8 _) ?_,rfl,q _ hf⟩;exact⟨z,us,r,⟨_,Hq _ rfl,rfl,_,rfl⟩⟩
theorem xH(h:PA X es t):PE X (.List es pos) (FI t):=by
 intro pins s σ H Q I hq;refine wpAny_List_spliced (a6 (h pos pins s σ H _ I hq) λ us s1 ⟨xs,H1,I1,r,z,q⟩=>⟨by rw[<-r.length];exact z,?_⟩);have hf:H1 s1.heap.objs.size=none:=I1.aF.fresh (G8 _);refine⟨.ref s1.heap.objs.size,upd H1 s1.heap.objs.size (.lst xs),I1.laid (t':=s1.toks) (λ b u e=>GY _ e) (G8 _) ?_,rfl,q _ hf⟩;exact⟨z,us,0,r,Hq _ rfl⟩
end
abbrev Sp:=List V->Hp->VK->XK->Prop
abbrev lE:=List Env->Hp->Shared->XK->Value->Shared->Prop
structure uL(P:Program)(w:World)(K:PySem.W.Frag)(mg:Str->Option Value)(base:Heap)(A:Around)(outer:List Env)(s:Shared)(H:Hp):Prop where
 frames:A.frames=some outer
 mod:Mod K mg base
 bs:∀b o,base.get? b=some o->s.heap.get? b=some o/\H b=none
 pw:base.objs.size<=s.heap.objs.size
 gn:s.heap.FunFrames base outer
 sq:∀b∈iY outer,H b=none
 aF:du P w H s.heap
 bare:AllBare s.gens
 gt:P.given.tree=none
def CE(outer:List Env)(P:Program)(w:World)(H:Hp)(s:Shared)(Q:VK)(u:Value)(s':Shared):Prop:=
 ∃v H',s'.os=s.os/\AllBare s'.gens/\Un (iY outer) [] H H' s.heap s'.heap/\du P w H' s'.heap/\RelV v u/\Q v H'
def CR(CX:lE)(outer:List Env)(P:Program)(w:World)(H:Hp)(s:Shared)(Q:VK)(E:XK)(r:Result)(s':Shared):Prop:=
 match r with
 | .ok (.ret u)=>CE outer P w H s Q u s'
 | .ok _=>False
 | .error e=>CX outer H s E e s'
structure cK(P:Program)(w:World)(K:PySem.W.Frag)(mg:Str->Option Value)(base:Heap)(CX:lE)(k:Nat)(f:Addr)(fd:FuncData)(ps:List Str)(sp:Sp):Prop where
 len:∀vs H Q E,sp vs H Q E->vs.length=ps.length
 run:∀(A:Around) (outer:List Env) (s:Shared) (H:Hp) (args:Args) (us:List Value) (vs:List V) (Q:VK) (E:XK),bW k A->uL P w K mg base A outer s H->BindsTo s fd args (ps.zip us)->Vals vs us->sp vs H Q E->
  codeAny (model P w) A (.call (.ref f) args) (CR CX outer P w H s Q E) s
theorem cK.imp{P:Program}{w:World}{K:PySem.W.Frag}{mg:Str->Option Value}{base:Heap}{CX:lE}{k:Nat}{f:Addr}{fd:FuncData}{ps:List Str}{sp sp':Sp}(F:cK P w K mg base CX k f fd ps sp)
 (h:∀vs H Q E,sp' vs H Q E->sp vs H Q E):cK P w K mg base CX k f fd ps sp':=
 ⟨λ vs H Q E q=>F.len vs H Q E (h _ _ _ _ q),λ A outer s H args us vs Q E hr he hb hv hs=>F.run A outer s H args us vs Q E hr he hb hv (h _ _ _ _ hs)⟩
section
variable {X:Cx}{pins:List (Addr×Obj)}{σ:St}{H:Hp}{s s':Shared}
theorem Inv.F5(I:Inv X pins σ H s):uL X.prog X.w X.K X.mg X.base X.A X.stack s H:=
 ⟨I.ok.frames,I.ok.mod,I.bs,HX I.ok.pw I.sz,I.stack,I.tG,I.aF,I.bare,I.ok.gt⟩
theorem Inv.after{Q:VK}{u:Value}(I:Inv X pins σ H s)(h:CE X.stack X.prog X.w H s Q u s'):EP X pins σ Q u s':=by
 obtain⟨v,H',os,bare,un,aF,r,q⟩:=h;obtain⟨hh,g,d,t,os'⟩:=s';obtain rfl:os'=s.os:=os;exact⟨v,H',I.call (h':=hh) (g':=g) (d':=d) (t':=t) (ch:=[]) un aF bare (λ b z=>absurd z (by simp)),r,q⟩
end
def uI(sp:Sp)(dvs:List V)(E:XK)(t:TA):TE:=λ σ H Q=>t σ H λ vs H1=>sp (vs++dvs) H1 Q E
def Binds(K:PySem.W.Frag)(fd:FuncData)(ps:List Str)(ds:List Value):Prop:=
 ∀(s:Shared) (us:List Value),K.In s.heap->(us++ds).length=ps.length->BindsTo s fd ⟨us,[]⟩ (ps.zip (us++ds))
theorem Binds.all{K:PySem.W.Frag}{fd:FuncData}{ps:List Str}(h:∀us:List Value,us.length=ps.length->bindArgs fd ⟨us,[]⟩=pure (ps.zip us)):Binds K fd ps []:=λ s us _ hl=>by
 rw[HL]at hl⊢;exact .of_eq (h us hl)
def Passes(CX:lE)(X:Cx)(E:XK):Prop:=∀(pins:List (Addr×Obj)) (σ:St) (H:Hp) (s:Shared) (e:Value) (s':Shared),Inv X pins σ H s->CX X.stack H s E e s'->X.xe e s'
section
variable {X:Cx}{CX:lE}{k:Nat}{f C:Addr}{fd:FuncData}{ps:List Str}{sp:Sp}{dvs:List V}{ds:List Value}{E:XK}{x m:Str}{p pos apos:Pos}{e o:Expr}{es:List Expr}{ta:TE}{t:TA}
theorem sE{pins:List (Addr×Obj)}{σ:St}{H:Hp}{s:Shared}{Q:VK}{us:List Value}{vs:List V}(F:cK X.prog X.w X.K X.mg X.base CX k f fd ps sp)(hr:bW k X.A)(hb:Binds X.K fd ps ds)(hd:Vals dvs ds)(hx:Passes CX X E)
 (I:Inv X pins σ H s) (r:Vals vs us) (h:sp (vs++dvs) H Q E):wpAny (model X.prog X.w) X.A (call (.ref f) us) (EP X pins σ Q) X.xe s:=by
 have r2:Vals (vs++dvs) (us++ds):=r.append hd;have hl:(us++ds).length=ps.length:=by rw[<-r2.length];exact F.len _ _ _ _ h
 refine wpAny_call (KY (F.run X.A X.stack s H ⟨us,[]⟩ (us++ds) (vs++dvs) Q E hr I.F5 (hb s us I.er hl) r2 h) λ r s' hq=>?_);cases r with
 |error e=>exact hx pins σ H s e s' I hq
 |ok fl=>
  cases fl with
  |ret u=>exact I.after hq
  |next=>exact False.elim hq
  |brk=>exact False.elim hq
  |cont=>exact False.elim hq
theorem Aj(F:cK X.prog X.w X.K X.mg X.base CX k f fd ps sp)(hr:bW k X.A)(hg:Gl X x)(hm:X.mg x=some (.ref f))(hk:PySem.W.keepIn X.K (.ref f)=true)(hb:Binds X.K fd ps ds)(hd:Vals dvs ds)(hx:Passes CX X E)
 (ha:PA X (e::es) t) (hdb:(x==("__debug__":Str))=false:=by decide) (he:starEach (e::es) X.env=(false,eval e X.env)::starEach es X.env:=by rfl) (hpl:(backTo pos (starEach es X.env)).any (·.1)=false:=by rfl):
 PE X (.Call (.Name x p) (e::es) [] pos) (uI sp dvs E t):=by
 intro pins s σ H Q I h;refine IJ (jf I hg hm ?_ hdb);refine PySem.W.callWith_K (h₀:=X.base) I.ok.mod.zB hk (a6 (ha pos pins s σ H _ I h) λ us s1 ⟨vs,H1,I1,r,q⟩=>⟨I1.er,?_⟩) he hpl;exact sE F hr hb hd hx I1 r q
theorem xT(F:cK X.prog X.w X.K X.mg X.base CX k f fd ps sp)(hr:bW k X.A)(hg:Gl X x)(hm:X.mg x=some (.ref f))(hk:PySem.W.keepIn X.K (.ref f)=true)(hb:Binds X.K fd ps ds)(hd:Vals dvs ds)(hx:Passes CX X E)
 (hdb:(x==("__debug__":Str))=false:=by decide):PE X (.Call (.Name x p) [] [] pos) (uI sp dvs E Cm):=by
 intro pins s σ H Q I h;refine IJ (jf I hg hm ?_ hdb);exact PySem.W.callWith_K0 I.er hk (sE (us:=[]) F hr hb hd hx I .nil h)
end
section
variable {X:Cx}{CX:lE}{k:Nat}{f C:Addr}{fd:FuncData}{ps ks:List Str}{sp:Sp}{E:XK}{x m:Str}{p pos apos kpos:Pos}{e o:Expr}{es:List Expr}{kws:List Keyword}{te ta:TE}{t tk:TA}{nm:Option Str}
variable {g:List Value->List Value->List Value}{gV:List V->List V->List V}
end
structure gE(N P:List Str)(sc:Scope):Prop where
 kind:sc.kind= .function
 co:sc.isCoroutine=false
 gen:sc.isGenerator=false
 nd:N.Nodup
 pre:N.take P.length=P
 par:∀x∈P,sc.names.lookup x=some .local\/sc.names.lookup x=some .cell
 BQ:∀y∈sc.names,y.2≠ .free
theorem pb{kindOf:Str->Option NameKind}{x:Str}:∀ {binds:List (Str×Value)} {m:Str->Option Value},(∀v,(x,v)∉binds)->bindL kindOf binds m x=m x
 | [],_,_=>rfl
 |(n,v)::r,m,h=>by
  unfold bindL;rw[pb λ w hw=>h w (G7 _ hw)];split
  . have:x≠n:=by rintro rfl;exact h v Hm
    simp[this]
  . rfl
theorem pE{kindOf:Str->Option NameKind}{x:Str}:∀ {binds:List (Str×Value)} {m:Str->Option Value},(∀v,(x,v)∉binds)->bindC kindOf binds m x=m x
 | [],_,_=>rfl
 |(n,v)::r,m,h=>by
  unfold bindC;rw[pE λ w hw=>h w (G7 _ hw)];split
  . rfl
  . have:x≠n:=by rintro rfl;exact h v Hm
    simp[this]
theorem o3{kindOf:Str->Option NameKind}{x:Str}{v:Value}:∀ {P:List Str} {vs:List Value} {i:Nat} {m:Str->Option Value},P.Nodup->P[i]?=some x->vs[i]?=some v->kindOf x=some .local->
 bindL kindOf (P.zip vs) m x=some v
 | [],_,_,_,_,h,_,_=>by simp at h
 |_::_,[],_,_,_,_,h,_=>by simp at h
 |p::P,w::vs,0,m,nd,h1,h2,hk=>by
  simp at h1 h2;subst h1;subst h2;show bindL kindOf ((p,w)::P.zip vs) m p=_;unfold bindL;rw[pb λ v hv=>(HY.mp nd).1 (Kw hv).1,Hu hk];simp
 |p::P,w::vs,i+1,m,nd,h1,h2,hk=>by
  show bindL kindOf ((p,w)::P.zip vs) m x=_;unfold bindL;exact o3 (i:=i) (HY.mp nd).2 (by simpa using h1) (by simpa using h2) hk
theorem pB{kindOf:Str->Option NameKind}{x:Str}{v:Value}:∀ {P:List Str} {vs:List Value} {i:Nat} {m:Str->Option Value},P.Nodup->P[i]?=some x->vs[i]?=some v->kindOf x≠some .local->
 bindC kindOf (P.zip vs) m x=some v
 | [],_,_,_,_,h,_,_=>by simp at h
 |_::_,[],_,_,_,_,h,_=>by simp at h
 |p::P,w::vs,0,m,nd,h1,h2,hk=>by
  simp at h1 h2;subst h1;subst h2;show bindC kindOf ((p,w)::P.zip vs) m p=_;unfold bindC;rw[pE λ v hv=>(HY.mp nd).1 (Kw hv).1,Hi hk];simp
 |p::P,w::vs,i+1,m,nd,h1,h2,hk=>by
  show bindC kindOf ((p,w)::P.zip vs) m x=_;unfold bindC;exact pB (i:=i) (HY.mp nd).2 (by simpa using h1) (by simpa using h2) hk
def start(N:List Str)(vs:List V):St:=vs.map some++List.replicate (N.length-vs.length) none
def jx(CX:lE)(P:Program)(w:World)(K:PySem.W.Frag)(mg:Str->Option Value)(base:Heap)(N:List Str)(qual:Str)(scope:Scope)(f:Addr)(cd:Value)(A:Around)(outer:List Env)(s:Shared)(H:Hp)(E:XK):Cx where
 prog:=P
 w:=w
 K:=K
 mg:=mg
 base:=base
 A:=A.deeper (envOfC qual scope s.heap.objs.size f cd)
 N:=N
 s₀:=s
 H₀:=H
 env:=envOfC qual scope s.heap.objs.size f cd
 outer:=outer
 stack:=envOfC qual scope s.heap.objs.size f cd::outer
 ex:=[]
 calm:=true
 fn:=λ _=>true
 pn:=[]
 xe:=λ e s'=>wpAny (model P w) (A.deeper (envOfC qual scope s.heap.objs.size f cd)) (leaving (envOfC qual scope s.heap.objs.size f cd) e) (λ _ s''=>CX outer H s E e s'') (λ e' s''=>CX outer H s E e' s'') s'
theorem qJ{sc:Scope}{n:Nat}{x:Str}(h:sc.names.lookup x=some .cell):∃c,(cellsFrom n sc.names []).lookup x=some c:=by
 have q:=Iq sc.names n [] (.inl h);exact IH.mp q
theorem wU{CX:lE}{P:Program}{w:World}{K:PySem.W.Frag}{mg:Str->Option Value}{base:Heap}{N ps:List Str}{qual:Str}{scope:Scope}{f:Addr}{cd:Value}{A:Around}{outer:List Env}{s s1:Shared}{H:Hp}{E:XK}{us:List Value}{vs:List V}
 (S:gE N ps scope) (hd:A.handled=none) (e0:uL P w K mg base A outer s H) (hl:vs.length=ps.length) (r:Vals vs us)
 (x:InCallC s s.heap.objs.size (bindL (envOfC qual scope s.heap.objs.size f cd).kindOf (ps.zip us) λ _=>none) (cellsFrom (s.heap.objs.size+1) scope.names []) (bindC (envOfC qual scope s.heap.objs.size f cd).kindOf (ps.zip us) λ _=>none) s1):
 Inv (jx CX P w K mg base N qual scope f cd A outer s H E) [] (start N vs) H s1:=by
 have hpl:ps.length<=N.length:=by have:=H0 List.length S.pre;rw[List.length_take]at this;omega
 obtain⟨h1,tk,rfl,hk⟩:=x.done;have noA:∀b:Addr,b∉(jx CX P w K mg base N qual scope f cd A outer s H E).ex:=λ b z=>absurd (show b∈([]:List Addr)from z) (by simp)
 refine⟨⟨e0.mod,S.kind,rfl,rfl,G8 _,λ y z c h1 h2=>?_,λ y hy=>?_,λ y c _ h=>?_,λ _=>hd,Around.frames_deeper e0.frames,.inr ⟨rfl,rfl⟩,λ b z=>absurd z (noA b),e0.bs,e0.pw,λ b _ _=>noA b,λ b z=>absurd z (noA b),e0.gn,e0.sq,e0.gt⟩,
  rfl,e0.bare,Un.kept hk,⟨_,x.toInCall.ns,λ i y v h1 h2 h3=>?_⟩,λ y c h=>⟨_,x.cell y c h⟩,e0.aF.fresh (G8 _),λ y c h=>?_,λ p hp=>absurd (show p∈([]:List (Addr×Obj))from hp) (by simp),e0.aF.kept hk,?_⟩
 . exact name_of_addr x.apart (HV h1) (HV h2)
 . have hy:scope.names.lookup y=some .cell\/scope.names.lookup y=some .free:=hy;rcases hy with hy|hy
   . exact qJ hy
   . exact absurd rfl (S.BQ _ (HV hy))
 . exact KW (x.above y c (HV h))
 . have hi:i<vs.length:=by
    unfold start at h2;by_cases hi:i<vs.length
    . exact hi
    . rw[HQ (by simpa using hi)]at h2;rw[Kv]at h2;split at h2<;>cases h2
   have ha:vs[i]?=some v:=by
    unfold start at h2;rw[HF (by simpa using hi),Hb]at h2;cases e:vs[i]? with
    |none=>rw[e]at h2;cases h2
    |some a=>rw[e]at h2;cases h2;rfl
   obtain⟨u,hu,rv⟩:=r.get ha
   have hp:ps[i]?=some y:=by
    rw[<-S.pre,List.getElem?_take_of_lt (by omega)];exact h1
   have ndP:ps.Nodup:=by rw[<-S.pre];exact S.nd.sublist (List.take_sublist _ _)
   refine⟨u,rv,?_⟩;rcases S.par y (Hk hp)with k|k
   . exact .inl ⟨k,o3 ndP hp hu k⟩
   . obtain⟨c,e⟩:=qJ (n:=s.heap.objs.size+1) k;refine .inr ⟨.inl k,c,e,?_⟩;have q:=x.cell y c e;rw[pB ndP hp hu (by show scope.names.lookup y≠_;rw[k];decide)]at q;exact q
 . exact e0.aF.fresh (KW (x.above y c (HV h)))
 . unfold start;show _=N.length;rw[GX,GV,He];omega
theorem D0{CX:lE}{P:Program}{w:World}{K:PySem.W.Frag}{mg:Str->Option Value}{base:Heap}{k:Nat}{f:Addr}{name qual:Str}{params:Arguments}{body:List Stmt}{scope:Scope}{dV kV doc pm cdv ct oc:Value}{an od:Option Addr}
 {osl:Array (Option Value)} {N ps:List Str} {sp:Sp} (lk:K.lookup f=some ⟨oc,od,.func (PySem.W.fnOf name qual params body scope dV kV doc pm an cdv ct),osl⟩) (hcd:PySem.W.codeIn K cdv qual=true) (S:gE N ps scope)
 (len:∀vs H Q E,sp vs H Q E->vs.length=ps.length)
 (hbody:∀(A:Around) (outer:List Env) (s:Shared) (H:Hp) (vs:List V) (Q:VK) (E:XK),bW k (A.deeper (envOfC qual scope s.heap.objs.size f cdv))->sp vs H Q E->
   ∃t,de (jx CX P w K mg base N qual scope f cdv A outer s H E) body t/\t {nx:=λ _ H'=>Q .aH H',rt:=Q} (start N vs) H):
 cK P w K mg base CX (k+1) f (PySem.W.fnOf name qual params body scope dV kV doc pm an cdv ct) ps sp:=by
 refine⟨len,λ A outer s H args us vs Q E hr e0 hb r hsp=>?_⟩;have hl:=len _ _ _ _ hsp;have KX:K.In s.heap:=e0.mod.zB.keeps λ b o e=>(e0.bs b o e).1;have lim:s.heap.NoLimit:=e0.mod.nolimit.keeps λ b o e=>(e0.bs b o e).1
 have hkind:∀y∈ps.zip us,scope.names.lookup y.1=some .local\/(scope.names.lookup y.1=some .cell/\((cellsFrom (s.heap.objs.size+1) scope.names []).lookup y.1).isSome=true):=λ⟨n,v⟩ hy=>by
  rcases S.par n (Kw hy).1 with q|q
  . exact .inl q
  . exact .inr ⟨q,Iq _ _ _ (.inl q)⟩
 refine codeAny_call_function hr.depth (KX _ _ lk) rfl S.co S.gen rfl (PySem.W.codeRec_of KX hcd) (hb _ _ _ _ ?_);refine wpAny_newFunctionEnv_cells S.kind hkind λ env he s1 x=>?_;subst he;refine⟨lim.keeps x.toInCall.keep,codeAny_func ?_⟩;obtain⟨t,ht,hq⟩:=hbody A outer s H vs Q E (hr.deeper _) hsp;have I:Inv (jx CX P w K mg base N qual scope f cdv A outer s H E) [] (start N vs) H s1:=wU S hr.hd e0 hl r x;refine Ip (ht [] s1 (start N vs) H _ I hq) (λ fl s' hs=>?_) λ e s' hs=>hs
 have fin:∀ {σ':St} {H':Hp} {v:V} {u:Value},Inv (jx CX P w K mg base N qual scope f cdv A outer s H E) [] σ' H' s'->RelV v u->Q v H'->CE outer P w H s Q u s':=
  λ{σ' H' v u} J rv q=>⟨v,H',J.os,J.bare,J.base,J.aF,rv,q⟩
 cases fl with
 |ret u=>
  obtain⟨v,σ',H',J,rv,q⟩:=hs;exact fin J rv q
 |next=>
  obtain⟨σ',H',J,q⟩:=hs;exact fin (v:=V.aH) (u:=Value.none) J rfl q
 |brk=>
  obtain⟨_,_,_,q⟩:=hs;exact False.elim q
 |cont=>
  obtain⟨_,_,_,q⟩:=hs;exact False.elim q
section
variable {X:Cx}{x:Str}{p pos:Pos}{e:Expr}{es:List Expr}{t:TA}{id T:String}{r:List V->Hp->VK->Prop}
def Dh(r:List V->Hp->VK->Prop)(t:TA):TE:=λ σ H Q=>t σ H λ vs H1=>r vs H1 Q
theorem yS(hc:aN X (.builtin id) r)(hg:Gl X x)(hm:X.mg x=none)(hv:bootBuiltins x=some (.builtin id))(ha:PA X (e::es) t)(hn:x≠"__name__":=by decide)(hdb:(x==("__debug__":Str))=false:=by decide)
 (he:starEach (e::es) X.env=(false,eval e X.env)::starEach es X.env:=by rfl) (hpl:(backTo pos (starEach es X.env)).any (·.1)=false:=by rfl):PE X (.Call (.Name x p) (e::es) [] pos) (Dh r t):=by
 intro pins s σ H Q I h;refine IJ (gY I hg hm hv ?_ hn hdb);exact PyProof.Rows.callWith_builtin1 (a6 (ha pos pins s σ H _ I h) λ us s1 ⟨vs,H1,I1,r1,q1⟩=>hc pins s1 σ H1 vs us Q I1 r1 q1) he hpl
theorem xt(hc:aN X (.type T) r)(hg:Gl X x)(hm:X.mg x=none)(hv:bootBuiltins x=some (.type T))(ha:PA X (e::es) t)(hn:x≠"__name__":=by decide)(hdb:(x==("__debug__":Str))=false:=by decide)
 (he:starEach (e::es) X.env=(false,eval e X.env)::starEach es X.env:=by rfl) (hpl:(backTo pos (starEach es X.env)).any (·.1)=false:=by rfl):PE X (.Call (.Name x p) (e::es) [] pos) (Dh r t):=by
 intro pins s σ H Q I h;refine IJ (gY I hg hm hv ?_ hn hdb);exact Ih (a6 (ha pos pins s σ H _ I h) λ us s1 ⟨vs,H1,I1,r1,q1⟩=>hc pins s1 σ H1 vs us Q I1 r1 q1) he hpl
end
end L2
namespace HT
open PySem PyProof.Rows
section
open PySem.SeqAt
open PySem.AutoSeq1 (wpAny_loadPart')
open PySem.MeetsSeq PySem.MeetsSeq2 PySem.MeetsSeq3
end
section
variable {prog:Program}{w:World}{A:Around}{E:Value->Shared->Prop}{s:Shared}
theorem AY{t b:Addr}{vs ws:List Value}{Q:Value->Shared->Prop}(ht:IsTup s.heap t vs.toArray)(hb:IsTup s.heap b ws.toArray)(hv:vs≠ [])
 (h1:ws=[]->Q (.ref t) s) (h2:ws≠ []->Q (.ref s.heap.objs.size) {s with heap:=s.heap.push {cls:= .type "tuple",data:= .seq (vs++ws).toArray}})
 (hsz:vs.length+ws.length<=sizeLine):wpAny (model prog w) A (binaryOp .Add (.ref t) (.ref b)) Q E s:=by
 obtain⟨⟨cls,dd,data,sl⟩,ho,hc,n,hd⟩:=id ht;obtain⟨⟨cls2,dd2,data2,sl2⟩,ho2,hc2,n2,hd2⟩:=id hb;simp only at hc hd hc2 hd2;subst hc hd hc2 hd2;have e:vs.toArray++ws.toArray=(vs++ws).toArray:=by simp
 by_cases hw:ws=[]
 . exact KZ ⟨_,ho,rfl⟩ ⟨_,ho2,rfl⟩ Km KS Js Jn (Jh _ _)
    (tuple_addW1 t b vs.toArray ws.toArray n n2 dd dd2 sl sl2 (by simpa using hv) (by simp[hw])) ⟨ho,ho2,h1 hw⟩
 . refine KZ ⟨_,ho,rfl⟩ ⟨_,ho2,rfl⟩ Km KS Js Jn (Jh _ _)
    (tuple_addW2 t b vs.toArray ws.toArray n n2 dd dd2 sl sl2 (by simpa using hv) (by simpa using hw) (by rw[Hf,Hf];exact hsz)) ⟨ho,ho2,?_⟩
   rw[e];exact h2 hw
end
end HT
namespace L2
open PySem PySem.Spec PyProof.Rows
abbrev TO:=St->Hp->(Option Int->Hp->Prop)->Prop
def PO(X:Cx)(e:Option Expr)(t:TO):Prop:=
 ∀(pins:List (Addr×Obj)) (s:Shared) (σ:St) (H:Hp) (Q:Option Int->Hp->Prop),Inv X pins σ H s->t σ H Q->
  wpAny (model X.prog X.w) X.A (evalPart e X.env) (λ u s'=>∃o H',Inv X pins σ H' s'/\IsPart u o/\Q o H') X.xe s
def Bf:TO:=λ _ H Q=>Q none H
def Eb(t:TE):TO:=λ σ H Q=>t σ H λ x H1=>∃i,x= .int i/\Q (some i) H1
section
variable {X:Cx}{e:Expr}{te:TE}{lo hi:Option Expr}{tl th:TO}{pos p2:Pos}
theorem Ax:PO X none Bf:=by
 intro pins s σ H Q I h;rw[evalPart_none];exact HA ⟨none,H,I,.none,h⟩
theorem AX(h:PE X e te):PO X (some e) (Eb te):=by
 intro pins s σ H Q I hw;rw[evalPart_some];refine a6 (h pins s σ H _ I hw) λ u s1 ⟨x,H1,I1,r1,q1⟩=>?_;obtain⟨i,rfl,q⟩:=q1;obtain⟨t,rfl⟩:=r1;exact⟨some i,H1,I1,.int i t,q⟩
def CA(X:Cx)(r:V->Option Int->Option Int->Hp->VK->Prop):Prop:=
 ∀(pins:List (Addr×Obj)) (s:Shared) (σ:St) (H:Hp) (x:V) (v vl vu:Value) (lo hi:Option Int) (sl:Addr) (Q:VK),Inv X pins σ H s->RelV x v->s.heap.IsSliceOf sl vl vu .none->IsPart vl lo->IsPart vu hi->r x lo hi H Q->
  ∃T id,typeLookup (.type T) "__getitem__"=pure (some (.builtin id))/\s.TypeIs v T/\wpAny (model X.prog X.w) X.A (getItem v (.ref sl)) (EP X pins σ Q) X.xe s
def GH(r:V->Option Int->Option Int->Hp->VK->Prop)(te:TE)(tl th:TO):TE:=λ σ H Q=>te σ H λ x H1=>tl σ H1 λ l H2=>th σ H2 λ u H3=>r x l u H3 Q
theorem yp{r:V->Option Int->Option Int->Hp->VK->Prop}(hr:CA X r)(he:PE X e te)(hl:PO X lo tl)(hu:PO X hi th):PE X (.Subscript e (.Slice lo hi none p2) pos) (GH r te tl th):=by
 intro pins s σ H Q I h;refine Subscript_ (a6 (he pins s σ H _ I h) λ v s1 ⟨x,H1,I1,r1,q1⟩=>?_);refine wpAny_Slice (a6 (hl pins s1 σ H1 _ I1 q1) λ vl s2 ⟨l,H2,I2,pl,q2⟩=>a6 (hu pins s2 σ H2 _ I2 q2) λ vu s3 ⟨u,H3,I3,pu,q3⟩=>?_);rw[evalPart_none];refine HA ?_;have I4:Inv X pins σ H3 {s3 with heap:=s3.heap.push {cls:= .type "slice",data:= .fields #[vl,vu,.none]}}:=I3.kept (t':=s3.toks) λ b ob q=>GY _ q;obtain⟨T,id,hT,ht,hg⟩:=hr pins {s3 with heap:=s3.heap.push {cls:= .type "slice",data:= .fields #[vl,vu,.none]}} σ H3 x v vl vu l u s3.heap.objs.size Q I4 r1 (Heap.IsSliceOf.new ..) pl pu q3;show wpAny (model X.prog X.w) X.A (subscriptTail e (.Slice lo hi none p2) v (.ref s3.heap.objs.size)) (EP X pins σ Q) X.xe {s3 with heap:=s3.heap.push {cls:= .type "slice",data:= .fields #[vl,vu,.none]}};exact tail_any (ops:=[.ref s3.heap.objs.size,v]) ht hT hg (by with_unfolding_all rfl)
def Ec(K:PySem.W.Frag):R2:=λ x y H Q=>∃a b xs ys,x= .ref a/\y= .ref b/\cZ K H a xs/\cZ K H b ys/\xs≠ []/\xs.length+ys.length<=sizeLine/\
 (ys=[]->Q (.ref a) H)/\(ys≠ []->∀p,H p=none->Q (.ref p) (upd H p (.tup (xs++ys))))
theorem Vals.lq{xs:List V}{us:List Value}(r:Vals xs us):us=[]↔xs=[]:=by
 cases r with
 |nil=>simp
 |cons _ _=>simp
theorem Ao:aQ X (binaryOp .Add) (Ec X.K):=by
 intro pins s σ H x y v u Q I rx ry h;obtain⟨a,b,xs,ys,rfl,rfl,ha,hb,hx,hz,q1,q2⟩:=h;cases rx;cases ry;obtain⟨its,r1,p1,_⟩:=I.tuple ha;obtain⟨its2,r2,p2,_⟩:=I.tuple hb;refine HT.AY p1 p2 (λ z=>hx (r1.lq.mp z)) (λ z=>⟨.ref a,H,I,rfl,q1 (r2.lq.mp z)⟩) (λ z=>?_) (by rw[<-r1.length,<-r2.length];exact hz);refine⟨.ref s.heap.objs.size,_,I.laid (t':=s.toks) (o:= .tup (xs++ys)) (λ b ob q=>GY _ q) (G8 _) ?_,rfl,q2 (λ w=>z (r2.lq.mpr w)) _ (I.aF.fresh (G8 _))⟩;exact⟨by rw[GX];exact hz,_,r1.append r2,IsTup.new _ _⟩
end
def ki(n:Nat)(i:Int):Option Nat:=if 0<=i then(if i<n then some i.toNat else none)else if-(n:Int)<=i then some (i+n).toNat else none
def cR{α:Type}(xs:List α)(i:Int):Option α:=(ki xs.length i).bind λ j=>xs[j]?
theorem tR{n:Nat}{i:Int}{j:Nat}(h:ki n i=some j):seqIndex? i n=some j/\j<n/\ -(n:Int)<=i/\i<n:=by
 unfold ki at h;by_cases h0:0<=i
 . rw[Hu h0]at h;by_cases h1:i<n
   . rw[Hu h1]at h;have e:i.toNat=j:=HS h;exact⟨by rw[seqIndex_of h0 h1,e],by omega,by omega,h1⟩
   . rw[Hi h1]at h;cases h
 . rw[Hi h0]at h;by_cases h1: -(n:Int)<=i
   . rw[Hu h1]at h;have e:(i+n).toNat=j:=HS h;exact⟨by rw[seqIndex_neg (by omega) h1,e],by omega,h1,by omega⟩
   . rw[Hi h1]at h;cases h
theorem kT{α:Type}{xs:List α}{i:Int}{v:α}(h:cR xs i=some v):∃j,seqIndex? i xs.length=some j/\xs[j]?=some v/\j<xs.length/\ -(xs.length:Int)<=i/\i<xs.length:=by
 unfold cR at h;cases e:ki xs.length i with
 |none=>rw[e]at h;cases h
 |some j=>
  rw[e]at h;obtain⟨h1,h2,h3,h4⟩:=tR e;exact⟨j,h1,h,h2,h3,h4⟩
theorem la{α:Type}{xs:List α}{j:Nat}{v:α}(h:xs[j]?=some v):cR xs (j:Int)=some v:=by
 have hj:j<xs.length:=(GW.mp h).1
 have e:ki xs.length (j:Int)=some j:=by
  unfold ki;rw[Hu (by omega),Hu (by omega)];simp
 unfold cR;rw[e];exact h
def gC(b:Expr):Prop:=∀o i,subscripted b false o i=operate [o,i] (getItem o i)
def oP(X:Cx)(r:R2):Prop:=
 ∀(value slice:Expr) (pins:List (Addr×Obj)) (s:Shared) (σ:St) (H:Hp) (x y:V) (v u:Value) (Q:VK),Inv X pins σ H s->RelV x v->RelV y u->r x y H Q->
  subscripted slice false v u=operate [v,u] (getItem v u)->wpAny (model X.prog X.w) X.A (subscriptTail value slice v u) (EP X pins σ Q) X.xe s
def FC(X:Cx)(id:String)(r:V->List V->Hp->VK->Prop):Prop:=
 ∀(pins:List (Addr×Obj)) (s:Shared) (σ:St) (H:Hp) (x:V) (xs:List V) (v:Value) (us:List Value) (Q:VK),Inv X pins σ H s->RelV x v->Vals xs us->r x xs H Q->
  wpAny (model X.prog X.w) X.A (call (.builtin id) (v::us)) (EP X pins σ Q) X.xe s
section
variable {X:Cx}{a b:Expr}{ta tb:TE}{pos:Pos}
theorem uQ{r:R2}(hr:oP X r)(ha:PE X a ta)(hb:PE X b tb)(hs:gC b):PE X (.Subscript a b pos) (v8 r ta tb):=by
 intro pins s σ H Q I h;exact Subscript_ (yR ha hb I h λ v u s2 x y H2 I2 rx ry q=>hr a b pins s2 σ H2 x y v u Q I2 rx ry q (hs _ _))
def F2(K:PySem.W.Frag):R2:=λ x y H Q=>∃p xs i v,x= .ref p/\y= .int i/\fz K H p xs/\cR xs i=some v/\Q v H
def FE(K:PySem.W.Frag):R2:=λ x y H Q=>∃p xs i v,x= .ref p/\y= .int i/\cZ K H p xs/\cR xs i=some v/\Q v H
def FH:R2:=λ x y H Q=>∃z i c,x= .str z/\y= .int i/\z.length<=sizeLine/\cR z.cps.toList i=some c/\Q (.str ⟨#[c]⟩) H
theorem tV:oP X (F2 X.K):=by
 intro value slice pins s σ H x y v u Q I rx ry h hs;obtain⟨p,xs,i,z,rfl,rfl,hq,he,q⟩:=h;cases rx;obtain⟨t,rfl⟩:=ry;obtain⟨its,r,pl,hz⟩:=I.list hq;obtain⟨j,h1,h2,h3,h4,h5⟩:=kT he;obtain⟨w,ew,rw'⟩:=r.get h2;have hl:=r.length;have hn:=i4;have fin:EP X pins σ Q w s:=⟨z,H,I,rw',q⟩
 by_cases h0:0<=i
 . have hj:i.toNat=j:=by
    rw[seqIndex_of h0 h5]at h1;exact HS h1
   exact item_listR pl.isList h0 (by omega) (by rw[hj];simpa using ew) fin hs
 . have hj:(i+(its.toArray.size:Int)).toNat=j:=by
    rw[seqIndex_neg (by omega) h4]at h1;rw[Hf,<-hl];exact HS h1
   exact subscriptTail_builtinR (x:=w) pl.isList.typeIs slot_list_getitem.lookup
    (wpAny_getItem_list_neg (Q:=λ r s'=>r=w/\EP X pins σ Q r s') pl.isList (by omega) (by rw[Hf]<;>omega) (by omega) (by rw[hj];simpa using ew) ⟨rfl,fin⟩) hs
theorem CQ:oP X (FE X.K):=by
 intro value slice pins s σ H x y v u Q I rx ry h hs;obtain⟨p,xs,i,z,rfl,rfl,hq,he,q⟩:=h;cases rx;obtain⟨t,rfl⟩:=ry;obtain⟨its,r,pl,hz⟩:=I.tuple hq;obtain⟨j,h1,h2,h3,h4,h5⟩:=kT he;obtain⟨w,ew,rw'⟩:=r.get h2;have hl:=r.length;have hn:=i4;have fin:EP X pins σ Q w s:=⟨z,H,I,rw',q⟩
 exact subscriptTail_builtinR (x:=w) pl.typeIs slot_tuple_getitem.lookup
  (getItem_tuple (j:=j) (Q:=λ r s'=>r=w/\EP X pins σ Q r s') pl (by omega) (by omega) (by rw[Hf,<-hl];exact h1) (by simpa using ew) ⟨rfl,fin⟩) hs
theorem CH:oP X FH:=by
 intro value slice pins s σ H x y v u Q I rx ry h hs;obtain⟨z,i,c,rfl,rfl,hz,he,q⟩:=h;obtain⟨t,rfl⟩:=rx;obtain⟨t',rfl⟩:=ry;obtain⟨j,h1,h2,h3,h4,h5⟩:=kT he;have hl:z.cps.toList.length=z.length:=by simp[Str.length]
 rw[hl]at h1 h4 h5;have hn:=i4
 exact tail_any (Jk s z t) slot_str_getitem.lookup (getItem_str (c:=c) (by
  have e1:decide (i< -(2^63:Int))=false:=Hc (by omega);have e2:decide (i>=2^63)=false:=Hc (by omega);rw[e1,e2,Bool.or_false]) (by rw[h1];simpa using h2) ⟨.str ⟨#[c]⟩,H,I.tok _,⟨_,rfl⟩,q⟩) hs
theorem uH(its:List Value)(n j:Nat)(u:Value):Obj.mapSeq (·.setIfInBounds j u) {cls:= .type "list",data:= .seq its.toArray n}= {cls:= .type "list",data:= .seq (its.set j u).toArray n}:=by
 simp[Obj.mapSeq]
theorem Inv.lst{pins:List (Addr×Obj)}{σ:St}{H:Hp}{s:Shared}{p:Addr}{xs:List V}(I:Inv X pins σ H s)(h:H p=some (.lst xs)):
 ∃(its:List Value) (n:Nat),Vals xs its/\s.heap.get? p=some {cls:= .type "list",data:= .seq its.toArray n}/\xs.length<=sizeLine:=by
 obtain⟨z,its,n,r,e⟩:=I.aF p _ h;exact⟨its,n,r,e,z⟩
theorem Inv.DF{pins:List (Addr×Obj)}{σ:St}{H:Hp}{s:Shared}{p:Addr}{xs ys:List V}{its its':List Value}{n n':Nat}{f:Obj->Obj}(I:Inv X pins σ H s)(h:H p=some (.lst xs))
 (ho:s.heap.get? p=some {cls:= .type "list",data:= .seq its.toArray n}) (hf:f {cls:= .type "list",data:= .seq its.toArray n}= {cls:= .type "list",data:= .seq its'.toArray n'}) (r:Vals ys its') (hz:ys.length<=sizeLine) (t:Nat):
 Inv X pins σ (upd H p (.lst ys)) {s with heap:=s.heap.update p f,toks:=t}:=by
 have e:(s.heap.update p f).get? p=some {cls:= .type "list",data:= .seq its'.toArray n'}:=by
  rw[Jz f ho (by rw[hf]<;>rfl),hf]
 refine I.write (x:=p) (e:=p) (by rw[h];trivial) (.inl rfl) (λ b u hb q=>(Kz _ _ (HP hb)).trans q) ⟨_,e⟩ ?_;exact⟨hz,its',n',r,e⟩
def pU:V->V->V->Hp->(Hp->Prop)->Prop:=λ o i v H Q=>∃p xs k j,o= .ref p/\i= .int k/\H p=some (.lst xs)/\ki xs.length k=some j/\Q (upd H p (.lst (xs.set j v)))
theorem set_list:C6 X pU:=by
 intro pins s σ H o i v ov iv u Q I ro ri rv h;obtain⟨p,xs,k,j,rfl,rfl,hp,hj,q⟩:=h;cases ro;obtain⟨t,rfl⟩:=ri;obtain⟨its,n,r,ho,hz⟩:=I.lst hp;obtain⟨h1,h2,h3,h4⟩:=tR hj;have hl:=r.length;have hn:=i4
 have I':Inv X pins σ (upd H p (.lst (xs.set j v))) {s with heap:=s.heap.update p (Obj.mapSeq (·.setIfInBounds j u))}:=
  I.DF hp ho (uH its n j u) (r.set rv j) (by rw[HZ];exact hz) s.toks
 by_cases h0:0<=k
 . have hk:k.toNat=j:=by
    rw[seqIndex_of h0 h4]at h1;exact HS h1
   exact PySem.W.ki_setAt ho h0 (by omega) (by rw[Hf,<-hl];exact h4) (by rw[hk];exact⟨_,I',q⟩)
 . have hk:(k+(its.toArray.size:Int)).toNat=j:=by
    rw[seqIndex_neg (by omega) h3]at h1;rw[Hf,<-hl];exact HS h1
   exact PySem.W.ki_setBack ho (by omega) (by rw[Hf,<-hl];exact h3) (by omega) (by rw[hk];exact⟨_,I',q⟩)
def gx:V->Bool
 | .aH=>true
 | .bl _=>true
 | .int _=>true
 | .str _=>true
 |_=>false
def o8:V->V->Bool
 | .aH,.aH=>true
 | .bl a,.bl b=>a==b
 | .bl a,.int b=>(if a then 1 else 0)==b
 | .int a,.bl b=>a==(if b then 1 else 0)
 | .int a,.int b=>a==b
 | .str a,.str b=>a==b
 |_,_=>false
theorem Cv{A:Around}{s:Shared}{y x:V}{u v:Value}(ry:RelV y u)(rx:RelV x v)(fy:gx y=true)(fx:gx x=true):SeqAt.EqAt A s u v (o8 y x):=by
 cases y with
 |aH=>
  cases ry;cases x with
  |aH=>cases rx;exact SeqAt.EqAt.same _
  |bl b=>cases rx;exact SeqAt.EqAt.none_bool b
  |int b=>obtain⟨t,rfl⟩:=rx;exact SeqAt.EqAt.none_int b t
  |str b=>obtain⟨t,rfl⟩:=rx;exact SeqAt.EqAt.none_str b t
  |_=>exact absurd (show false=true from fx) Hj
 |bl a=>
  cases ry;cases x with
  |aH=>cases rx;exact SeqAt.EqAt.bool_none a
  |bl b=>cases rx;exact SeqAt.EqAt.bool_bool a b
  |int b=>obtain⟨t,rfl⟩:=rx;exact SeqAt.EqAt.bool_int a b t
  |str b=>obtain⟨t,rfl⟩:=rx;exact SeqAt.EqAt.bool_str a b t
  |_=>exact absurd (show false=true from fx) Hj
 |int a=>
  obtain⟨t',rfl⟩:=ry;cases x with
  |aH=>cases rx;exact SeqAt.EqAt.int_none a t'
  |bl b=>cases rx;exact SeqAt.EqAt.int_bool a t' b
  |int b=>obtain⟨t,rfl⟩:=rx;exact SeqAt.EqAt.int_int a t' b t
  |str b=>obtain⟨t,rfl⟩:=rx;exact SeqAt.EqAt.int_str a t' b t
  |_=>exact absurd (show false=true from fx) Hj
 |str a=>
  obtain⟨t',rfl⟩:=ry;cases x with
  |aH=>cases rx;exact SeqAt.EqAt.str_none a t'
  |bl b=>cases rx;exact SeqAt.EqAt.str_bool a t' b
  |int b=>obtain⟨t,rfl⟩:=rx;exact SeqAt.EqAt.str_int a t' b t
  |str b=>obtain⟨t,rfl⟩:=rx;exact SeqAt.EqAt.str_str a t' b t
  |_=>exact absurd (show false=true from fx) Hj
 |_=>exact absurd (show false=true from fy) Hj
def nA(x:V)(u:Value):Bool:=match u with
 | .none=>o8 .aH x
 | .bool b=>o8 (.bl b) x
 | .int i _=>o8 (.int i) x
 | .str z _=>o8 (.str z) x
 |_=>false
theorem wq{x y:V}{u:Value}(r:RelV y u)(f:gx y=true):nA x u=o8 y x:=by
 cases y with
 |aH=>cases r;rfl
 |bl b=>cases r;rfl
 |int i=>obtain⟨t,rfl⟩:=r;rfl
 |str z=>obtain⟨t,rfl⟩:=r;rfl
 |_=>exact absurd (show false=true from f) Hj
theorem oi{x:V}:∀ {xs:List V} {us:List Value},Vals xs us->xs.all gx=true->us.any (nA x)=xs.any λ y=>o8 y x
 |_,_,.nil,_=>rfl
 |y::xs,u::us,.cons r t,f=>by
  rw[Im,Ho]at f;rw[Iz,Iz,wq r f.1,oi t f.2]
theorem mh{A:Around}{s:Shared}{x:V}{v:Value}(rx:RelV x v)(fx:gx x=true):∀ {xs:List V} {us:List Value},Vals xs us->xs.all gx=true->∀u∈us,SeqAt.EqAt A s u v (nA x u)
 |_,_,.nil,_=>λ u hu=>by cases hu
 |y::xs,u::us,.cons r t,f=>λ u' hu=>by
  rw[Im,Ho]at f;rcases G9.mp hu with rfl|hu
  . rw[wq r f.1];exact Cv r rx f.1 fx
  . exact mh rx fx t f.2 u' hu
def zt(x:V)(xs:List V):Bool:=xs.any λ y=>o8 y x
def GB(K:PySem.W.Frag)(neg:Bool):R2:=λ x y H Q=>∃p xs,y= .ref p/\(fz K H p xs\/cZ K H p xs)/\gx x=true/\xs.all gx=true/\Q (.bl (if neg then !zt x xs else zt x xs)) H
theorem xw:aQ X (compareOp .In) (GB X.K false):=by
 intro pins s σ H x y v u Q I rx ry h;obtain⟨p,xs,rfl,hq,fx,fs,q⟩:=h;cases ry;rcases hq with hq|hq
 . obtain⟨its,r,pl,hz⟩:=I.list hq;refine SeqAt.in_listAt (nA x) pl.isList (λ w hw=>mh rx fx r fs w (by simpa using hw)) ⟨.bl _,H,I,rfl,?_⟩;rw[show its.toArray.any (nA x)=its.any (nA x) by simp,oi r fs];exact q
 . obtain⟨its,r,pl,hz⟩:=I.tuple hq;refine SeqAt.in_tupleAt (nA x) pl (λ w hw=>mh rx fx r fs w (by simpa using hw)) ⟨.bl _,H,I,rfl,?_⟩;rw[show its.toArray.any (nA x)=its.any (nA x) by simp,oi r fs];exact q
theorem kg:aN X (.builtin "len") (λ xs H Q=>∃p ys,xs=[.ref p]/\(fz X.K H p ys\/cZ X.K H p ys)/\Q (.int ys.length) H):=by
 intro pins s σ H xs us Q I r h;obtain⟨p,ys,rfl,hq,q⟩:=h;obtain⟨u,rfl,rx⟩:=vals1 r;cases rx;have hn:=i4;rcases hq with hq|hq
 . obtain⟨its,r',pl,hz⟩:=I.list hq;have hlen:=r'.length;exact Calls.call_len_list pl.isList (by simp only[Hf]<;>omega) ⟨.int ys.length,H,I.tok _,⟨s.toks+1,by rw[Hf,hlen]⟩,q⟩
 . obtain⟨its,r',pl,hz⟩:=I.tuple hq;have hlen:=r'.length;exact len_tuple pl (by simp only[Hf]<;>omega) ⟨.int ys.length,H,I.tok _,⟨s.toks+1,by rw[Hf,hlen]⟩,q⟩
theorem rf:aN X (.builtin "len") (λ xs H Q=>∃z,xs=[.str z]/\z.length<=sizeLine/\Q (.int z.length) H):=by
 intro pins s σ H xs us Q I r h;obtain⟨z,rfl,hz,q⟩:=h;obtain⟨u,rfl,t,rfl⟩:=vals1 r;have hn:=i4;exact len_str (by omega) ⟨.int z.length,H,I.tok _,⟨_,rfl⟩,q⟩
theorem pP:aN X (.type "tuple") (λ xs H Q=>∃p ys,xs=[.ref p]/\((fz X.K H p ys/\∀l,H l=none->Q (.ref l) (upd H l (.tup ys)))\/(cZ X.K H p ys/\Q (.ref p) H))):=by
 intro pins s σ H xs us Q I r h;obtain⟨p,ys,rfl,h⟩:=h;obtain⟨u,rfl,rx⟩:=vals1 r;cases rx;rcases h with⟨hq,q⟩|⟨hq,q⟩
 . obtain⟨its,r',pl,hz⟩:=I.list hq;have hlen:=r'.length;refine call_tuple_list pl.isList (λ h' kp=>?_) (by simp only[Hf]<;>omega);have I1:Inv X pins σ H {s with heap:=h'}:=I.kept (t':=s.toks) kp
   have I2:Inv X pins σ (upd H h'.objs.size (.tup ys)) {s with heap:=h'.push {cls:= .type "tuple",data:= .seq its.toArray}}:=
    I1.laid (t':=s.toks) (λ b o e=>GY _ e) (G8 _) (show bL X.prog X.w _ _ _ (.tup ys)from⟨hz,its,r',IsTup.new _ _⟩)
   exact⟨.ref h'.objs.size,_,I2,rfl,q _ (I1.aF.fresh (G8 _))⟩
 . obtain⟨its,r',pl,hz⟩:=I.tuple hq;exact call_tuple_same pl ⟨.ref p,H,I,rfl,q⟩
def FA(K:PySem.W.Frag)(T:String)(x:V)(H:Hp):Prop:=match x with
 | .str _=>T="str"
 | .int _=>T="int"
 | .ref p=>(T="list"/\∃xs,fz K H p xs)\/(T="tuple"/\∃o,K.lookup p=some o/\o.cls= .type "tuple"/\o.dict=none)\/
    (T="dict"/\((∃kvs,H p=some (.dK kvs))\/∃kvs,H p=some (.dT kvs)))\/(T="set"/\∃S n,H p=some (.set S n))
 |_=>False
theorem Cd{pins:List (Addr×Obj)}{σ:St}{H:Hp}{s:Shared}{T:String}{x:V}{v:Value}(I:Inv X pins σ H s)(r:RelV x v)(ty:FA X.K T x H):
 s.TypeIs v T/\∀a,v= .ref a->∃ob,s.heap.get? a=some ob/\ob.dict=none:=by
 cases x with
 |str z=>
  obtain⟨t,rfl⟩:=r;cases (show T="str" from ty);exact⟨Jk s z t,λ _ e=>nomatch e⟩
 |int i=>
  obtain⟨t,rfl⟩:=r;cases (show T="int" from ty);exact⟨Ki s i t,λ _ e=>nomatch e⟩
 |ref p=>
  cases r;rcases ty with⟨rfl,xs,hq⟩|⟨rfl,o,hk,hc,hd⟩|⟨rfl,hk⟩|⟨rfl,S,n,hk⟩
  . obtain⟨its,_,pl,_⟩:=I.list hq;refine⟨pl.isList.typeIs,λ a e=>?_⟩;cases e;obtain⟨o,n,e,c,hd,_⟩:=pl;exact⟨o,e,hd⟩
  . refine⟨⟨o,I.er p o hk,hc⟩,λ a e=>?_⟩;cases e;exact⟨o,I.er _ o hk,hd⟩
  . have z:∃o,s.heap.get? p=some o/\o.ExactDict:=by
     rcases hk with⟨kvs,hk⟩|⟨kvs,hk⟩
     . obtain⟨_,_,_,_,o,_,_,e,ex,_⟩:=I.aF p _ hk;exact⟨o,e,ex⟩
     . obtain⟨_,_,_,_,o,_,_,e,ex,_⟩:=I.aF p _ hk;exact⟨o,e,ex⟩
    obtain⟨o,e,ex⟩:=z;refine⟨⟨o,e,ex.1⟩,λ a e2=>?_⟩;cases e2;exact⟨o,e,ex.2.1⟩
  . obtain⟨o,_,_,_,e,ex,_⟩:=I.aF p _ hk;refine⟨⟨o,e,ex.1⟩,λ a e2=>?_⟩;cases e2;exact⟨o,e,ex.2.1⟩
 |_=>exact False.elim ty
def Ca(K:PySem.W.Frag)(T:String)(r:V->List V->Hp->VK->Prop)(to:TE)(t:TA):TE:=λ σ H Q=>to σ H λ x H1=>FA K T x H1/\t σ H1 λ xs H2=>r x xs H2 Q
variable {o e:Expr}{es:List Expr}{to:TE}{t:TA}{name:Str}{apos cpos:Pos}{T id:String}{r:V->List V->Hp->VK->Prop}
theorem zH(pa:PlainAttrs T)(slot:Slot T name id)(hty:typeOf (.builtin id)=pure (.type "method_descriptor"))(hm:FC X id r)(ho:PE X o to)(ha:PA X (e::es) t)
 (hbase:attributeBase o name X.env (eval o X.env)=eval o X.env:=by rfl)
 (hfew:((backTo cpos (starEach (e::es) X.env)).all (λ x=> !x.1)&&(backToKw cpos (keywordEach [] X.env)).all (λ x=>x.1.isSome)
   &&decide ((e::es).length+([]:List Keyword).length+(if([]:List Keyword).isEmpty then 0 else 1)<30))=true:=by rfl)
 (hline:(apos.endLine==cpos.line)=true:=by rfl) (hs:starEach (e::es) X.env=(false,eval e X.env)::starEach es X.env:=by rfl) (hplain:(backTo cpos (starEach es X.env)).any (·.1)=false:=by rfl):
 PE X (.Call (.Attribute o name apos) (e::es) [] cpos) (Ca X.K T r to t):=by
 intro pins s σ H Q I h;refine wpAny_Call_method_late hbase hfew hline rfl (a6 (ho pins s σ H _ I h) λ v s1 ⟨x,H1,I1,r1,ty,q1⟩=>?_);obtain⟨h1,h2⟩:=Cd I1 r1 ty;refine⟨T,id,pa,slot,hty,h1,h2,?_⟩;have hA:=ha cpos pins s1 σ H1 _ I1 q1;rw[hs]at hA⊢;refine Calls.callWith_builtin (by show(false||(backTo cpos (starEach es X.env)).any (·.1))=false;rw[hplain]<;>rfl) (Calls.evalArgs_plain ?_);exact a6 hA λ us s2 ⟨vs,H2,I2,r2,q2⟩=>hm pins s2 σ H2 x vs v us Q I2 r1 r2 q2
/-xs.append(e),list.index on a module's tuple .. are FC facts of 06m-/
end
def sA(X:Cx)(id:String)(r:V->List V->Hp->VK->Prop):Prop:=
 ∀(pins:List (Addr×Obj)) (s:Shared) (σ:St) (H:Hp) (x:V) (xs:List V) (v:Value) (us:List Value) (Q:VK),Inv X pins σ H s->RelV x v->Vals xs us->r x xs H Q->
  wpAny (model X.prog X.w) X.A (call (.builtin id) (v::us)) (EP X pins σ Q) X.xe s
theorem Vals.one:∀ {x:V} {us:List Value},Vals [x] us->∃u,us=[u]/\RelV x u
 |_,_,.cons r .nil=>⟨_,rfl,r⟩
theorem Vals.rep{xs:List V}{us:List Value}(h:Vals xs us):∀k:Nat,Vals (List.replicate k xs).flatten (List.replicate k us).flatten
 |0=> .nil
 |k+1=>by
  rw[HG,HG,IC,IC];exact Vals.append h (Vals.rep h k)
theorem foldl_rep(its:List Value):∀(k:Nat) (acc:List Value),
 List.foldl (λ x1 x2=>x1++x2) acc.toArray (List.replicate k its.toArray)=(acc++(List.replicate k its).flatten).toArray
 |0,acc=>by simp
 |k+1,acc=>by
  have e:acc.toArray++its.toArray=(acc++its).toArray:=by simp
  have e2:(acc++its)++(List.replicate k its).flatten=acc++(List.replicate (k+1) its).flatten:=by
   rw[HG,IC,Hn]
  rw[<-e2,<-foldl_rep its k (acc++its),<-e,HG,List.foldl_cons]
section
variable {X:Cx}{pins:List (Addr×Obj)}{σ:St}{H:Hp}{s:Shared}{l b:Addr}{xs ys zs:List V}
theorem Inv.FT{its its':List Value}{n:Nat}{f:Array Value->Array Value}{t':Nat}(I:Inv X pins σ H s)(hH:H l=some (.lst xs))
 (e:s.heap.get? l=some {cls:= .type "list",data:= .seq its.toArray n}) (hf:f its.toArray=its'.toArray) (hv:Vals ys its') (hz:ys.length<=sizeLine):
 Inv X pins σ (upd H l (.lst ys)) {s with heap:=s.heap.update l (Obj.mapSeq f),toks:=t'}:=by
 have q:=PySem.IsL.update e f;rw[hf]at q;refine I.write (x:=l) (e:=l) (by rw[hH];exact trivial) (.inl rfl) (λ b' u hb hu=>(Kz s.heap (Obj.mapSeq f) (HP hb)).trans hu) ⟨_,q⟩ ?_;exact⟨hz,its',_,hv,q⟩
theorem Inv.yo{its:List Value}{t':Nat}(I:Inv X pins σ H s)(hv:Vals ys its)(hz:ys.length<=sizeLine):
 Inv X pins σ (upd H s.heap.objs.size (.lst ys)) {s with heap:=s.heap.push {cls:= .type "list",data:= .seq its.toArray},toks:=t'}:=
 I.laid (λ _ _ q=>GY _ q) (G8 _) ⟨hz,its,0,hv,Hq _ rfl⟩
theorem Inv.fresh(I:Inv X pins σ H s):H s.heap.objs.size=none:=I.aF.fresh (G8 _)
theorem Inv.FG(I:Inv X pins σ H s)(hH:H l=some (.lst xs)):xs.length<=sizeLine/\∃(its:List Value) (n:Nat),Vals xs its/\xs.length=its.length/\s.heap.get? l=some {cls:= .type "list",data:= .seq its.toArray n}:=by
 obtain⟨z,its,n,r,e⟩:=I.aF l _ hH;exact⟨z,its,n,r,r.length,e⟩
theorem yI{n:Nat}(h:n<=sizeLine):Builtin.List.listTooLong n=false:=by
 unfold Builtin.List.listTooLong;exact Hc (by omega)
end
section
variable {X:Cx}
def t_:V->List V->Hp->VK->Prop:=λ x vs H Q=>∃l xs y,x= .ref l/\vs=[y]/\H l=some (.lst xs)/\xs.length<sizeLine/\Q .aH (upd H l (.lst (xs++[y])))
theorem o_:sA X "list.append" t_:=by
 intro pins s σ H x vs v us Q I rx rv h;obtain⟨l,xs,y,rfl,rfl,hH,hz,q⟩:=h;cases rx;obtain⟨u,rfl,ru⟩:=rv.one;obtain⟨z,its,n,r,hl,e⟩:=I.FG hH;refine Ir F.slot_list_append ⟨_,e,rfl⟩ F.entry_list_append (F.args_list_append_2 _ _) (PySem.list_append l its.toArray n u (by rw[Hf];omega)) ⟨e,?_⟩;refine⟨.aH,_,I.FT (its':=its++[u]) hH e (by simp) (r.append (.cons ru .nil)) ?_,rfl,q⟩;rw[GX,KI];omega
theorem len_rep{α:Type}(xs:List α)(k:Nat):(List.replicate k xs).flatten.length=k*xs.length:=by
 induction k with
 |zero=>simp
 |succ k ih=>rw[HG,IC,GX,ih,Nat.succ_mul,Nat.add_comm]
end
section
variable {prog:Program}{w:World}{A:Around}{E:Value->Shared->Prop}{s:Shared}
set_option maxRecDepth 100000 in
end
section
variable {X:Cx}
end
end L2
namespace Att
open PySem PySem.W PySem.Calls PyProof.Rows
theorem nG{P:Params}{h:Heap}:∀(ns:List Int) (vs:List Value),WellAll P h vs (ns.map WData.int)->IntsAre vs ns:=by
 intro ns;induction ns with
 |nil=>
  intro vs w;rw[Kn]at w;cases w;exact .nil
 |cons n ns ih=>
  intro vs w;rw[Hy]at w;cases w with
  |cons a b=>
   cases a;exact .cons _ _ (ih _ b)
theorem xN{l:OpenLaw}{n:Nat}(hn:l.most=some n){P:Params}{h:Heap}{args:List WData}{vals:List Value}
 (hpre:l.row.toRowW.claim.pre args=true) (hwl:WellAll P h vals args):
 ∃a vs ns,vals=[Value.ref a]/\args=[WData.list (ns.map WData.int)]/\h.get? a=some {cls:= .type "list",data:= .seq vs.toArray}/\IntsAre vs ns/\ns.length<=n:=by
 have hsh:WShape.hasAll [] args [.list .int]=true:=(pre_splitW hpre).1;have hc:l.pre.holds [] {args:=args}=true:=(pre_splitW hpre).2;obtain⟨d,r,rfl,h1,h2⟩:=hasAllW_cons hsh;obtain rfl:=hasAllW_nil h2;obtain⟨xs,rfl,h3⟩:=hasW_list h1;obtain⟨ns,rfl⟩:=items_int h3
 have hlen:ns.length<=n:=by
  unfold OpenLaw.pre at hc
  have h4:(WTm.not (.lt (.lit (.int (n:Int))) (.len (.arg 0)))).holds [] {args:=[.list (ns.map .int)]}=true:=by
   have h4:=(holds_andW hc).1;rw[hn]at h4;exact h4
  have h5:=condW_of h4 (w_not (w_lt w_lit (w_len_list (w_arg rfl))));rw[GV]at h5;refine Jw λ q=>?_;have q':(n:Int)<((ns.length:Nat):Int):=by omega
  first
   |(rw[Hr q']at h5;exact absurd h5 (by decide))
   |(simp at h5;omega)
 cases hwl with
 |cons w1 w2=>
  cases w2;cases w1 with
  |list ho hall=>exact⟨_,_,ns,rfl,rfl,ho,nG ns _ hall,hlen⟩
theorem w9(l:OpenLaw)(args:List WData):l.row.toRowW.claim.post args (.bool true) args=true:=
 postW_of (r:=l.row.toRowW) (X:=(true==true))
  (show WShape.has [] (.bool true) .bool=true by first|rfl|decide|simp[WShape.has,WShape.arms,WShape.armsAll])
  (show(WTm.eq .res (.lit (.bool true))).value [] {args:=args,res:=some (.bool true),after:=args}=some (.bool (true==true))from w_eq_bool (w_res rfl) w_lit) rfl
theorem sR{l:OpenLaw}{n:Nat}{q:Program}{loose:List Str}{XP:(Str->Option Value)->Heap->Prop}{YP:World->Heap->Prop}{d:DefRec}
 (hn:l.most=some n) (hdf:d.params.defaults=[])
 (call:∀(w:World) (s₀ s₁:Shared) (mg mb:Str->Option Value) (fa:Addr) (o:Obj) (pm cd doc:Value) (a:Addr) (vs:List Value) (ns:List Int),
   Ground q loose [] XP w s₀ mg mb s₁.heap->YP w s₁.heap->
   s₁.heap.get? fa=some o->o.data= .func (docDef d.name d.params d.body d.scope pm cd doc)->s₁.heap.CodeRec cd d.name->mg d.name=some (.ref fa)->
   s₁.heap.get? a=some {cls:= .type "list",data:= .seq vs.toArray}->IntsAre vs ns->ns.length<=n->s₁.gens= #[]->
   codeAny (model l.prog w) callerA (.call (.ref fa) ⟨[.ref a],[]⟩) (λ r s'=>r= .ok (.ret (.bool true))/\OldK s₁.heap s'.heap/\s'.os=s₁.os/\AllBare s'.gens) s₁):
 WalkO q loose XP YP l.row.toRowW d [] (λ f vs=>PySem.call f vs):=by
 intro w s₀ s₁ mg mb G Y fa o pm cd doc dV kV ho hd hcd hD hmg hg args vals as hpre hlay hrd hwl hlo;obtain rfl:dV= .none:=Dflts.none hD hdf;obtain rfl:kV= .none:=Dflts.noKw hD;obtain⟨a,vs,ns,rfl,rfl,hobj,hints,hlen⟩:=xN hn hpre hwl;refine enter_call (KY (call w s₀ s₁ mg mb fa o pm cd doc a vs ns G Y ho (fd_plain hd) hcd hmg hobj hints hlen hg) λ r s' hq=>?_);obtain⟨rfl,h2,h3,h4⟩:=hq;exact⟨.inl ⟨.bool true,.bool true,[],rfl,λ _=>rfl,.bool true,w9 l _,λ _=>⟨List.Pairwise.nil,λ _ hm=>(nomatch hm)⟩⟩,h2,h3,h4⟩
section
variable {prog:Program}{w:World}{A:Around}{E:Value->Shared->Prop}{s:Shared}{K:Frag}
end
end Att
namespace L2
open PySem PySem.Spec PyProof.Rows
end L2
/-THE LAST THEOREM (shape;LID,My.*are yours):
 My.Adr:a structure of the addresses that your layer names (classes,functions);My.Txt K t:a structure (Prop) of the equations over K;
 My.txt_mk:{K} {implicit addresses ..} (e1:nsIn K mainGlobals "law"=some (some (.ref f))) (e2:K.lookup f=some ⟨oc,od,.func (fnOf "law" "law" params body scope dV kV doc pm an cdv ct),sl⟩) (e3:codeIn K cdv "law"=true) .. :∃t,My.Txt K t
set_option maxRecDepth 100000 in
set_option maxHeartbeats 0 in
(the tactic k_is has no namespace:write k_is)-/
namespace L2
open PySem PySem.Spec PyProof.Rows
def fG(s:Stmt):Arguments:=match s with
 | .FunctionDef _ a _ _ _ _ _ _ _ _=>a
 |_=>{posonlyargs:=[],args:=[],vararg:=none,kwonlyargs:=[],kw_defaults:=[],kwarg:=none,defaults:=[]}
def dD(s:Stmt):List Stmt:=match s with
 | .FunctionDef _ _ b _ _ _ _ _ _ _=>b
 |_=>[]
def aA(s:Stmt):Scope:=match s with
 | .FunctionDef _ _ _ _ _ _ sc _ _ _=>sc
 |_=>{kind:= .function,names:=[],isGenerator:=false,isCoroutine:=false}
abbrev fA:lE:=λ _ _ _ _ _ _=>False
abbrev E0:XK:=λ _ _ _=>False
theorem u7{X:Cx}:Passes fA X E0:=λ _ _ _ _ _ _ _ h=>h.elim
structure h_(K:PySem.W.Frag)(x qual:Str)(st:Stmt)(f:Addr)(fd:FuncData):Prop where
 ex:∃(oc:Value) (od:Option Addr) (kV doc pm:Value) (an:Option Addr) (cdv ct:Value) (osl:Array (Option Value)),
  fd=PySem.W.fnOf x qual (fG st) (dD st) (aA st) .none kV doc pm an cdv ct/\K.lookup f=some ⟨oc,od,.func fd,osl⟩/\PySem.W.codeIn K cdv qual=true
 kp:PySem.W.keepIn K (.ref f)=true
section
variable {P:Program}{w:World}{K:PySem.W.Frag}{mg:Str->Option Value}{base:Heap}
theorem h_.ok{x qual:Str}{st:Stmt}{f:Addr}{fd:FuncData}{N ps:List Str}{k:Nat}{sp:Sp}(F:h_ K x qual st f fd)(S:gE N ps (aA st))(len:∀vs H Q E,sp vs H Q E->vs.length=ps.length)
 (hbody:∀(cdv:Value) (A:Around) (outer:List Env) (s:Shared) (H:Hp) (vs:List V) (Q:VK) (E:XK),bW k (A.deeper (envOfC qual (aA st) s.heap.objs.size f cdv))->sp vs H Q E->
   ∃t,de (jx fA P w K mg base N qual (aA st) f cdv A outer s H E).oX (dD st) t/\t {nx:=λ _ H'=>Q .aH H',rt:=Q} (start N vs) H):cK P w K mg base fA (k+1) f fd ps sp:=by
 obtain⟨oc,od,kV,doc,pm,an,cdv,ct,osl,rfl,lk,hcd⟩:=F.ex;refine D0 lk hcd S len λ A outer s H vs Q E hr hsp=>?_;obtain⟨t,h,q⟩:=hbody cdv A outer s H vs Q E hr hsp;exact⟨t,h.oX,q⟩
theorem h_.binds{x qual:Str}{st:Stmt}{f:Addr}{fd:FuncData}{ps:List Str}(F:h_ K x qual st f fd)
 (h:∀(kV doc pm:Value) (an:Option Addr) (cdv ct:Value) (us:List Value),us.length=ps.length->bindArgs (PySem.W.fnOf x qual (fG st) (dD st) (aA st) .none kV doc pm an cdv ct) ⟨us,[]⟩=pure (ps.zip us)):Binds K fd ps []:=by
 obtain⟨oc,od,kV,doc,pm,an,cdv,ct,osl,rfl,lk,hcd⟩:=F.ex;exact .all (h kV doc pm an cdv ct)
theorem Df{x qual:Str}{st:Stmt}{f:Addr}{oc:Value}{od an:Option Addr}{osl:Array (Option Value)}{kV doc pm cdv ct:Value}(l:K.lookup f=some ⟨oc,od,.func (PySem.W.fnOf x qual (fG st) (dD st) (aA st) .none kV doc pm an cdv ct),osl⟩)
 (c:PySem.W.codeIn K cdv qual=true) (k:PySem.W.keepIn K (.ref f)=true):h_ K x qual st f (PySem.W.fnOf x qual (fG st) (dD st) (aA st) .none kV doc pm an cdv ct):=⟨⟨oc,od,kV,doc,pm,an,cdv,ct,osl,rfl,l,c⟩,k⟩
end
section
variable {X:Cx}
end
theorem aS{A B:Prop}(h:B):if false=true then A else B:=by
 rw[Hi Hj];exact h
theorem bA{A B:Prop}(h:A):if true=true then A else B:=by
 rw[Hu rfl];exact h
def yz(H H':Hp):Prop:=∀b o,H b=some o->H' b=some o
end L2
set_option maxHeartbeats 4000000
namespace Hd
open PySem PySem.W PySem.Calls PyProof.Rows
noncomputable def bt (P:Params):BT:=(.node (boot_o_0 P) (.node (boot_o_1 P) (.node (boot_o_3 P) (.node (boot_o_7 P) .nil .nil) .nil) (.node (boot_o_5 P) (.node (boot_o_9 P) .nil .nil) .nil)) (.node (boot_o_2 P) (.node (boot_o_4 P) (.node (boot_o_8 P) .nil .nil) .nil) (.node (boot_o_6 P) (.node (boot_o_10 P) .nil .nil) .nil)))
theorem DQ(P:Params):absHeap (bt P) 11 (boot_heap P).life=boot_heap P:=by kernel_rfl
noncomputable def run (p:Program) (w:World) (n:Nat) (ann:Option Value):Nat->SharedT->Thread->Option SharedT
 |0,_,_=>none
 |k+1,s,t=>match through t with
  |true=>some s
  |false=>match Fast.tw6613529449190102663 n ann t with
   |false=>none
   |true=>match Fast.tw10156331382660048174 (Fast.tw11892475500146522536 Fast.tw14364793385576792824) p w s t with
    |some (s',t')=>run p w n ann k s' t'
    |none=>none
theorem xj{p:Program}{w:World}{n:Nat}{ann:Option Value}:∀ {k:Nat} {s s':SharedT} {t:Thread},run p w n ann k s t=some s'->topRun treeTable p w n ann k s.abs t=some s'.abs
 |0,_,_,_,h=>by cases h
 |k+1,s,s',t,h=>by
  unfold run at h;unfold topRun;cases he:through t with
  |true=>rw[he]at h;cases h;rfl
  |false=>
   rw[he]at h;rw[<-Fast.te6613529449190102663,<-Fast.te10156331382660048174,<-Fast.te11892475500146522536,<-Fast.te14364793385576792824]at h;cases hk:stepOk n ann t with
   |false=>simp only[hk]at h;cases h
   |true=>
    simp only[hk]at h;cases hs:stepT (denote treeTable) p w s t with
    |none=>rw[hs]at h;cases h
    |some r=>obtain⟨s2,t2⟩:=r;rw[hs]at h;rw[stepT_spec hs];exact xj h
noncomputable def b0 (w:World) (os:OsState):SharedT:=⟨bt w.params,11,(boot_heap w.params).life,⟨[]⟩,boot_drawn,boot_toks,os⟩
theorem Ce(w:World)(os:OsState):(b0 w os).abs=⟨boot_heap w.params,⟨[]⟩,boot_drawn,boot_toks,os⟩:=by
 unfold b0 SharedT.abs;dsimp only;rw[DQ]
theorem left{p q:Program}{loose:List Str}{α:Type}{Yf:Shared->α}{Ya:World->α}{N:Nat}
 (e:opening p=plainProg p.main.scope.names) (f:∀s,fenceModules? p s=some s) (hN:Nat.ble 600 N=true)
 (h:∀(w:World) (os:OsState),(run p w 11 (some (.ref 6)) N (b0 w os) (topStub p)).bind (λ s=>match staticsOk (importedModules p.main.body) (boot_heap w.params) s.abs.heap&&namesBound p s.abs.heap&&gensDone s.abs&&laidKept (boot_heap w.params) s.abs.heap with
   |true=>some (Fast.tw4187177175401517315 q loose (importedModules p.main.body) (λ _=>true) true s.abs,Yf s.abs)
   |false=>none)=some (openGood q loose,Ya w)):LeftO p q loose (λ _=>true) Yf Ya N:=λ w=>by
 obtain⟨⟨hp,gs,d,k,os⟩,e1,e2⟩:=HN.mp (boot_open e hN f w);obtain⟨rfl,rfl,rfl,rfl⟩:hp=boot_heap w.params/\gs=⟨[]⟩/\d=boot_drawn/\k=boot_toks:=by simpa using e2
 obtain⟨s,r1,r2⟩:=Jo.mp (h w os);have r3:=xj r1;rw[Ce]at r3;rw[<-Fast.te4187177175401517315]at r2;unfold openEnds;rw[e1];show(topFrom treeTable p w N _).map _=_;unfold topFrom;rw[show((boot_heap w.params).isNs mainGlobals&&(⟨[]⟩:Array GenState).size==0)=true from by kernel_rfl];dsimp only;rw[show(boot_heap w.params).objs.size=11 from by kernel_rfl,show(boot_heap w.params).nsMap mainGlobals "__annotations__"=some (.ref 6)from by kernel_rfl,r3];show((match staticsOk (importedModules p.main.body) (boot_heap w.params) s.abs.heap&&namesBound p s.abs.heap&&gensDone s.abs&&laidKept (boot_heap w.params) s.abs.heap with|true=>some s.abs|false=>none):Option Shared).map _=_;cases z:(staticsOk (importedModules p.main.body) (boot_heap w.params) s.abs.heap&&namesBound p s.abs.heap&&gensDone s.abs&&laidKept (boot_heap w.params) s.abs.heap)with
 |false=>rw[z]at r2;cases r2
 |true=>rw[z]at r2;exact r2
abbrev e(x:Str)(t:Nat)(v:Value):Str×Nat×Value:=(x,t,v)
abbrev k(a:Addr)(o:Obj):Addr×Obj:=(a,o)
def no(P:Params)(n:Nat)(l:List (Str×Nat×Value)):Obj:=⟨.type "dict",none,.dict (l.map λ e=>⟨PyData.keyHash P e.1,.str e.1 e.2.1,e.2.2⟩).toArray n,#[]⟩
def fd(st:Stmt)(x q:Str)(pm:Value)(c:Addr):FuncData:=fnOf x q (L2.fG st) (L2.dD st) (L2.aA st) .none .none .none pm none (.ref c) .none
def fq(st:Stmt)(x q:Str)(pm:Value)(c:Addr):Obj:=⟨.type "function",none,.func (fd st x q pm c),#[]⟩
def co(x q:Str)(t:Nat)(line argc:Int)(a b:Addr)(u v:Value)(d:Addr)(i:Int)(z:Nat):Obj:=⟨.type "code",none,.fields #[.str x t,.str q (t+1),.str "/claim/cut.py" (t+2),.int line 0,.int argc 0,.int 0 0,.int 0 0,.int 3 0,.ref a,.bool true,.int 181 0,.ref b,.none,u,v,.ref d,.int i 0,.int line 0,.str "/claim/cut.py" z],#[]⟩
theorem yu{p q:Program}{loose:List Str}{α:Type}{Yf:Shared->α}{Ya:World->α}{N:Nat}(row:String)
 (e:opening p=plainProg p.main.scope.names) (f:∀s,fenceModules? p s=some s) (hN:Nat.ble 600 N=true)
 (h:∀(b:Bool) (w:World) (os:OsState),(run p (w.withFollow row b) 11 (some (.ref 6)) N (b0 (w.withFollow row b) os) (topStub p)).bind (λ s=>match staticsOk (importedModules p.main.body) (boot_heap (w.withFollow row b).params) s.abs.heap&&namesBound p s.abs.heap&&gensDone s.abs&&laidKept (boot_heap (w.withFollow row b).params) s.abs.heap with
   |true=>some (Fast.tw4187177175401517315 q loose (importedModules p.main.body) (λ _=>true) true s.abs,Yf s.abs)
   |false=>none)=some (openGood q loose,Ya (w.withFollow row b))):LeftO p q loose (λ _=>true) Yf Ya N:=
 left e f hN λ w os=>by
  have:=h (w.params.followText row) w os;rw[World.withFollow_self w row]at this;exact this
end Hd
namespace Row
open PySem L2
open PySem.Spec hiding items?
open PyProof.Rows hiding St
def top(i:Nat):Stmt:=PySem.Challenge.pw_latticeworks_k81_orders_read.main.body.getD i (.Pass ⟨0,0,0,0⟩)
abbrev PW:Program:=PySem.Challenge.pw_latticeworks_k81_orders_read
abbrev mz:Stmt:=top 4
abbrev qK:Stmt:=top 5
abbrev oK:Stmt:=top 6
abbrev dg:Stmt:=top 13
abbrev iP:Stmt:=top 14
abbrev gg:Stmt:=top 15
abbrev gG:Stmt:=top 16
abbrev fX:Stmt:=top 17
abbrev iK:Stmt:=top 18
abbrev jA:Stmt:=top 19
abbrev qD:Stmt:=top 20
abbrev eV:Stmt:=top 21
abbrev fb:Stmt:=top 22
abbrev fN:Stmt:=top 23
abbrev ke:Stmt:=top 25
abbrev jC:Stmt:=top 26
abbrev iq:Stmt:=top 27
abbrev gQ:Stmt:=top 28
abbrev gO:Stmt:=top 29
abbrev eK:Stmt:=top 30
abbrev iD:Stmt:=top 31
abbrev j0:Stmt:=top 32
abbrev iB:Stmt:=top 33
abbrev dJ:Stmt:=top 34
abbrev eM:Stmt:=top 35
abbrev b_:Stmt:=top 36
abbrev dz:Stmt:=top 37
abbrev c8:Stmt:=top 38
abbrev mQ:Stmt:=top 39
def uf:Value:=(.str "latticeworks.fractions" 232)
def d6:Value:=(.str "latticeworks.sheet" 261)
def cq:Value:=(.str "law_latticeworks_k81_orders_read" 419)
def KX(P:Params):PySem.W.Frag:=[Hd.k 3 (Hd.no P 45 [Hd.e "__name__" 165 (.str "law_latticeworks_k81_orders_read" 419),Hd.e "__doc__" 166 .none,Hd.e "__package__" 167 .none,Hd.e "__loader__" 168 (.builtin "__main__.__loader__#opaque"),Hd.e "__spec__" 169 .none,Hd.e "__annotations__" 170 (.ref 6),Hd.e "__builtins__" 171 (.ref 4),Hd.e "__file__" 173 (.str "/claim/cut.py" 172),Hd.e "__cached__" 174 .none,Hd.e "LatticeError" 206 (.ref 24),Hd.e "NoSheet" 231 (.ref 44),Hd.e "common" 244 (.ref 53),Hd.e "part" 253 (.ref 60),Hd.e "whole" 260 (.ref 67),Hd.e "FIGURES" 264 (.str "0123456789" 263),Hd.e "MOST_FIGURES" 266 (.int (12) 265),Hd.e "MOST_NUMBERS" 268 (.int (8) 267),Hd.e "MOST_ROWS" 275 (.ref 68),Hd.e "PARTS" 336 (.ref 69),Hd.e "is_number_text" 342 (.ref 88),Hd.e "number_of" 350 (.ref 95),Hd.e "fraction_of" 361 (.ref 102),Hd.e "row_of" 367 (.ref 107),Hd.e "rows_of" 373 (.ref 112),Hd.e "square_of" 382 (.ref 119),Hd.e "value_of" 391 (.ref 126),Hd.e "fits" 400 (.ref 133),Hd.e "rows_among" 406 (.ref 138),Hd.e "order_of" 412 (.ref 143),Hd.e "orders_of" 418 (.ref 148),Hd.e "_law_box" 429 (.ref 155),Hd.e "_law_take" 439 (.ref 162),Hd.e "_law_small" 446 (.ref 169),Hd.e "_law_number" 454 (.ref 176),Hd.e "_law_lowest" 465 (.ref 183),Hd.e "_law_is" 471 (.ref 188),Hd.e "_law_kinds" 478 (.ref 195),Hd.e "_law_gap" 485 (.ref 202),Hd.e "_law_round" 493 (.ref 209),Hd.e "_law_drawn_row" 499 (.ref 214),Hd.e "_law_drawn_part" 511 (.ref 221),Hd.e "_law_drawn" 517 (.ref 226),Hd.e "_law_order" 523 (.ref 231),Hd.e "_law_alike" 529 (.ref 236),Hd.e "law" 543 (.ref 243)]),
 Hd.k 52 (Hd.co "common" "common" 234 10 2 47 48 (.ref 49) (.ref 50) 51 242 243),
 Hd.k 53 (Hd.fq mz "common" "common" uf 52),
 Hd.k 59 (Hd.co "part" "part" 245 18 2 54 55 (.ref 56) (.ref 57) 58 251 252),
 Hd.k 60 (Hd.fq qK "part" "part" uf 59),
 Hd.k 66 (Hd.co "whole" "whole" 254 23 1 61 62 (.ref 63) (.ref 64) 65 258 259),
 Hd.k 67 (Hd.fq oK "whole" "whole" uf 66),
 Hd.k 68 (Hd.no P 2 [Hd.e "rows" 269 (.int (8) 270),Hd.e "few rows" 271 (.int (5) 272)]),
 Hd.k 69 (Hd.no P 14 [Hd.e "standing" 276 (.ref 70),Hd.e "inside" 278 (.ref 71),Hd.e "dividing" 281 (.ref 72),Hd.e "rests" 283 (.ref 73),Hd.e "short" 285 (.ref 74),Hd.e "nearest" 287 (.ref 75),Hd.e "shortest" 290 (.ref 76),Hd.e "near" 292 (.ref 77),Hd.e "answers" 296 (.ref 78),Hd.e "small" 299 (.ref 79),Hd.e "together" 304 (.ref 80),Hd.e "shared" 307 (.ref 81),Hd.e "plan" 310 (.ref 82),Hd.e "under" 316 (.ref 83)]),
 Hd.k 70 (⟨(.type "tuple"),none,(.seq #[(.str "rows" 277)] 0),#[]⟩),
 Hd.k 71 (⟨(.type "tuple"),none,(.seq #[(.str "rows" 279),(.str "row" 280)] 0),#[]⟩),
 Hd.k 72 (⟨(.type "tuple"),none,(.seq #[(.str "rows" 282)] 0),#[]⟩),
 Hd.k 73 (⟨(.type "tuple"),none,(.seq #[(.str "rows" 284)] 0),#[]⟩),
 Hd.k 74 (⟨(.type "tuple"),none,(.seq #[(.str "rows" 286)] 0),#[]⟩),
 Hd.k 75 (⟨(.type "tuple"),none,(.seq #[(.str "few rows" 288),(.str "point" 289)] 0),#[]⟩),
 Hd.k 76 (⟨(.type "tuple"),none,(.seq #[(.str "few rows" 291)] 0),#[]⟩),
 Hd.k 77 (⟨(.type "tuple"),none,(.seq #[(.str "few rows" 293),(.str "point" 294),(.str "square" 295)] 0),#[]⟩),
 Hd.k 78 (⟨(.type "tuple"),none,(.seq #[(.str "rows" 297),(.str "due" 298)] 0),#[]⟩),
 Hd.k 79 (⟨(.type "tuple"),none,(.seq #[(.str "rows" 300),(.str "due" 301),(.str "row" 302),(.str "row" 303)] 0),#[]⟩),
 Hd.k 80 (⟨(.type "tuple"),none,(.seq #[(.str "rows" 305),(.str "rows" 306)] 0),#[]⟩),
 Hd.k 81 (⟨(.type "tuple"),none,(.seq #[(.str "rows" 308),(.str "rows" 309)] 0),#[]⟩),
 Hd.k 82 (⟨(.type "tuple"),none,(.seq #[(.str "row" 311),(.str "rows" 312),(.str "due" 313),(.str "row" 314),(.str "row" 315)] 0),#[]⟩),
 Hd.k 83 (⟨(.type "tuple"),none,(.seq #[(.str "row" 317),(.str "rows" 318),(.str "due" 319),(.str "row" 320),(.str "row" 321)] 0),#[]⟩),
 Hd.k 87 (Hd.co "is_number_text" "is_number_text" 337 31 1 84 85 .none .none 86 340 341),
 Hd.k 88 (Hd.fq dg "is_number_text" "is_number_text" d6 87),
 Hd.k 94 (Hd.co "number_of" "number_of" 343 36 2 89 90 (.ref 91) (.ref 92) 93 348 349),
 Hd.k 95 (Hd.fq iP "number_of" "number_of" d6 94),
 Hd.k 101 (Hd.co "fraction_of" "fraction_of" 351 40 2 96 97 (.ref 98) (.ref 99) 100 359 360),
 Hd.k 102 (Hd.fq gg "fraction_of" "fraction_of" d6 101),
 Hd.k 106 (Hd.co "row_of" "row_of" 362 49 3 103 104 .none .none 105 365 366),
 Hd.k 107 (Hd.fq gG "row_of" "row_of" d6 106),
 Hd.k 111 (Hd.co "rows_of" "rows_of" 368 54 3 108 109 .none .none 110 371 372),
 Hd.k 112 (Hd.fq fX "rows_of" "rows_of" d6 111),
 Hd.k 118 (Hd.co "square_of" "square_of" 374 59 2 113 114 (.ref 115) (.ref 116) 117 380 381),
 Hd.k 119 (Hd.fq iK "square_of" "square_of" d6 118),
 Hd.k 125 (Hd.co "value_of" "value_of" 383 64 3 120 121 (.ref 122) (.ref 123) 124 389 390),
 Hd.k 126 (Hd.fq jA "value_of" "value_of" d6 125),
 Hd.k 132 (Hd.co "fits" "fits" 392 70 3 127 128 (.ref 129) (.ref 130) 131 398 399),
 Hd.k 133 (Hd.fq qD "fits" "fits" d6 132),
 Hd.k 137 (Hd.co "rows_among" "rows_among" 401 76 2 134 135 .none .none 136 404 405),
 Hd.k 138 (Hd.fq eV "rows_among" "rows_among" d6 137),
 Hd.k 142 (Hd.co "order_of" "order_of" 407 78 2 139 140 .none .none 141 410 411),
 Hd.k 143 (Hd.fq fb "order_of" "order_of" d6 142),
 Hd.k 147 (Hd.co "orders_of" "orders_of" 413 90 1 144 145 .none .none 146 416 417),
 Hd.k 148 (Hd.fq fN "orders_of" "orders_of" d6 147),
 Hd.k 154 (Hd.co "_law_box" "_law_box" 421 94 2 149 150 (.ref 151) (.ref 152) 153 427 428),
 Hd.k 155 (Hd.fq ke "_law_box" "_law_box" cq 154),
 Hd.k 161 (Hd.co "_law_take" "_law_take" 430 99 2 156 157 (.ref 158) (.ref 159) 160 437 438),
 Hd.k 162 (Hd.fq jC "_law_take" "_law_take" cq 161),
 Hd.k 168 (Hd.co "_law_small" "_law_small" 440 109 1 163 164 (.ref 165) (.ref 166) 167 444 445),
 Hd.k 169 (Hd.fq iq "_law_small" "_law_small" cq 168),
 Hd.k 175 (Hd.co "_law_number" "_law_number" 447 111 1 170 171 (.ref 172) (.ref 173) 174 452 453),
 Hd.k 176 (Hd.fq gQ "_law_number" "_law_number" cq 175),
 Hd.k 182 (Hd.co "_law_lowest" "_law_lowest" 455 118 2 177 178 (.ref 179) (.ref 180) 181 463 464),
 Hd.k 183 (Hd.fq gO "_law_lowest" "_law_lowest" cq 182),
 Hd.k 187 (Hd.co "_law_is" "_law_is" 466 124 2 184 185 .none .none 186 469 470),
 Hd.k 188 (Hd.fq eK "_law_is" "_law_is" cq 187),
 Hd.k 194 (Hd.co "_law_kinds" "_law_kinds" 472 132 0 189 190 (.ref 191) (.ref 192) 193 476 477),
 Hd.k 195 (Hd.fq iD "_law_kinds" "_law_kinds" cq 194),
 Hd.k 201 (Hd.co "_law_gap" "_law_gap" 479 139 1 196 197 (.ref 198) (.ref 199) 200 483 484),
 Hd.k 202 (Hd.fq j0 "_law_gap" "_law_gap" cq 201),
 Hd.k 208 (Hd.co "_law_round" "_law_round" 486 141 2 203 204 (.ref 205) (.ref 206) 207 491 492),
 Hd.k 209 (Hd.fq iB "_law_round" "_law_round" cq 208),
 Hd.k 213 (Hd.co "_law_drawn_row" "_law_drawn_row" 494 143 2 210 211 .none .none 212 497 498),
 Hd.k 214 (Hd.fq dJ "_law_drawn_row" "_law_drawn_row" cq 213),
 Hd.k 220 (Hd.co "_law_drawn_part" "_law_drawn_part" 500 149 2 215 216 (.ref 217) (.ref 218) 219 509 510),
 Hd.k 221 (Hd.fq eM "_law_drawn_part" "_law_drawn_part" cq 220),
 Hd.k 225 (Hd.co "_law_drawn" "_law_drawn" 512 157 4 222 223 .none .none 224 515 516),
 Hd.k 226 (Hd.fq b_ "_law_drawn" "_law_drawn" cq 225),
 Hd.k 230 (Hd.co "_law_order" "_law_order" 518 169 1 227 228 .none .none 229 521 522),
 Hd.k 231 (Hd.fq dz "_law_order" "_law_order" cq 230),
 Hd.k 235 (Hd.co "_law_alike" "_law_alike" 524 179 2 232 233 .none .none 234 527 528),
 Hd.k 236 (Hd.fq c8 "_law_alike" "_law_alike" cq 235),
 Hd.k 242 (Hd.co "law" "law" 530 187 1 237 238 (.ref 239) (.ref 240) 241 541 542),
 Hd.k 243 (Hd.fq mQ "law" "law" cq 242)]
def KA:List Addr:=[3,52,53,59,60,66,67,68,69,70,71,72,73,74,75,76,77,78,79,80,81,82,83,87,88,94,95,101,102,106,107,111,112,118,119,125,126,132,133,137,138,142,143,147,148,154,155,161,162,168,169,175,176,182,183,187,188,194,195,201,202,208,209,213,214,220,221,225,226,230,231,235,236,242,243]
set_option maxHeartbeats 0 in
theorem left:PySem.W.LeftO PW (PySem.W.view PW [1,2,4,5,6,8,9,10,11,12,13,14,15,16,17,18,19,20,21,22,23,25,26,27,28,29,30,31,32,33,34,35,36,37,38,39]) ["MOST_ROWS","PARTS"] (λ _=>true) (PySem.W.kmHook Row.KX Row.KA (λ _=>rfl) []).obs (PySem.W.kmHook Row.KX Row.KA (λ _=>rfl) []).val 3422:=
 Hd.yu "special-get-raises" (by kernel_rfl) (λ s=>by kernel_rfl) rfl λ b w os=>by cases b<;>kernel_rfl
end Row
namespace L3
open PySem PySem.Spec PyProof.Rows L2
section
variable {prog:Program}{w:World}{A:Around}{R:Result->Shared->Prop}{s:Shared}
theorem sU{elt target iter:Expr}{ifs:List Expr}{scope:Scope}{pos:Pos}{it acc:Value}{env:Env}(I:Nat->Shared->Prop)
 (turn:∀n s,I n s->wpAny (model prog w) A (pyNext it) (λ r s₁=>match r with
   |none=>R (.ok .next) s₁
   |some v=>wpAny (model prog w) A (letOwnedTupleGo target it v) (λ _ s₀=>wpAny (model prog w) A (assign target env v) (λ _ s₂=>
     wpAny (model prog w) A (forIn ifs true λ c r=>if r=true then do let ok <-isTrue c env (eval c env);pure (ForInStep.yield ok)else pure (ForInStep.yield r)) (λ ok s₃=>
      if ok=true then wpAny (model prog w) A (eval elt env) (λ x s₄=>
       wpAny (model prog w) A (call (.builtin "list.append") [acc,x]) (λ _ s₅=>∃m,m<n/\I m s₅) (λ _ _=>False) s₄) (λ _ _=>False) s₃
      else∃m,m<n/\I m s₃) (λ _ _=>False) s₂) (λ _ _=>False) s₀) (λ _ _=>False) s₁) (λ _ _=>False) s)
 (n:Nat) (h:I n s):
 codeAny (model prog w) A (.compLoop (.ListComp elt [⟨target,iter,ifs,0⟩] scope pos) 0 it acc env) R s:=by
 refine codeAny_loop rfl I (λ n s hI=>?_) n h;show wpAny _ A ((compTurn (.ListComp elt [⟨target,iter,ifs,0⟩] scope pos) 0 it acc env).onRaise (λ x=>do noteFrame x env;theTreesLotGoes x)) _ _ s;refine wpAny_noted ?_;rw[compTurn_list];refine GZ (J9 (GZ (Ip (turn n s hI) (λ r s₁ h₁=>?_) λ _ _ h'=>h'.elim)));cases r with
 |none=>exact HA h₁
 |some v=>
  refine GZ (Ip h₁ (λ _ s₀ h₀=>?_) λ _ _ h'=>h'.elim);refine GZ (Ip h₀ (λ _ s₂ h₂=>GZ (Ip h₂ (λ ok s₃ h₃=>?_) λ _ _ h'=>h'.elim)) λ _ _ h'=>h'.elim);cases ok with
  |false=>exact HA ⟨rfl,h₃⟩
  |true=>
   exact GZ (GZ (Ip h₃ (λ x s₄ h₄=>GZ (Ip h₄ (λ _ s₅ h₅=>HA (HA ⟨rfl,h₅⟩)) λ _ _ h'=>h'.elim)) λ _ _ h'=>h'.elim))
end
def cv(cells:List (Str×Addr)):List (Str×NameKind)->List (Str×Addr)->List (Str×Addr)
 | [],acc=>acc
 |(n,k)::r,acc=>if k== .free then(match cells.lookup n with|some c=>cv cells r ((n,c)::acc)|none=>cv cells r acc)else cv cells r acc
theorem cg{cells:List (Str×Addr)}:∀(names:List (Str×NameKind)) (acc:List (Str×Addr)),(∀x c,acc.lookup x=some c->cells.lookup x=some c)->
 ∀x c,(cv cells names acc).lookup x=some c->cells.lookup x=some c
 | [],acc,h,x,c,e=>h x c e
 |(n,k)::r,acc,h,x,c,e=>by
  unfold cv at e;split at e
  . split at e
    . rename_i d q;refine cg r _ (λ y b e'=>?_) x c e;rw[HU]at e';split at e'
      . rename_i z;cases e';have z':y=n:=by simpa using z
        rw[z'];exact q
      . exact h y b e'
    . exact cg r _ h x c e
  . exact cg r _ h x c e
theorem f6{cells:List (Str×Addr)}{x:Str}:∀(names:List (Str×NameKind)) (acc:List (Str×Addr)),(∃c,cells.lookup x=some c)->((x,NameKind.free)∈names\/∃c,acc.lookup x=some c)->
 ∃c,(cv cells names acc).lookup x=some c
 | [],acc,_,h=>by
   rcases h with h|h
   . simp at h
   . exact h
 |(n,k)::r,acc,hc,h=>by
  unfold cv;split
  . rename_i hk;split
    . rename_i d q;refine f6 r _ hc ?_;rcases h with h|⟨c,h⟩
      . rcases G9.mp h with e|e
        . cases e;exact .inr ⟨d,by simp[HU]⟩
        . exact .inl e
      . refine .inr ?_;rw[HU];split
        . exact⟨_,rfl⟩
        . exact⟨c,h⟩
    . rename_i q;refine f6 r _ hc ?_;rcases h with h|h
      . rcases G9.mp h with e|e
        . cases e;obtain⟨c,hc⟩:=hc;rw[hc]at q;cases q
        . exact .inl e
      . exact .inr h
  . rename_i hk;refine f6 r _ hc ?_;rcases h with h|h
    . rcases G9.mp h with e|e
      . cases e;exact absurd rfl hk
      . exact .inl e
    . exact .inr h
theorem jT{scope:Scope}{env:Env}(h:∀x∈scope.names,x.2= .free->∃c,env.cells.lookup x.1=some c):closureFor scope env=pure (cv env.cells scope.names []):=by
 have key:∀(names:List (Str×NameKind)) (acc:List (Str×Addr)),(∀x∈names,x.2= .free->∃c,env.cells.lookup x.1=some c)->
  (forIn names acc (λ(x:Str×NameKind) (cs:List (Str×Addr))=>if(x.2==NameKind.free)=true then(do let a <-cellOf env x.1;pure (ForInStep.yield ((x.1,a)::cs)):Sem (ForInStep (List (Str×Addr))))else pure (ForInStep.yield cs)))=(pure (cv env.cells names acc):Sem (List (Str×Addr))):=by
  intro names;induction names with
  |nil=>intro acc _;rfl
  |cons p r ih=>
   intro acc hh;obtain⟨n,k⟩:=p;rw[Il];have ih':=ih;by_cases hk:(k==NameKind.free)=true
   . obtain⟨c,e⟩:=hh (n,k) Hm (by simpa using hk);simp only[hk,if_true]
     have e1:cellOf env n=pure c:=by
      unfold cellOf;rw[e]
     rw[e1];simp only[pure_bind];rw[ih _ λ x hx=>hh x (G7 _ hx)];conv=>rhs;unfold cv
     simp only[hk,if_true];rw[show env.cells.lookup n=some c from e]
   . have hk':(k==NameKind.free)=false:=by simpa using hk
     simp only[hk',Bool.false_eq_true,if_false,pure_bind];rw[ih _ λ x hx=>hh x (G7 _ hx)];conv=>rhs;unfold cv
     simp only[hk',Bool.false_eq_true,if_false]
 unfold closureFor;have:=key scope.names [] h;rw[bind_pure]
 first
  |exact this
  |(simp only[bind_pure]at this⊢;exact this)
end L3
namespace L3
open PySem PySem.Spec L2
open PyProof.Rows hiding St
theorem dS(env:Env):∀(names:List (Str×NameKind)) (x:Str),
 (names.map λ(n,k)=>if(k==NameKind.free&&env.scope.kind== .function&&env.kindOf n==some .cell)then(n,NameKind.cell)else(n,k)).lookup x=
   (names.lookup x).map λ k=>if(k==NameKind.free&&env.scope.kind== .function&&env.kindOf x==some .cell)then NameKind.cell else k
 | [],_=>rfl
 |(n,k)::r,x=>by
  show List.lookup x ((if(k==NameKind.free&&env.scope.kind== .function&&env.kindOf n==some .cell)=true then(n,NameKind.cell)else(n,k))::_)=_;cases hx:x==n with
  |true=>
   have e:x=n:=by simpa using hx
   subst e;by_cases hc:(k==NameKind.free&&env.scope.kind== .function&&env.kindOf x==some .cell)=true
   . rw[Hu hc];simp only[HU,Jx,IK];rw[Hu hc]
   . rw[Hi hc];simp only[HU,Jx,IK];rw[Hi hc]
  |false=>
   by_cases hc:(k==NameKind.free&&env.scope.kind== .function&&env.kindOf n==some .cell)=true
   . rw[Hu hc];simp only[HU,hx];exact dS env r x
   . rw[Hi hc];simp only[HU,hx];exact dS env r x
theorem sk{env:Env}{scope:Scope}{x:Str}(h:scope.names.lookup x=some .free):(relabel scope env).names.lookup x=some .cell\/(relabel scope env).names.lookup x=some .free:=by
 have e:(relabel scope env).names.lookup x=_:=dS env scope.names x;rw[e,h];simp only[IK];split
 . exact .inl rfl
 . exact .inr rfl
theorem rk{env:Env}{scope:Scope}{x:Str}(h:(relabel scope env).names.lookup x=some .cell\/(relabel scope env).names.lookup x=some .free):(x,NameKind.free)∈scope.names\/scope.names.lookup x=some .cell:=by
 have e:(relabel scope env).names.lookup x=_:=dS env scope.names x;rw[e]at h;cases q:scope.names.lookup x with
 |none=>rw[q]at h;rcases h with h|h<;>cases h
 |some k=>
  rw[q]at h;simp only[IK]at h;have m:=HV q;by_cases hc:(k==NameKind.free&&env.scope.kind== .function&&env.kindOf x==some .cell)=true
  . have:k= .free:=by
     simp only[Ho]at hc;simpa using hc.1.1
    subst this;exact .inl m
  . rw[Hi hc]at h;rcases h with h|h
    . cases h;exact .inr rfl
    . cases h;exact .inl m
theorem cT:∀(names:List (Str×NameKind)) (L:Nat) (acc:List (Str×Addr)),cellsFrom L names acc=cellsFrom L names []++acc
 | [],_,_=>rfl
 |(n,k)::r,L,acc=>by
  unfold cellsFrom;by_cases hk:(k==NameKind.cell)=true
  . rw[Hu hk,Hu hk,cT r (L+1) ((n,L)::acc),cT r (L+1) [(n,L)],Hn];rfl
  . rw[Hi hk,Hi hk];exact cT r L acc
theorem j6:∀ {names:List (Str×NameKind)} {L:Nat} {x:Str} {c:Addr},(x,c)∈cellsFrom L names []->(x,NameKind.cell)∈names
 | [],_,_,_,h=>by unfold cellsFrom at h;cases h
 |(n,k)::r,L,x,c,h=>by
  unfold cellsFrom at h;by_cases hk:(k==NameKind.cell)=true
  . rw[Hu hk,cT]at h;have hk':k= .cell:=by simpa using hk
    subst hk';rcases Hz.mp h with h|h
    . exact G7 _ (j6 h)
    . have:(x,c)=(n,L):=by simpa using h
      cases this;exact Hm
  . rw[Hi hk]at h;exact G7 _ (j6 h)
theorem jL:∀ {l1 l2:List (Str×Addr)} {x:Str} {c:Addr},(l1++l2).lookup x=some c->l1.lookup x=some c\/(l1.lookup x=none/\l2.lookup x=some c)
 | [],_,_,_,h=> .inr ⟨rfl,h⟩
 |(n,d)::l1,l2,x,c,h=>by
  rw[HR,HU]at h;rw[HU];cases hx:x==n with
  |true=>rw[hx]at h;exact .inl h
  |false=>rw[hx]at h;exact jL h
theorem l7:∀ {l1 l2:List (Str×Addr)} {x:Str},l1.lookup x=none->(l1++l2).lookup x=l2.lookup x
 | [],_,_,_=>rfl
 |(n,d)::l1,l2,x,h=>by
  rw[HU]at h;rw[HR,HU];cases hx:x==n with
  |true=>rw[hx]at h;cases h
  |false=>rw[hx]at h;exact l7 h
def fW(scope:Scope)(C:Addr)(cl:List (Str×Addr)):List (Str×Addr):=cellsFrom (C+1) scope.names cl
theorem dP{scope:Scope}{C:Addr}{cl:List (Str×Addr)}{x:Str}{c:Addr}(h:(fW scope C cl).lookup x=some c):(x,c)∈cellsFrom (C+1) scope.names []\/cl.lookup x=some c:=by
 unfold fW at h;rw[cT]at h;rcases jL h with h|h
 . exact .inl (HV h)
 . exact .inr h.2
theorem C_(names:List (Str×NameKind))(h:Heap){C:Addr}(e:h.objs.size=C+1):CellsOk (pushCells h names) (C+1) (cellsFrom (C+1) names []):=by
 have:=cellsFrom_ok names h (C+1) [] ⟨λ _ _ hm=>(nomatch hm),List.Pairwise.nil⟩ (by rw[e];exact G8 _);rw[e]at this;exact this
theorem gP{names:List (Str×NameKind)}{C:Addr}{x:Str}{c:Addr}:∀ {L:Nat},C<=L->(x,c)∈cellsFrom L names []->C<=c:=by
 induction names with
 |nil=>intro L _ h;unfold cellsFrom at h;cases h
 |cons p r ih=>
  obtain⟨n,k⟩:=p;intro L hL h;unfold cellsFrom at h;by_cases hk:(k==NameKind.cell)=true
  . rw[Hu hk,cT]at h;rcases Hz.mp h with h|h
    . exact ih (HX hL (Nat.le_succ L)) h
    . have:(x,c)=(n,L):=by simpa using h
      cases this;exact hL
  . rw[Hi hk]at h;exact ih hL h
theorem own_apart{names:List (Str×NameKind)}{x y:Str}{c:Addr}:∀ {L:Nat},(x,c)∈cellsFrom L names []->(y,c)∈cellsFrom L names []->x=y:=by
 induction names with
 |nil=>intro L h;unfold cellsFrom at h;cases h
 |cons p r ih=>
  obtain⟨n,k⟩:=p;intro L h1 h2;unfold cellsFrom at h1 h2;by_cases hk:(k==NameKind.cell)=true
  . rw[Hu hk,cT]at h1 h2;rcases Hz.mp h1 with g1|g1<;>rcases Hz.mp h2 with g2|g2
    . exact ih g1 g2
    . have e2:(y,c)=(n,L):=by simpa using g2
      have ec:c=L:=(KC e2).2;have:=gP (C:=L+1) (G8 _) g1;rw[ec]at this;exact absurd this (Nat.not_succ_le_self _)
    . have e1:(x,c)=(n,L):=by simpa using g1
      have ec:c=L:=(KC e1).2;have:=gP (C:=L+1) (G8 _) g2;rw[ec]at this;exact absurd this (Nat.not_succ_le_self _)
    . have e1:(x,c)=(n,L):=by simpa using g1
      have e2:(y,c)=(n,L):=by simpa using g2
      exact(KC e1).1.trans (KC e2).1.symm
  . rw[Hi hk]at h1 h2;exact ih h1 h2
theorem my{M:Model}{A:Around}{E:Value->Shared->Prop}{s:Shared}{scope:Scope}{globals:Addr}{cl:List (Str×Addr)}{qual:Str}{env:Env}{Q:Env->Shared->Prop}
 (hQ:Q (newEnv scope s.heap.objs.size globals (fW scope s.heap.objs.size cl) qual none .none (some env) builtinsNs) {s with heap:=pushCells (s.heap.push {cls:= .type "dict",data:= .dict #[]}) scope.names}):
 wpAny M A (newFunctionEnv scope globals cl [] qual none .none (some env)) Q E s:=by
 simp only[newFunctionEnv,Option.isSome_some,if_true];refine GZ (wpAny_alloc ?_);refine GZ (wpAny_layCells _ (λ name kind cells=>by cases hkc:kind==NameKind.cell<;>simp[hkc]) _ _ _ _ ?_);rw[show({s with heap:=s.heap.push {cls:= .type "dict",data:= .dict #[]}}:Shared).heap.objs.size=s.heap.objs.size+1 from Ik ..];rw[KJ];exact GZ (HA (HA hQ))
structure bg(X:Cx)(scope:Scope)(Nc:List Str)(fr:List (Option Nat)):Prop where
 kind:scope.kind= .function
 cells:∀x∈scope.names,x.2= .cell->scope.names.lookup x.1=some .cell
 names:∀x∈scope.names,x.2= .local->scope.names.lookup x.1=some .local
 free:∀x∈scope.names,x.2= .free->X.env.kindOf x.1=some .cell\/X.env.kindOf x.1=some .free
 len:fr.length=Nc.length
 map:∀(i j:Nat) (x:Str),Nc[i]?=some x->fr[i]?=some (some j)->X.N[j]?=some x/\scope.names.lookup x=some .free/\(X.env.kindOf x=some .cell\/X.env.kindOf x=some .free)
def σC(fr:List (Option Nat))(σ:St):St:=fr.map λ o=>o.bind λ j=>(σ[j]?).join
def dv(X:Cx)(scope:Scope)(Nc:List Str)(C:Addr)(s:Shared)(H:Hp)(ex:List Addr):Cx:=
 {X with N:=Nc,s₀:=s,H₀:=H,env:=compEnvC scope (fW scope C (cv X.env.cells scope.names [])) C X.env,outer:=X.stack,stack:=X.stack,ex:=ex,fn:=λ x=>scope.names.lookup x==some .cell,pn:=[],xe:=λ _ _=>False}
def nP(wi:TI)(fr:List (Option Nat))(g:TG)(c:TT)(te:TE):TE:=λ σ H Q=>wi σ H λ J H1=>∀l,H1 l=none->
 ∃W:Nat->Nat->L2.St->Hp->Prop,(∃m,W 0 m (σC fr σ) (upd H1 l (.lst [])))/\∀i m σ H,W i m σ H->
  (J.stop i H/\Q (.ref l) H)\/(J.go i H/\∃N:L2.St->Hp->Prop,(∀σ' H',N σ' H'->∃m',m'<m/\W (i+1) m' σ' H')/\∀x H',J.ia i H x H'->
    g x σ H' λ σ2 H2=>c σ2 H2 λ b H3=>if b=true then te σ2 H3 λ y H4=>∃ys,H4 l=some (.lst ys)/\ys.length<sizeLine/\N σ2 (upd H4 l (.lst (ys++[y])))else N σ2 H3)
def lY(X:Cx)(ifs:List Expr)(t:TT):Prop:=
 ∀(pins:List (Addr×Obj)) (s:Shared) (σ:St) (H:Hp) (Q:Bool->Hp->Prop),Inv X pins σ H s->t σ H Q->
  wpAny (model X.prog X.w) X.A (forIn ifs true λ c r=>if r=true then do let ok <-isTrue c X.env (eval c X.env);pure (ForInStep.yield ok)else pure (ForInStep.yield r)) (TP X pins σ Q) X.xe s
def E9:TT:=λ _ H Q=>Q true H
theorem Au{X:Cx}:lY X [] E9:=λ _ _ _ H _ I h=>wpAny_tests_nil ⟨H,I,h⟩
theorem zU{X:Cx}{c:Expr}{t:TT}(h:PT X c t):lY X [c] t:=λ pins s σ H Q I q=>wpAny_tests_one (h pins s σ H Q I q)
section
variable {X:Cx}{scope:Scope}{Nc:List Str}{fr:List (Option Nat)}{pins:List (Addr×Obj)}{σ:St}{H:Hp}{s:Shared}
theorem De{C:Addr}{fp:List Addr}(S:bg X scope Nc fr)(I:Inv X pins σ H s)(hC:C=s.heap.objs.size)(hf:∀b∈fp,fM X pins H b)(hlt:∀b∈fp,b<s.heap.objs.size)(hnc:∀b∈fp,∀x c,X.env.cells.lookup x=some c->c≠b):
 (dv X scope Nc C s H fp).Ok where
 mod:=I.ok.mod
 kind:=S.kind
 glob:=I.ok.glob
 blt:=I.ok.blt
 above:=Nat.le_of_eq hC.symm
 inj:=λ x y c h1 h2=>by
  have low:∀ {z},(cv X.env.cells scope.names []).lookup z=some c->c<s.heap.objs.size:=λ{z} hz=>by
   obtain⟨v,q⟩:=I.cell z c (cg _ [] (λ _ _ e=>by cases e) z c hz);exact q.lt
  rcases dP h1 with h1|h1<;>rcases dP h2 with h2|h2
  . exact own_apart h1 h2
  . have a:=gP (C:=C+1) (G8 _) h1;have b:c<C:=by rw[hC];exact low h2
    exact absurd a (Nat.not_le_of_gt (Kc b))
  . have a:=gP (C:=C+1) (G8 _) h2;have b:c<C:=by rw[hC];exact low h1
    exact absurd a (Nat.not_le_of_gt (Kc b))
  . exact I.ok.inj x y c (cg _ [] (λ _ _ e=>by cases e) x c h1) (cg _ [] (λ _ _ e=>by cases e) y c h2)
 has:=λ x hx=>by
  rcases rk hx with m|m
  . obtain⟨c,e⟩:=f6 scope.names [] (I.ok.has x (S.free _ m rfl)) (.inl m);exact IH.mp (Iq _ _ _ (.inr (by rw[e];rfl)))
  . exact IH.mp (Iq _ _ _ (.inl m))
 tH:=λ x c hf h=>by
  have hl:scope.names.lookup x=some .cell:=by
   have:(scope.names.lookup x==some .cell)=true:=hf;simpa using this
  obtain⟨c',e⟩:=IH.mp (Iq (x:=x) scope.names (C+1) [] (.inl hl))
  have h':(cellsFrom (C+1) scope.names []++cv X.env.cells scope.names []).lookup x=some c:=by
   rw[<-cT];exact h
  rcases jL h' with q|q
  . have:=gP (C:=C+1) (G8 _) (HV q);show s.heap.objs.size<=c;rw[<-hC];exact Kd this
  . rw[q.1]at e;cases e
 hd:=I.ok.hd
 frames:=I.ok.frames
 xJ:= .inl rfl
 y4:=λ b hb=>⟨by rw[show(dv X scope Nc C s H fp).env.locals=s.heap.objs.size from hC];exact HK (hlt b hb),λ x c h=>by
  rcases dP h with h|h
  . have a:=gP (C:=C+1) (G8 _) h;have b':b<C:=by rw[hC];exact hlt b hb
    exact IX (Hw b' (Kd a))
  . exact hnc b hb x c (cg _ [] (λ _ _ e=>by cases e) x c h)⟩
 bs:=I.bs
 pw:=HX I.ok.pw I.sz
 og:=λ b o e hb=>by
  have hn:=(hf b hb).2.2.2.1;rcases hn with hn|hn
  . exact I.ok.og b o e hn
  . exact absurd (Hg (I.ok.bs b o e).1) (Nat.not_lt.mpr hn)
 oo:=λ b hb z=>by
  have q:=I.si b z;rcases G9.mp q with q|q
  . exact(hf b hb).2.1 q
  . exact(hf b hb).2.2.1 q
 gn:=I.stack
 sq:=λ b hb=>I.tG b hb
 gt:=I.ok.gt
theorem AQ{i:Nat}{v:V}(h:(σC fr σ)[i]?=some (some v)):∃j,fr[i]?=some (some j)/\σ[j]?=some (some v):=by
 unfold σC at h;rw[Hb]at h;cases q:fr[i]? with
 |none=>rw[q]at h;cases h
 |some o=>
  rw[q]at h;cases o with
  |none=>simp at h
  |some j=>
   simp only[IK,Option.some.injEq,Option.bind_some]at h;refine⟨j,rfl,?_⟩;cases r:σ[j]? with
   |none=>rw[r]at h;cases h
   |some u=>rw[r]at h;simp at h;rw[h]
theorem xY{s':Shared}{h':Heap}{C:Addr}{fp:List Addr}{t':Nat}(S:bg X scope Nc fr)(I:Inv X pins σ H s)(hC:C=s.heap.objs.size)(ok:(dv X scope Nc C s H fp).Ok)(hfr:∀b∈fp,H b=none)
 (k:∀b o,s.heap.get? b=some o->h'.get? b=some o) (hn:h'.Ns C (λ _=>none)) (hcs:∀x c,(x,c)∈cellsFrom (C+1) scope.names []->h'.IsCell c none):Inv (dv X scope Nc C s H fp) [] (σC fr σ) H {s with heap:=h',toks:=t'} where
 ok:=ok
 os:=rfl
 bare:=I.bare
 base:=Un.kept k
 loc:=⟨_,hn,λ i x v h1 h2 h3=>by
  obtain⟨j,q1,q2⟩:=AQ h2;obtain⟨n1,n2,n3⟩:=S.map i j x h1 q1;obtain⟨m,hm,hl⟩:=I.loc
  have vis:qA X.env.scope x:=by
   rcases n3 with z|z
   . exact .inr (.inl z)
   . exact .inr (.inr z)
  obtain⟨u,r,lk⟩:=hl j x v n1 q2 vis;refine⟨u,r,?_⟩;rcases lk with⟨z,_⟩|⟨z,c,e,ic⟩
  . rcases n3 with y|y
    . rw[y]at z;cases z
    . rw[y]at z;cases z
  . refine .inr ⟨sk n2,?_⟩;obtain⟨c',e'⟩:=f6 scope.names [] ⟨c,e⟩ (.inl (HV n2));have e2:=cg _ [] (λ _ _ e=>by cases e) x c' e';rw[e]at e2;cases e2;refine⟨c,?_,ic.keeps k⟩;show(fW scope C (cv X.env.cells scope.names [])).lookup x=some c;unfold fW;rw[cT,l7 ?_]
    . exact e'
    . cases q:(cellsFrom (C+1) scope.names []).lookup x with
      |none=>rfl
      |some c2=>
       have:=S.cells _ (j6 (HV q)) rfl;rw[n2]at this;cases this⟩
 cell:=λ x c h=>by
  rcases dP h with h|h
  . exact⟨_,hcs x c h⟩
  obtain⟨v,q⟩:=I.cell x c (cg _ [] (λ _ _ e=>by cases e) x c h);exact⟨v,q.keeps k⟩
 free:=by show H C=none;rw[hC];exact I.aF.fresh (G8 _)
 fo:=λ x c h=>by
  rcases dP h with h|h
  . have a:=gP (C:=C+1) (G8 _) h;exact I.aF.fresh (by rw[<-hC];exact Kd a)
  . exact I.fo x c (cg _ [] (λ _ _ e=>by cases e) x c h)
 pin:=λ p hp=>by cases hp
 aF:=I.aF.kept k
 len:=by unfold σC;rw[GV];exact S.len
theorem Inv.forget{C:Addr}{h':Heap}(I:Inv X pins σ H s)(f:fM X pins H C)(hs:Heap.SameBut C s.heap h'):Inv X pins σ H {s with heap:=h'}:=by
 refine I.zj (s':={s with heap:=h'}) (ch:=[C]) rfl ?_ ?_ I.bare λ b hb=>?_
 . have ne:∀b,b∉[C]->b≠C:=λ b hb z=>hb (by simp[z]);exact{keep:=λ b o q _ _ hx=>(hs.2 b (ne b hx)).trans q,slot:=λ b o q _ _ hx=>⟨o.slots,(hs.2 b (ne b hx)).trans q⟩,free:=λ b o q n _=>n,there:=λ b o q hx=>⟨o,(hs.2 b (ne b hx)).trans q⟩,jn:=λ _ _ e=>e,iQ:=λ _ _ _ e=>e,iu:=λ b ps e=>⟨#[],by rw[e];simp⟩}
 . intro a o q;have na:∀b u,H b=some u->b≠C:=λ b u q z=>by rw[z,f.1]at q;cases q
   refine(I.aF a o q).kG (λ b u hb e=>?_) (λ _ q=>q) λ _ _ q=>q;rw[hs.2 b ?_]
   . exact e
   . rcases hb with rfl|hb
     . exact na _ _ q
     . exact na _ _ hb
 . have:b=C:=by simpa using hb
   subst this;exact⟨f.2.2.2.1,f.2.1,f.2.2.2.2.1,f.2.2.2.2.2⟩
theorem nj{elt tg iter:Expr}{ifs:List Expr}{wi:TI}{g:TG}{c:TT}{te:TE}{pos:Pos}{Q:VK}{RR:Value->Addr->Result->Shared->Prop}(hx:X.xe=λ _ _=>False)(hc:X.calm=true)(S:bg X scope Nc fr)(hi:PI X tg iter wi)
 (hg:∀C s H ex,PG (dv X scope Nc C s H ex) tg g) (ht:∀C s H ex,lY (dv X scope Nc C s H ex) ifs c) (he:∀C s H ex,PE (dv X scope Nc C s H ex) elt te) (I:Inv X pins σ H s) (h:nP wi fr g c te σ H Q)
 (fin:∀(l C:Addr) (s6:Shared) (H5:Hp) (m:Str->Option Value),s6.heap.Ns C m->fM X pins H5 C->Inv X pins σ H5 s6->Q (.ref l) H5->RR (.ref l) C (.ok .next) s6):
 wpAny (model X.prog X.w) X.A (eval iter X.env) (λ x s₁=>wpAny (model X.prog X.w) X.A (pyIter x) (λ it s₂=>wpAny (model X.prog X.w) X.A (newList []) (λ acc s₃=>
  wpAny (model X.prog X.w) X.A (newFunctionEnv scope X.env.globals (cv X.env.cells scope.names []) [] X.env.qual none .none (some X.env)) (λ cenv s₄=>
   codeAny (model X.prog X.w) X.A (.compStart (.ListComp elt [⟨tg,iter,ifs,0⟩] scope pos) 0 it acc {cenv with scope:=relabel scope X.env}) (RR acc cenv.locals) s₄) X.xe s₃) X.xe s₂) X.xe s₁) X.xe s:=by
 refine a6 (hi pins s σ H _ I h) λ v s1 h1=>a6 h1 λ itv s2 h2=>?_;obtain⟨it,fp,tn,J,H2,e,I2,T,st2,f2,hR⟩:=h2;subst e;refine wpAny_newList ?_ (IS _);have I3:=I2.yo (t':=s2.toks) (its:=[]) (ys:=[]) .nil (IS _);generalize e3:({s2 with heap:=s2.heap.push {cls:= .type "list",data:= .seq ([]:List Value).toArray}}:Shared)=s3;have I3:Inv X pins σ (upd H2 s2.heap.objs.size (.lst [])) s3:=by rw[<-e3];exact I3
 have ml:s2.heap.objs.size<s3.heap.objs.size:=by rw[<-e3];show _<(s2.heap.push _).objs.size;rw[Ik];omega
 have k3:∀b o,s2.heap.get? b=some o->s3.heap.get? b=some o:=λ b o q=>by rw[<-e3];exact GY _ q
 obtain⟨W,⟨m0,w0⟩,turn⟩:=hR s2.heap.objs.size (I2.aF.fresh (G8 _));refine my ?_;have hn:(pushCells (s3.heap.push {cls:= .type "dict",data:= .dict #[]}) scope.names).Ns s3.heap.objs.size (λ _=>none):=(Heap.Ns.new s3.heap (.type "dict")).keeps (pushCells_keeps _ _);have hcs:∀x c,(x,c)∈cellsFrom (s3.heap.objs.size+1) scope.names []->(pushCells (s3.heap.push {cls:= .type "dict",data:= .dict #[]}) scope.names).IsCell c none:=λ x c h=>((C_ scope.names _ (Ik ..)).empty x c h).1;have k4:∀b o,s3.heap.get? b=some o->(pushCells (s3.heap.push {cls:= .type "dict",data:= .dict #[]}) scope.names).get? b=some o:=λ b o q=>pushCells_keeps _ _ b o (GY _ q);generalize(pushCells (s3.heap.push {cls:= .type "dict",data:= .dict #[]}) scope.names)=h' at hn hcs k4⊢;have hobj:∀b∈fp,∃o,s2.heap.get? b=some o/\∀v,o.data≠ .cell v:=T.obj _ _ st2;have hlt2:∀b∈fp,b<s3.heap.objs.size:=λ b hb=>let⟨o,q,_⟩:=hobj b hb;Hg (k3 b o q)
 have hnl:∀b∈fp,b≠s2.heap.objs.size:=λ b hb=>by
  obtain⟨o,q,_⟩:=hobj b hb;exact HK (Hg q)
 have f3:∀b∈fp,fM X pins (upd H2 s2.heap.objs.size (.lst [])) b:=λ b hb=>⟨by rw[aK (hnl b hb)];exact(f2 b hb).1,(f2 b hb).2⟩
 have ok:=De (C:=s3.heap.objs.size) (fp:=fp) S I3 rfl f3 hlt2 λ b hb=>(f2 b hb).2.2.2.2.1
 have I4:Inv (dv X scope Nc s3.heap.objs.size s3 (upd H2 s2.heap.objs.size (.lst [])) fp) [] (σC fr σ) (upd H2 s2.heap.objs.size (.lst [])) {s3 with heap:=h',toks:=s3.toks}:=
  xY (s':=s3) S I3 rfl ok (λ b hb=>(f3 b hb).1) k4 hn hcs
 have st4:tn 0 h':=T.keep _ _ _ st2 λ b _ o q=>k4 b o (k3 b o q);generalize hXc:dv X scope Nc s3.heap.objs.size s3 (upd H2 s2.heap.objs.size (.lst [])) fp=Xc at I4;have hgc:PG Xc tg g:=by rw[<-hXc];exact hg _ _ _ _
 have htc:lY Xc ifs c:=by rw[<-hXc];exact ht _ _ _ _
 have hec:PE Xc elt te:=by rw[<-hXc];exact he _ _ _ _
 have xP:Xc.prog=X.prog:=by rw[<-hXc];rfl
 have xW:Xc.w=X.w:=by rw[<-hXc];rfl
 have xK:Xc.K=X.K:=by rw[<-hXc];rfl
 have xc:Xc.calm=true:=by rw[<-hXc];exact hc
 have xA:Xc.A=X.A:=by rw[<-hXc];rfl
 have xE:Xc.env=compEnvC scope (fW scope s3.heap.objs.size (cv X.env.cells scope.names [])) s3.heap.objs.size X.env:=by rw[<-hXc];rfl
 have xx:Xc.xe=λ _ _=>False:=by rw[<-hXc];rfl
 have fpc:∀ {H':Hp},(∀b∈fp,H' b=none)->∀b∈fp,fM Xc [] H' b:=λ{H'} hn b hb=>by
  rw[<-hXc];refine⟨hn b hb,HK (hlt2 b hb),ok.oo b hb,.inl hb,(ok.y4 b hb).2,λ p hp=>by cases hp⟩
 have loop:codeAny (model X.prog X.w) X.A (.compLoop (.ListComp elt [⟨tg,iter,ifs,0⟩] scope pos) 0 (.ref it) (.ref s2.heap.objs.size) (compEnvC scope (fW scope s3.heap.objs.size (cv X.env.cells scope.names [])) s3.heap.objs.size X.env))
  (RR (.ref s2.heap.objs.size) s3.heap.objs.size) {s3 with heap:=h',toks:=s3.toks}:=by
  refine sU (λ n s'=>∃i σ' H',Inv Xc [] σ' H' s'/\tn i s'.heap/\(∀b∈fp,H' b=none)/\W i n σ' H') ?_ m0 ⟨0,_,_,I4,st4,λ b hb=>(f3 b hb).1,w0⟩;rintro n s5 ⟨i,σ5,H5,I5,st5,fr5,w5⟩;rcases turn i n σ5 H5 w5 with⟨stop,qn⟩|⟨go,N,hN,step⟩
  . have q:=T.done Xc xP xW xK xc i [] s5 σ5 H5 (λ _ _=>False) I5 (fpc fr5) st5 stop;rw[xA]at q;refine a6 q λ r s6 ⟨hr,I6⟩=>?_;subst hr;obtain⟨m,hm,_⟩:=I6.loc;rw[xE]at hm;have free6:H5 s3.heap.objs.size=none:=by have:=I6.free;rw[xE]at this;exact this
    have un6:Un (iY X.stack) fp (upd H2 s2.heap.objs.size (.lst [])) H5 s3.heap s6.heap:=by have:=I6.base;rw[<-hXc]at this;exact this
    have os6:s6.os=s3.os:=by have:=I6.os;rw[<-hXc]at this;exact this
    have hok6:du X.prog X.w H5 s6.heap:=by have:=I6.aF;rw[xP,xW]at this;exact this
    have J:=I3.zj (s':=s6) (ch:=fp) os6 un6 hok6 I6.bare λ b hb=>⟨(f3 b hb).2.2.2.1,(f3 b hb).2.1,(f3 b hb).2.2.2.2.1,(f3 b hb).2.2.2.2.2⟩
    exact fin _ _ s6 H5 m hm (I3.kh (G8 _) free6) J qn
  . have q:=T.item Xc xP xW xK xc i [] s5 σ5 H5 (λ _ _=>False) I5 (fpc fr5) st5 go;rw[xA]at q;refine a6 q λ r s6 ⟨u,hr,h6⟩=>?_;subst hr;refine a6 h6 λ _ s7 ⟨x,H7,I7,r7,y7,st7,fr7⟩=>?_;have I7':=I7.pinned (fpc fr7) (T.obj _ _ st7);have q8:=hgc _ s7 σ5 H7 x u _ I7' r7 (step x H7 y7);rw[xP,xW,xA,xE,xx]at q8;refine a6 q8 λ _ s8 ⟨σ8,H8,I8,q8⟩=>?_;have q9:=htc _ s8 σ8 H8 _ I8 q8;rw[xP,xW,xA,xE,xx]at q9;refine a6 q9 λ b s9 ⟨H9,I9,q9⟩=>?_
    have again:∀ {H':Hp} {s':Shared},Inv Xc ([]++kB fp s7.heap) σ8 H' s'->N σ8 H'->∃m,m<n/\∃i σ' H',Inv Xc [] σ' H' s'/\tn i s'.heap/\(∀b∈fp,H' b=none)/\W i m σ' H':=λ{H' s'} J nn=>by
     obtain⟨m',hm,w7⟩:=hN σ8 H' nn;refine⟨m',hm,i+1,σ8,H',J.jE,T.keep _ _ _ st7 λ b hb o e=>(J.pin (b,o) (HM _ (HM _ (gy hb e)))).1,λ b hb=>?_,w7⟩;obtain⟨o,e,d⟩:=T.obj _ _ st7 b hb;exact(J.pin (b,o) (HM _ (HM _ (gy hb e)))).2.1
    cases b with
    |false=>exact again I9 q9
    |true=>
     have qe:=hec _ s9 σ8 H9 _ I9 q9;rw[xP,xW,xA,xE,xx]at qe;refine a6 qe λ y s10 ⟨vy,H10,I10,ry,ys,hy,hlt,qN⟩=>?_;have qa:=o_ (X:=Xc) _ s10 σ8 H10 (.ref s2.heap.objs.size) [vy] (.ref s2.heap.objs.size) [y] (λ _ H'=>N σ8 H') I10 rfl (.cons ry .nil) ⟨_,ys,vy,rfl,rfl,hy,hlt,qN⟩;rw[xP,xW,xA,xx]at qa;exact a6 qa λ _ s11 ⟨_,H11,I11,_,q11⟩=>again I11 q11
 refine codeAny_compStart_list ?_ ?_
 . exact loop
 . exact T.self _ 0 _ _ _ st4 loop
theorem AG{elt tg iter:Expr}{ifs:List Expr}{wi:TI}{g:TG}{c:TT}{te:TE}{pos:Pos}(hx:X.xe=λ _ _=>False)(hc:X.calm=true)(S:bg X scope Nc fr)(hi:PI X tg iter wi)
 (hg:∀C s H ex,PG (dv X scope Nc C s H ex) tg g) (ht:∀C s H ex,lY (dv X scope Nc C s H ex) ifs c) (he:∀C s H ex,PE (dv X scope Nc C s H ex) elt te)
 (hs:∀x,foldedSetIterable iter X.env x=pure x:=by intro _;rfl):PE X (.ListComp elt [⟨tg,iter,ifs,0⟩] scope pos) (nP wi fr g c te):=by
 intro pins s σ H Q I h;rw[eval_ListComp];have hcl:closureFor scope X.env=pure (cv X.env.cells scope.names []):=jT λ x hx hk=>I.ok.has x.1 (S.free x hx hk);refine Ko rfl hs hcl S.kind S.names ?_;exact nj (RR:=λ acc C=>compPost (model X.prog X.w) X.A X.xe none (EP X pins σ Q) acc C) hx hc S hi hg ht he I h λ l C s6 H5 m hm f J q=>⟨m,hm,λ h'' hs''=>⟨.ref l,H5,Inv.forget J f hs'',rfl,q⟩⟩
theorem AF{elt tg iter:Expr}{ifs:List Expr}{wi:TI}{g:TG}{c:TT}{te:TE}{pos pos' spos:Pos}{i:Nat}{x:Str}(hx:X.xe=λ _ _=>False)(hc:X.calm=true)(S:bg X scope Nc fr)(hi:PI X tg iter wi)
 (hg:∀C s H ex,PG (dv X scope Nc C s H ex) tg g) (ht:∀C s H ex,lY (dv X scope Nc C s H ex) ifs c) (he:∀C s H ex,PE (dv X scope Nc C s H ex) elt te) (hN:X.N.Nodup) (hni:X.N[i]?=some x) (hl:Loc X.env.scope x) (hf:X.fn x=true\/X.env.scope.names.lookup x=some .local)
 (hsw:swapsWith (.ListComp elt [⟨tg,iter,ifs,0⟩] scope pos) (some (.Name x pos')) spos.line X.env=pure true)
 (hs:∀x,foldedSetIterable iter X.env x=pure x:=by intro _;rfl):PS X (.Assign [.Name x pos'] (.ListComp elt [⟨tg,iter,ifs,0⟩] scope pos) spos) (iC (nP wi fr g c te) (gu i)):=by
 intro pins s σ H D I h;have hcl:closureFor scope X.env=pure (cv X.env.cells scope.names []):=jT λ x hx hk=>I.ok.has x.1 (S.free x hx hk);rw[exec_Assign_Name_used _ _ _ _ hsw];refine GZ (J9 (GZ ?_));show wpAny _ X.A (do let _ <-comprehension (.ListComp elt [⟨tg,iter,ifs,0⟩] scope pos) scope X.env _ (newList []) false (eval iter X.env) (some (assign (.Name x pos') X.env))) _ _ s
 refine GZ (Ip (Ko (use:=some (assign (.Name x pos') X.env)) (Q:=λ _ s'=>SP X pins D .next s') rfl hs hcl S.kind S.names
  (nj (RR:=λ acc C=>compPost (model X.prog X.w) X.A X.xe (some (assign (.Name x pos') X.env)) (λ _ s'=>SP X pins D .next s') acc C) hx hc S hi hg ht he I h λ l C s6 H5 m hm f J q=>?_)) (λ _ s' hq=>HA (HA hq)) λ _ _ e=>e)
 show wpAny _ X.A (assign (.Name x pos') X.env (.ref l)) _ _ _;refine wpAny_assign_Name (pq J hN hni hl (show RelV (.ref l) (.ref l)from rfl) (λ s7 J7 hch=>?_) hf);obtain⟨a,hsame,ha⟩:=hch
 have hCa:C≠a:=by
  rcases ha with rfl|ha
  . exact f.2.1
  . exact λ z=>f.2.2.2.2.1 x a ha z.symm
 refine⟨m,hm.sameBut hsame hCa,λ h'' hs''=>⟨σ.set i (some (.ref l)),H5,Inv.forget J7 f hs'',q⟩⟩
end
inductive D where
 |aH|bl (b:Bool)|int (i:Int)|str (x:Str)|ty (n:String)|fx (a:Addr)|ref (n:Nat)|lst (xs:List D)|tup (xs:List D)
inductive Cell where
 |lst (xs:List D)|ins (C:Addr) (fs:List (Str×D))|dead
  |tab (P:Addr) (pos:Pos) (qual:Str) (b:Bool)
abbrev af:=List Cell
abbrev bc:=List (Option D)
mutual
def Rep(α:List (Option Addr))(H:Hp):D->V->Prop
 | .aH,v=>v= .aH
 | .bl b,v=>v= .bl b
 | .int i,v=>v= .int i
 | .str x,v=>v= .str x
 | .ty n,v=>v= .ty n
 | .fx a,v=>v= .ref a
 | .ref n,v=>α[n]?=some none\/∃a,α[n]?=some (some a)/\v= .ref a
 | .lst xs,v=>∃a vs,v= .ref a/\some a∉α/\Rd H a (.lst vs)/\ao α H xs vs
 | .tup xs,v=>∃a vs,v= .ref a/\some a∉α/\H a=some (.tup vs)/\ao α H xs vs
def ao(α:List (Option Addr))(H:Hp):List D->List V->Prop
 | [],vs=>vs=[]
 |d::ds,vs=>∃v r,vs=v::r/\Rep α H d v/\ao α H ds r
end
theorem aV{α:List (Option Addr)}{H:Hp}:∀ {ds:List D} {vs:List V},ao α H ds vs↔Paired (Rep α H) ds vs
 | [],vs=>by
   unfold ao;constructor
   . rintro rfl;exact .nil
   . intro h;cases h;rfl
 |d::ds,vs=>by
  unfold ao;constructor
  . rintro⟨v,r,rfl,h1,h2⟩;exact .cons h1 (aV.mp h2)
  . intro h;cases h with|cons h1 h2=>exact⟨_,_,rfl,h1,aV.mpr h2⟩
section
variable {α:List (Option Addr)}{H:Hp}
theorem ao.length{ds:List D}{vs:List V}(h:ao α H ds vs):ds.length=vs.length:=Paired.length (aV.mp h)
theorem nv{A B:Type}{F:A->B->Prop}:∀ {xs:List A} {ys:List B} {i:Nat} {x:A},Paired F xs ys->xs[i]?=some x->∃y,ys[i]?=some y/\F x y
 |_,_,_,_,.nil,e=>by simp at e
 |_,_,0,_,.cons r _,e=>by simp at e;subst e;exact⟨_,rfl,r⟩
 |_,_,i+1,x,.cons _ t,e=>by
  obtain⟨u,h1,h2⟩:=nv (i:=i) (x:=x) t (by simpa using e);exact⟨u,by simpa using h1,h2⟩
theorem cM{A B:Type}{F:A->B->Prop}:∀ {xs xs':List A} {ys ys':List B},Paired F xs ys->Paired F xs' ys'->Paired F (xs++xs') (ys++ys')
 |_,_,_,_,.nil,s=>s
 |_,_,_,_,.cons r t,s=> .cons r (cM t s)
theorem nB{A B:Type}{F:A->B->Prop}{x:A}{y:B}(r:F x y):∀ {xs:List A} {ys:List B} (i:Nat),Paired F xs ys->Paired F (xs.set i x) (ys.set i y)
 |_,_,_,.nil=> .nil
 |_,_,0,.cons _ t=> .cons r t
 |_,_,i+1,.cons q t=> .cons q (nB r i t)
theorem iM{A B:Type}{F:A->B->Prop}{xs:List A}{ys:List B}(h:Paired F xs ys):∀k:Nat,Paired F (List.replicate k xs).flatten (List.replicate k ys).flatten
 |0=> .nil
 |k+1=>by
  rw[HG,HG,IC,IC];exact cM h (iM h k)
theorem ao.get{ds:List D}{vs:List V}{i:Nat}{d:D}(h:ao α H ds vs)(e:ds[i]?=some d):∃v,vs[i]?=some v/\Rep α H d v:=nv (aV.mp h) e
end
structure Step(α:List (Option Addr))(H:Hp)(α':List (Option Addr))(H':Hp):Prop where
 ext:∀b o,some b∉α->H b=some o->H' b=some o
 pre:∀(n:Nat) (x:Option Addr),α[n]?=some x->α'[n]?=some x\/α'[n]?=some none
 new:∀b,some b∈α'->some b∉α->H b=none
theorem Step.refl{α:List (Option Addr)}{H:Hp}:Step α H α H:=⟨λ _ _ _ h=>h,λ _ _ h=> .inl h,λ _ h n=>absurd h n⟩
theorem Step.trans{α α1 α2:List (Option Addr)}{H H1 H2:Hp}(a:Step α H α1 H1)(b:Step α1 H1 α2 H2):Step α H α2 H2 where
 ext:=λ c o hc e=>b.ext c o (λ z=>by rw[a.new c z hc]at e;cases e) (a.ext c o hc e)
 pre:=λ n x e=>by
  rcases a.pre n x e with h|h
  . exact b.pre n x h
  . rcases b.pre n none h with h'|h'
    . exact .inr h'
    . exact .inr h'
 new:=λ c hc n=>by
  by_cases h1:some c∈α1
  . exact a.new c h1 n
  . have:=b.new c hc h1;cases q:H c with
    |none=>rfl
    |some o=>rw[a.ext c o n q]at this;cases this
theorem Step.laid{α:List (Option Addr)}{H:Hp}{p:Addr}{o:HO}(h:H p=none):Step α H α (upd H p o):=
 ⟨λ b u _ e=>by rw[aK (cc e h)];exact e,λ _ _ h=> .inl h,λ _ h n=>absurd h n⟩
theorem Step.cell{α:List (Option Addr)}{H:Hp}{p:Addr}{o:HO}(h:H p=none):Step α H (α++[some p]) (upd H p o):=
 ⟨λ b u _ e=>by rw[aK (cc e h)];exact e,λ n x e=> .inl (by rw[HF (GW.mp e).1];exact e),λ b hb n=>by
  rcases Hz.mp hb with z|z
  . exact absurd z n
  . have:b=p:=by simpa using z
    subst this;exact h⟩
theorem Step.write{α:List (Option Addr)}{H:Hp}{p:Addr}{o:HO}(h:some p∈α):Step α H α (upd H p o):=
 ⟨λ b u n e=>by rw[aK (λ z=>by subst z;exact n h)];exact e,λ _ _ h=> .inl h,λ _ h n=>absurd h n⟩
mutual
theorem Rep.step{α α':List (Option Addr)}{H H':Hp}(s:Step α H α' H'):∀ {d:D} {v:V},Rep α H d v->Rep α' H' d v
 | .aH,_,h=>by unfold Rep at h⊢;exact h
 | .bl _,_,h=>by unfold Rep at h⊢;exact h
 | .int _,_,h=>by unfold Rep at h⊢;exact h
 | .str _,_,h=>by unfold Rep at h⊢;exact h
 | .ty _,_,h=>by unfold Rep at h⊢;exact h
 | .fx _,_,h=>by unfold Rep at h⊢;exact h
 | .ref n,_,h=>by
   unfold Rep at h⊢;rcases h with h|⟨a,e,r⟩
   . rcases s.pre _ _ h with z|z<;>exact .inl z
   . rcases s.pre _ _ e with z|z
     . exact .inr ⟨a,z,r⟩
     . exact .inl z
 | .lst xs,_,h=>by
   unfold Rep at h⊢;obtain⟨a,vs,e,n,r,q⟩:=h;refine⟨a,vs,e,λ z=>?_,?_,ao.step s q⟩
   . have:=s.new a z n;rcases r with r|⟨o,r⟩<;>(rw[this]at r;cases r)
   . rcases r with r|⟨o,r⟩
     . exact .inl (s.ext _ _ n r)
     . exact .inr ⟨o,s.ext _ _ n r⟩
 | .tup xs,_,h=>by
   unfold Rep at h⊢;obtain⟨a,vs,e,n,r,q⟩:=h;exact⟨a,vs,e,(λ z=>by rw[s.new a z n]at r;exact nomatch r),s.ext _ _ n r,ao.step s q⟩
theorem ao.step{α α':List (Option Addr)}{H H':Hp}(s:Step α H α' H'):∀ {ds:List D} {vs:List V},ao α H ds vs->ao α' H' ds vs
 | [],_,h=>by unfold ao at h⊢;exact h
 |d::ds,_,h=>by
  unfold ao at h⊢;obtain⟨v,r,e,h1,h2⟩:=h;exact⟨v,r,e,Rep.step s h1,ao.step s h2⟩
end
structure a8(G F H:Hp):Prop where
 eq:∀b,H b=(G b).or (F b)
 qW:∀b o,G b=some o->F b=none
section
variable {G F H:Hp}
theorem a8.get(P:a8 G F H){b:Addr}{o:HO}(h:G b=some o):H b=some o:=by rw[P.eq b,h];rfl
theorem a8.same(P:a8 G F H):yz G H:=λ _ _ h=>P.get h
theorem a8.none(P:a8 G F H){b:Addr}(h:H b=none):G b=none/\F b=none:=by
 have e:=P.eq b;rw[h]at e;cases q:G b with
 |none=>rw[q]at e;exact⟨rfl,e.symm⟩
 |some o=>rw[q]at e;cases e
theorem a8.frame(P:a8 G F H){b:Addr}{o:HO}(h:F b=some o):H b=some o/\G b=Option.none:=by
 have hn:G b=Option.none:=by
  cases q:G b with
  |none=>rfl
  |some u=>rw[P.qW b u q]at h;cases h
 exact⟨by rw[P.eq b,hn,h];rfl,hn⟩
theorem a8.laid(P:a8 G F H){p:Addr}{o:HO}(h:H p=Option.none):a8 (upd G p o) F (upd H p o):=by
 obtain⟨h1,h2⟩:=P.none h;refine⟨λ b=>?_,λ b u e=>?_⟩
 . by_cases hb:b=p
   . subst hb;rw[a9,a9];rfl
   . rw[aK hb,aK hb];exact P.eq b
 . by_cases hb:b=p
   . subst hb;exact h2
   . rw[aK hb]at e;exact P.qW b u e
theorem a8.write(P:a8 G F H){p:Addr}{o o':HO}(h:G p=some o):a8 (upd G p o') F (upd H p o'):=by
 refine⟨λ b=>?_,λ b u e=>?_⟩
 . by_cases hb:b=p
   . subst hb;rw[a9,a9];rfl
   . rw[aK hb,aK hb];exact P.eq b
 . by_cases hb:b=p
   . subst hb;exact P.qW b o h
   . rw[aK hb]at e;exact P.qW b u e
theorem a8.hide(P:a8 G F H){p:Addr}{o:HO}(h:H p=Option.none):a8 G (upd F p o) (upd H p o):=by
 obtain⟨h1,h2⟩:=P.none h;refine⟨λ b=>?_,λ b u e=>?_⟩
 . by_cases hb:b=p
   . subst hb;rw[a9,a9,h1];rfl
   . rw[aK hb,aK hb];exact P.eq b
 . by_cases hb:b=p
   . subst hb;rw[h1]at e;cases e
   . rw[aK hb];exact P.qW b u e
theorem a8.Gv(P:a8 G F H){p:Addr}{o o':HO}(h:F p=some o):a8 G (upd F p o') (upd H p o'):=by
 have h1:=(P.frame h).2;refine⟨λ b=>?_,λ b u e=>?_⟩
 . by_cases hb:b=p
   . subst hb;rw[a9,a9,h1];rfl
   . rw[aK hb,aK hb];exact P.eq b
 . by_cases hb:b=p
   . subst hb;rw[h1]at e;cases e
   . rw[aK hb];exact P.qW b u e
theorem a8.show{p:Addr}{o:HO}(P:a8 G (upd F p o) H)(h:F p=Option.none):a8 (upd G p o) F H:=by
 have h1:=(P.frame (b:=p) a9)
 refine⟨λ b=>?_,λ b u e=>?_⟩
 . by_cases hb:b=p
   . subst hb;rw[a9,h1.1];rfl
   . rw[aK hb,P.eq b,aK hb]
 . by_cases hb:b=p
   . subst hb;exact h
   . rw[aK hb]at e;have:=P.qW b u e;rw[aK hb]at this;exact this
end
mutual
theorem Rep.mono{α:List (Option Addr)}{G H:Hp}(s:yz G H):∀ {d:D} {v:V},Rep α G d v->Rep α H d v
 | .aH,_,h=>by unfold Rep at h⊢;exact h
 | .bl _,_,h=>by unfold Rep at h⊢;exact h
 | .int _,_,h=>by unfold Rep at h⊢;exact h
 | .str _,_,h=>by unfold Rep at h⊢;exact h
 | .ty _,_,h=>by unfold Rep at h⊢;exact h
 | .fx _,_,h=>by unfold Rep at h⊢;exact h
 | .ref n,_,h=>by unfold Rep at h⊢;exact h
 | .lst xs,_,h=>by
   unfold Rep at h⊢;obtain⟨a,vs,e,n,r,q⟩:=h;refine⟨a,vs,e,n,?_,ao.mono s q⟩;rcases r with r|⟨o,r⟩
   . exact .inl (s _ _ r)
   . exact .inr ⟨o,s _ _ r⟩
 | .tup xs,_,h=>by
   unfold Rep at h⊢;obtain⟨a,vs,e,n,r,q⟩:=h;exact⟨a,vs,e,n,s _ _ r,ao.mono s q⟩
theorem ao.mono{α:List (Option Addr)}{G H:Hp}(s:yz G H):∀ {ds:List D} {vs:List V},ao α G ds vs->ao α H ds vs
 | [],_,h=>by unfold ao at h⊢;exact h
 |d::ds,_,h=>by
  unfold ao at h⊢;obtain⟨v,r,e,h1,h2⟩:=h;exact⟨v,r,e,Rep.mono s h1,ao.mono s h2⟩
end
def uZ(α:List (Option Addr))(H:Hp):List (Str×D)->List (Str×V)->Prop:=Paired λ p q=>p.1=q.1/\Rep α H p.2 q.2
def fc(α:List (Option Addr))(H:Hp)(a:Addr):Cell->Prop
 | .lst xs=>∃vs,H a=some (.lst vs)/\ao α H xs vs
 | .ins C fs=>∃dx vs,H a=some (.ins C dx vs)/\uZ α H fs vs
 | .dead=>False
 | .tab P pos qual b=>a=P/\∃ps:Array Value,H a=some (.gN ps)/\TriplesOk ps.toList/\
    ((b=false/\codeAmong pos ps.toList=none)\/(b=true/\∃c o vs t,codeAmong pos ps.toList=some (.ref c)/\some c∉α/\H c=some (.d7 o (.own c))/\o.data= .fields vs/\vs[1]?=some (.str qual t)))
structure aB(α:List (Option Addr))(st:af)(H:Hp):Prop where
 len:α.length=st.length
 nd:∀(i j:Nat) (a:Addr),α[i]?=some (some a)->α[j]?=some (some a)->i=j
 at':∀(n:Nat) (c:Cell),st[n]?=some c->(c= .dead/\α[n]?=some none)\/∃a,α[n]?=some (some a)/\fc α H a c
theorem uZ.step{α α':List (Option Addr)}{H H':Hp}(s:Step α H α' H'){ds:List (Str×D)}{vs:List (Str×V)}(h:uZ α H ds vs):uZ α' H' ds vs:=Paired.x_ h λ _ _ z=>⟨z.1,z.2.step s⟩
theorem fc.same{α α':List (Option Addr)}{H H':Hp}{a:Addr}{c:Cell}(s:Step α H α' H')(e:H' a=H a)(h:fc α H a c):fc α' H' a c:=by
 cases c with
 |lst xs=>obtain⟨vs,h1,h2⟩:=h;exact⟨vs,e.trans h1,h2.step s⟩
 |ins C fs=>obtain⟨dx,vs,h1,h2⟩:=h;exact⟨dx,vs,e.trans h1,h2.step s⟩
 |dead=>exact h.elim
 |tab P pos qual b=>
  obtain⟨z,ps,h1,h2,h3⟩:=h;refine⟨z,ps,e.trans h1,h2,?_⟩;rcases h3 with h3|⟨hb,c,o,vs,t,q1,q2,q3,q4⟩
  . exact .inl h3
  . exact .inr ⟨hb,c,o,vs,t,q1,(λ y=>by rw[s.new c y q2]at q3;cases q3),s.ext c _ q2 q3,q4⟩
theorem fc.some{α:List (Option Addr)}{H:Hp}{a:Addr}{c:Cell}(h:fc α H a c):∃o,H a=some o:=by
 cases c with
 |lst xs=>obtain⟨vs,h1,h2⟩:=h;exact⟨_,h1⟩
 |ins C fs=>obtain⟨dx,vs,h1,h2⟩:=h;exact⟨_,h1⟩
 |dead=>exact h.elim
 |tab P pos qual b=>obtain⟨_,ps,h1,_⟩:=h;exact⟨_,h1⟩
theorem ee{α:List (Option Addr)}{H:Hp}{n:Nat}{v:V}{a:Addr}(e:α[n]?=Option.some (Option.some a))(r:Rep α H (.ref n) v):v= .ref a:=by
 unfold Rep at r;rcases r with r|⟨b,eb,rfl⟩
 . rw[e]at r;cases r
 . rw[e]at eb;cases eb;rfl
section
variable {α:List (Option Addr)}{st:af}{H:Hp}
theorem aB.fi(S:aB α st H){n:Nat}{xs:List D}(e:st[n]?=Option.some (.lst xs)):∃a,α[n]?=Option.some (Option.some a)/\∃vs,H a=Option.some (.lst vs)/\ao α H xs vs:=by
 rcases S.at' n _ e with⟨z,_⟩|z
 . cases z
 . exact z
theorem aB.mem(S:aB α st H){a:Addr}(h:Option.some a∈α):∃(n:Nat) (c:Cell),α[n]?=Option.some (Option.some a)/\st[n]?=Option.some c/\fc α H a c:=by
 obtain⟨n,hn,e⟩:=I_.mp h;have hl:n<st.length:=by rw[<-S.len];exact hn
 have e':α[n]?=Option.some (Option.some a):=by rw[G0 hn,e]
 rcases S.at' n st[n] (by simp[hl])with⟨_,q⟩|⟨a',q,ca⟩
 . rw[e']at q;cases q
 . rw[e']at q;cases q;exact⟨n,_,e',by simp[hl],ca⟩
theorem aB.ip(S:aB α st H){p:Addr}(h:H p=none):Option.some p∉α:=λ z=>by
 obtain⟨n,c,_,_,ca⟩:=S.mem z;obtain⟨o,e⟩:=ca.some;rw[h]at e;cases e
theorem aB.laid(S:aB α st H){p:Addr}{o:HO}(h:H p=none):aB α st (upd H p o):=
 ⟨S.len,S.nd,λ n c e=>by
  rcases S.at' n c e with z|⟨a,q,ca⟩
  . exact .inl z
  . exact .inr ⟨a,q,ca.same (Step.laid h) (aK (by obtain⟨u,z⟩:=ca.some;exact cc z h))⟩⟩
theorem aB.cell(S:aB α st H){p:Addr}{o:HO}{c:Cell}(h:H p=none)(hc:fc (α++[Option.some p]) (upd H p o) p c):aB (α++[Option.some p]) (st++[c]) (upd H p o) where
 len:=by rw[GX,GX,S.len];rfl
 nd:=λ i j a ei ej=>by
  have key:∀(i:Nat) (a:Addr),(α++[Option.some p])[i]?=Option.some (Option.some a)->(i<α.length/\α[i]?=Option.some (Option.some a))\/(i=α.length/\a=p):=by
   intro i a e;by_cases hi:i<α.length
   . rw[HF hi]at e;exact .inl ⟨hi,e⟩
   . rw[HQ (Jw hi)]at e
     have h0:i-α.length=0:=by
      cases q:i-α.length with
      |zero=>rfl
      |succ k=>rw[q]at e;simp at e
     rw[h0]at e;have:p=a:=by simpa using e
     exact .inr ⟨by omega,this.symm⟩
  rcases key i a ei with⟨h1,e1⟩|⟨h1,e1⟩<;>rcases key j a ej with⟨h2,e2⟩|⟨h2,e2⟩
  . exact S.nd i j a e1 e2
  . subst e2;exact absurd (Hk e1) (S.ip h)
  . subst e1;exact absurd (Hk e2) (S.ip h)
  . omega
 at':=λ n d e=>by
  by_cases hn:n<st.length
  . rw[HF hn]at e;have hl:n<α.length:=by rw[S.len];exact hn
    rcases S.at' n d e with⟨z,q⟩|⟨a,q,ca⟩
    . exact .inl ⟨z,by rw[HF hl];exact q⟩
    . exact .inr ⟨a,by rw[HF hl];exact q,ca.same (Step.cell h) (aK (by obtain⟨u,z⟩:=ca.some;exact cc z h))⟩
  . rw[HQ (Jw hn)]at e
    have h0:n-st.length=0:=by
     cases q:n-st.length with
     |zero=>rfl
     |succ k=>rw[q]at e;simp at e
    rw[h0]at e;have hd:c=d:=by simpa using e
    subst hd;refine .inr ⟨p,?_,hc⟩;rw[HQ (by rw[S.len];exact Jw hn),S.len,h0];rfl
theorem aB.write(S:aB α st H){p:Addr}{o:HO}{c:Cell}{n:Nat}(e:α[n]?=Option.some (Option.some p))(hc:fc α (upd H p o) p c):aB α (st.set n c) (upd H p o) where
 len:=by rw[HZ];exact S.len
 nd:=S.nd
 at':=λ m d q=>by
  have hp:Option.some p∈α:=Hk e;by_cases hm:m=n
  . subst hm
    have hl:m<st.length:=by
     have:=(GW.mp q).1;rw[HZ]at this;exact this
    rw[HJ hl]at q;cases q;exact .inr ⟨p,e,hc⟩
  . rw[HB (HP hm)]at q;rcases S.at' m d q with z|⟨a,r,ca⟩
    . exact .inl z
    . refine .inr ⟨a,r,ca.same (Step.write hp) (aK λ z=>?_)⟩;subst z;exact hm (S.nd m n _ r e)
end
abbrev DK:=D->af->Prop
abbrev DE:=bc->af->DK->Prop
abbrev DT:=bc->af->(Bool->af->Prop)->Prop
abbrev DA:=bc->af->(List D->af->Prop)->Prop
structure gv where
 nx:bc->af->Prop
 rt:DK
 bk:bc->af->Prop:=λ _ _=>False
 ct:bc->af->Prop:=λ _ _=>False
abbrev DS:=gv->bc->af->Prop
structure bV(α:List (Option Addr))(H:Hp)(σd:bc)(σ:L2.St):Prop where
 len:σd.length=σ.length
 at':∀(i:Nat) (d:D),σd[i]?=some (some d)->∃v,σ[i]?=some (some v)/\Rep α H d v
theorem bV.step{α α':List (Option Addr)}{H H':Hp}{σd:bc}{σ:L2.St}(s:Step α H α' H')(h:bV α H σd σ):bV α' H' σd σ:=
 ⟨h.len,λ i d e=>let⟨v,q,r⟩:=h.at' i d e;⟨v,q,r.step s⟩⟩
theorem bV.set{α:List (Option Addr)}{H:Hp}{σd:bc}{σ:L2.St}(h:bV α H σd σ)(i:Nat){d:D}{v:V}(r:Rep α H d v):bV α H (σd.set i (some d)) (σ.set i (some v)):=by
 refine⟨by rw[HZ,HZ,h.len],λ j e q=>?_⟩;have hl:=h.len;by_cases hj:j=i
 . subst hj
   have hlt:j<σd.length:=by
    have:=(GW.mp q).1;rw[HZ]at this;exact this
   rw[HJ hlt]at q;cases q;exact⟨v,HJ (by omega),r⟩
 . rw[HB (HP hj)]at q;rw[HB (HP hj)];exact h.at' j e q
def LK(α:List (Option Addr))(G F:Hp)(K:DK)(Q:VK):Prop:=∀d st',K d st'->∀α' G' H' v,Step α G α' G'->a8 G' F H'->aB α' st' G'->Rep α' G' d v->Q v H'
def y2(α:List (Option Addr))(G F:Hp)(K:Bool->af->Prop)(Q:Bool->Hp->Prop):Prop:=∀b st',K b st'->∀α' G' H',Step α G α' G'->a8 G' F H'->aB α' st' G'->Q b H'
def Gm(α:List (Option Addr))(G F:Hp)(K:List D->af->Prop)(Q:List V->Hp->Prop):Prop:=∀ds st',K ds st'->∀α' G' H' vs,Step α G α' G'->a8 G' F H'->aB α' st' G'->ao α' G' ds vs->Q vs H'
inductive Fp(t:DE)(σ:L2.St)(H:Hp)(Q:VK):Prop
 |mk (α:List (Option Addr)) (σd:bc) (st:af) (K:DK) (G F:Hp) (P:a8 G F H) (R:bV α G σd σ) (S:aB α st G) (h:t σd st K) (k:LK α G F K Q):Fp t σ H Q
def LE(t:DE):TE:=Fp t
inductive Fh(t:DT)(σ:L2.St)(H:Hp)(Q:Bool->Hp->Prop):Prop
 |mk (α:List (Option Addr)) (σd:bc) (st:af) (K:Bool->af->Prop) (G F:Hp) (P:a8 G F H) (R:bV α G σd σ) (S:aB α st G) (h:t σd st K) (k:y2 α G F K Q):Fh t σ H Q
def LT(t:DT):TT:=Fh t
inductive Fw(t:DA)(σ:L2.St)(H:Hp)(Q:List V->Hp->Prop):Prop
 |mk (α:List (Option Addr)) (σd:bc) (st:af) (K:List D->af->Prop) (G F:Hp) (P:a8 G F H) (R:bV α G σd σ) (S:aB α st G) (h:t σd st K) (k:Gm α G F K Q):Fw t σ H Q
def LA(t:DA):TA:=Fw t
theorem LK.here{α:List (Option Addr)}{G F H:Hp}{K:DK}{Q:VK}(h:LK α G F K Q)(P:a8 G F H){d:D}{st:af}{v:V}(k:K d st)(S:aB α st G)(r:Rep α G d v):Q v H:=h d st k α G H v Step.refl P S r
theorem LK.at{α α1:List (Option Addr)}{G F G1:Hp}{K:DK}{Q:VK}(h:LK α G F K Q)(s:Step α G α1 G1):LK α1 G1 F K Q:=λ d st' k α' G' H' v s' P S r=>h d st' k α' G' H' v (s.trans s') P S r
theorem y2.at{α α1:List (Option Addr)}{G F G1:Hp}{K:Bool->af->Prop}{Q:Bool->Hp->Prop}(h:y2 α G F K Q)(s:Step α G α1 G1):y2 α1 G1 F K Q:=λ d st' k α' G' H' s' P S=>h d st' k α' G' H' (s.trans s') P S
section
variable {X:Cx}{a b c e:Expr}{es:List Expr}{ta tb tc te:DE}{pos:Pos}
theorem PE.imp{t t':TE}(h:PE X e t)(f:∀σ H Q,t' σ H Q->t σ H Q):PE X e t':=λ pins s σ H Q I q=>h pins s σ H Q I (f σ H Q q)
theorem PT.imp{t t':TT}(h:PT X e t)(f:∀σ H Q,t' σ H Q->t σ H Q):PT X e t':=λ pins s σ H Q I q=>h pins s σ H Q I (f σ H Q q)
theorem PW.imp{t t':TT}(h:PW X e t)(f:∀σ H Q,t' σ H Q->t σ H Q):PW X e t':=λ w pins s σ H Q I q=>h w pins s σ H Q I (f σ H Q q)
theorem PA.imp{t t':TA}(h:PA X es t)(f:∀σ H Q,t' σ H Q->t σ H Q):PA X es t':=λ p pins s σ H Q I q=>h p pins s σ H Q I (f σ H Q q)
def ab(i:Nat):DE:=λ σ st K=>match σ[i]? with|some (some d)=>K d st|_=>False
def dC(d:D):DE:=λ _ st K=>K d st
theorem D2{i:Nat}{x:Str}(h:PE X (.Name x pos) (Dx i)):PE X (.Name x pos) (LE (ab i)):=PE.imp h λ σ H Q ⟨α,σd,st,K,G,F,P,R,S,t,k⟩=>by
 unfold ab at t;split at t
 . rename_i d q;obtain⟨v,e,r⟩:=R.at' i d q;exact⟨v,e,k.here P t S r⟩
 . exact t.elim
theorem gD{v:V}{d:D}(h:PE X e (tC v))(r:∀α H,Rep α H d v):PE X e (LE (dC d)):=PE.imp h λ σ H Q ⟨α,σd,st,K,G,F,P,R,S,t,k⟩=>k.here P t S (r α G)
theorem ER{i:Int}{j:Nat}:PE X (.Constant (.int i) j pos) (LE (dC (.int i))):=gD DH λ _ _=>by unfold Rep;rfl
theorem FZ{i:Bool}{j:Nat}:PE X (.Constant (.bool i) j pos) (LE (dC (.bl i))):=gD EF λ _ _=>by unfold Rep;rfl
theorem D7{i:Str}{j:Nat}:PE X (.Constant (.str i) j pos) (LE (dC (.str i))):=gD CG λ _ _=>by unfold Rep;rfl
abbrev bx:=D->D->af->DK->Prop
abbrev qY:=D->af->DK->Prop
abbrev b9:=List D->af->DK->Prop
inductive Fl(r:bx)(x y:V)(H:Hp)(Q:VK):Prop
 |mk (α:List (Option Addr)) (d e:D) (st:af) (K:DK) (G F:Hp) (P:a8 G F H) (rx:Rep α G d x) (ry:Rep α G e y) (S:aB α st G) (h:r d e st K) (k:LK α G F K Q):Fl r x y H Q
def LR(r:bx):R2:=Fl r
inductive Bu(r:qY)(x:V)(H:Hp)(Q:VK):Prop
 |mk (α:List (Option Addr)) (d:D) (st:af) (K:DK) (G F:Hp) (P:a8 G F H) (rx:Rep α G d x) (S:aB α st G) (h:r d st K) (k:LK α G F K Q):Bu r x H Q
def zJ(r:qY):V->Hp->VK->Prop:=Bu r
inductive Dr(r:b9)(xs:List V)(H:Hp)(Q:VK):Prop
 |mk (α:List (Option Addr)) (ds:List D) (st:af) (K:DK) (G F:Hp) (P:a8 G F H) (rx:ao α G ds xs) (S:aB α st G) (h:r ds st K) (k:LK α G F K Q):Dr r xs H Q
def cJ(r:b9):List V->Hp->VK->Prop:=Dr r
def aj(r:bx)(ta tb:DE):DE:=λ σ st K=>ta σ st λ x st1=>tb σ st1 λ y st2=>r x y st2 K
def ue(r:qY)(ta:DE):DE:=λ σ st K=>ta σ st λ x st1=>r x st1 K
theorem LE.op{r:bx}{σ:L2.St}{H:Hp}{Q:VK}(h:LE (aj r ta tb) σ H Q):v8 (LR r) (LE ta) (LE tb) σ H Q:=by
 obtain⟨α,σd,st,K,G,F,P,R,S,t,k⟩:=h;refine⟨α,σd,st,_,G,F,P,R,S,t,λ d st1 q α1 G1 H1 v s1 P1 S1 r1=>?_⟩;refine⟨α1,σd,st1,_,G1,F,P1,R.step s1,S1,q,λ d2 st2 q2 α2 G2 H2 v2 s2 P2 S2 r2=>?_⟩;exact⟨α2,d,d2,st2,K,G2,F,P2,r1.step s2,r2,S2,q2,(k.at s1).at s2⟩
theorem LE.un{r:qY}{σ:L2.St}{H:Hp}{Q:VK}(h:LE (ue r ta) σ H Q):Ft (zJ r) (LE ta) σ H Q:=by
 obtain⟨α,σd,st,K,G,F,P,R,S,t,k⟩:=h;refine⟨α,σd,st,_,G,F,P,R,S,t,λ d st1 q α1 G1 H1 v s1 P1 S1 r1=>?_⟩;exact⟨α1,d,st1,K,G1,F,P1,r1,S1,q,k.at s1⟩
theorem FU{op:Operator}{r:bx}(ho:aQ X (binaryOp op) (LR r))(ha:PE X a (LE ta))(hb:PE X b (LE tb)):PE X (.BinOp a op b pos) (LE (aj r ta tb)):=PE.imp (DW ho ha hb) λ _ _ _ h=>LE.op h
theorem F8{op:UnaryOp}{r:qY}(ho:uv X (unaryOp op) (zJ r))(ha:PE X a (LE ta)):PE X (.UnaryOp op a pos) (LE (ue r ta)):=PE.imp (ES ho ha) λ _ _ _ h=>LE.un h
theorem Ea{op:CmpOp}{r:bx}(ho:aQ X (compareOp op) (LR r))(ha:PE X a (LE ta))(hb:PE X b (LE tb))(hm:behindInMarks op b=false:=by first|exact aR _|rfl):PE X (.Compare a [op] [b] pos) (LE (aj r ta tb)):=PE.imp (Bd ho ha hb hm) λ _ _ _ h=>LE.op h
def aG(t:DE):DT:=λ σ st K=>t σ st λ d st1=>match d with| .bl b=>K b st1|_=>False
theorem LT.test{σ:L2.St}{H:Hp}{Q:Bool->Hp->Prop}(h:LT (aG te) σ H Q):LE te σ H λ x H'=>∃k,x= .bl k/\Q k H':=by
 obtain⟨α,σd,st,K,G,F,P,R,S,t,k⟩:=h;refine⟨α,σd,st,_,G,F,P,R,S,t,λ d st1 q α1 G1 H1 v s1 P1 S1 r1=>?_⟩;cases d with
 |bl b=>
  unfold Rep at r1;exact⟨b,r1,k b st1 q α1 G1 H1 s1 P1 S1⟩
 |_=>exact q.elim
theorem Dj{op:CmpOp}{r:bx}(ho:aQ X (compareOp op) (LR r))(ha:PE X a (LE ta))(hb:PE X b (LE tb))(hm:behindInMarks op b=false:=by first|exact aR _|rfl):PT X (.Compare a [op] [b] pos) (LT (aG (aj r ta tb))):=PT.imp (Ar ho ha hb hm) λ σ H Q h=>by
 have q:=LT.test h;exact LE.op (Q:=λ x H'=>∃k,x= .bl k/\Q k H') q
theorem CU(he:PE X e (LE te))(hv:∀whole,isTrue e X.env whole=(do let v <-whole;standAt e.pos;holding [v] (truthy v)):=by intro _;rfl):PT X e (LT (aG te)):=PT.imp (Dg he hv) λ σ H Q h=>LT.test h
def eE(t:DT):DT:=λ σ st K=>t σ st λ b st1=>K (!b) st1
def nu(t u:DT):DT:=λ σ st K=>t σ st λ b st1=>if b=true then u σ st1 K else K false st1
def gT(t u:DT):DT:=λ σ st K=>t σ st λ b st1=>if b=true then K true st1 else u σ st1 K
theorem BR{t:DT}(ha:PT X a (LT t)):PT X (.UnaryOp .Not a pos) (LT (eE t)):=PT.imp (B7 ha) λ σ H Q ⟨α,σd,st,K,G,F,P,R,S,t,k⟩=>
 ⟨α,σd,st,_,G,F,P,R,S,t,λ b st1 q α1 G1 H1 s1 P1 S1=>k _ st1 q α1 G1 H1 s1 P1 S1⟩
theorem LT.and{t u:DT}{σ:L2.St}{H:Hp}{Q:Bool->Hp->Prop}(h:LT (nu t u) σ H Q):Bv (LT t) (LT u) σ H Q:=by
 obtain⟨α,σd,st,K,G,F,P,R,S,t,k⟩:=h;refine⟨α,σd,st,_,G,F,P,R,S,t,λ b st1 q α1 G1 H1 s1 P1 S1=>?_⟩;cases b with
 |true=>exact⟨α1,σd,st1,K,G1,F,P1,R.step s1,S1,q,k.at s1⟩
 |false=>exact k _ st1 q α1 G1 H1 s1 P1 S1
theorem LT.or{t u:DT}{σ:L2.St}{H:Hp}{Q:Bool->Hp->Prop}(h:LT (gT t u) σ H Q):Ff (LT t) (LT u) σ H Q:=by
 obtain⟨α,σd,st,K,G,F,P,R,S,t,k⟩:=h;refine⟨α,σd,st,_,G,F,P,R,S,t,λ b st1 q α1 G1 H1 s1 P1 S1=>?_⟩;cases b with
 |false=>exact⟨α1,σd,st1,K,G1,F,P1,R.step s1,S1,q,k.at s1⟩
 |true=>exact k _ st1 q α1 G1 H1 s1 P1 S1
theorem AR{t:DT}(ha:PT X a (LT t)):PW X (.BoolOp .And [a] pos) (LT t):=pw_and1 ha
theorem C8{t:DT}(ha:PT X a (LT t)):PW X (.BoolOp .Or [a] pos) (LT t):=pw_or1 ha
theorem DR{t u:DT}(ha:PT X a (LT t))(hb:PW X (.BoolOp .And (b::es) pos) (LT u)):PW X (.BoolOp .And (a::b::es) pos) (LT (nu t u)):=PW.imp (pw_and ha hb) λ _ _ _ h=>LT.and h
theorem EX{t u:DT}(ha:PT X a (LT t))(hb:PW X (.BoolOp .Or (b::es) pos) (LT u)):PW X (.BoolOp .Or (a::b::es) pos) (LT (gT t u)):=PW.imp (pw_or ha hb) λ _ _ _ h=>LT.or h
def jo(ta tb:DE):DE:=λ σ st K=>ta σ st λ d st1=>match d with| .bl b=>if b=true then tb σ st1 K else K (.bl false) st1|_=>False
def rL(ta tb:DE):DE:=λ σ st K=>ta σ st λ d st1=>match d with| .bl b=>if b=true then K (.bl true) st1 else tb σ st1 K|_=>False
def vC(t:DT):DE:=λ σ st K=>t σ st λ b st1=>K (.bl (!b)) st1
theorem Eg{op:BoolOp}(ha:PE X a (LE ta)):PE X (.BoolOp op [a] pos) (LE ta):=Ck ha
theorem D3(ha:PE X a (LE ta))(hb:PE X (.BoolOp .And (b::es) pos) (LE tb)):PE X (.BoolOp .And (a::b::es) pos) (LE (jo ta tb)):=PE.imp (By ha hb) λ σ H Q ⟨α,σd,st,K,G,F,P,R,S,t,k⟩=>by
 refine⟨α,σd,st,_,G,F,P,R,S,t,λ d st1 q α1 G1 H1 v s1 P1 S1 r1=>?_⟩;cases d with
 |bl b=>
  unfold Rep at r1;refine⟨b,r1,?_⟩;cases b with
  |true=>exact⟨α1,σd,st1,K,G1,F,P1,R.step s1,S1,q,k.at s1⟩
  |false=>exact k _ st1 q α1 G1 H1 _ s1 P1 S1 (by unfold Rep;rfl)
 |_=>exact q.elim
theorem FP(ha:PE X a (LE ta))(hb:PE X (.BoolOp .Or (b::es) pos) (LE tb)):PE X (.BoolOp .Or (a::b::es) pos) (LE (rL ta tb)):=PE.imp (EH ha hb) λ σ H Q ⟨α,σd,st,K,G,F,P,R,S,t,k⟩=>by
 refine⟨α,σd,st,_,G,F,P,R,S,t,λ d st1 q α1 G1 H1 v s1 P1 S1 r1=>?_⟩;cases d with
 |bl b=>
  unfold Rep at r1;refine⟨b,r1,?_⟩;cases b with
  |false=>exact⟨α1,σd,st1,K,G1,F,P1,R.step s1,S1,q,k.at s1⟩
  |true=>exact k _ st1 q α1 G1 H1 _ s1 P1 S1 (by unfold Rep;rfl)
 |_=>exact q.elim
theorem E3(ha:PE X a (LE ta)):PE X (.UnaryOp .Not a pos) (LE (vC (aG ta))):=PE.imp (Dt ha) λ σ H Q ⟨α,σd,st,K,G,F,P,R,S,t,k⟩=>by
 refine⟨α,σd,st,_,G,F,P,R,S,t,λ d st1 q α1 G1 H1 v s1 P1 S1 r1=>?_⟩;cases d with
 |bl b=>
  unfold Rep at r1;exact⟨b,r1,k _ st1 q α1 G1 H1 _ s1 P1 S1 (by unfold Rep;rfl)⟩
 |_=>exact q.elim
def zk(t:DT)(ta tb:DE):DE:=λ σ st K=>t σ st λ b st1=>if b=true then ta σ st1 K else tb σ st1 K
theorem EU{t:DT}(hc:PT X c (LT t))(ha:PE X a (LE ta))(hb:PE X b (LE tb)):PE X (.IfExp c a b pos) (LE (zk t ta tb)):=PE.imp (yj hc ha hb) λ σ H Q ⟨α,σd,st,K,G,F,P,R,S,t,k⟩=>by
 refine⟨α,σd,st,_,G,F,P,R,S,t,λ b st1 q α1 G1 H1 s1 P1 S1=>?_⟩;cases b with
 |true=>exact⟨α1,σd,st1,K,G1,F,P1,R.step s1,S1,q,k.at s1⟩
 |false=>exact⟨α1,σd,st1,K,G1,F,P1,R.step s1,S1,q,k.at s1⟩
def ag:DA:=λ _ st K=>K [] st
def aa(ta:DE)(tr:DA):DA:=λ σ st K=>ta σ st λ x st1=>tr σ st1 λ xs st2=>K (x::xs) st2
theorem rF:PA X [] (LA ag):=PA.imp CL λ σ H Q ⟨α,σd,st,K,G,F,P,R,S,t,k⟩=>k [] st t α G H [] Step.refl P S (by unfold ao;rfl)
theorem oj{tr:DA}(ha:PE X e (LE te))(hr:PA X es (LA tr))(hs:starEach (e::es) X.env=(false,eval e X.env)::starEach es X.env:=by rfl):PA X (e::es) (LA (aa te tr)):=PA.imp (AO ha hr hs) λ σ H Q ⟨α,σd,st,K,G,F,P,R,S,t,k⟩=>by
 refine⟨α,σd,st,_,G,F,P,R,S,t,λ d st1 q α1 G1 H1 v s1 P1 S1 r1=>?_⟩;refine⟨α1,σd,st1,_,G1,F,P1,R.step s1,S1,q,λ ds st2 q2 α2 G2 H2 vs s2 P2 S2 r2=>?_⟩;exact k _ st2 q2 α2 G2 H2 (v::vs) (s1.trans s2) P2 S2 (by unfold ao;exact⟨v,vs,rfl,r1.step s2,r2⟩)
def bj(t:DA):DE:=λ σ st K=>t σ st λ ds st1=>ds.length<=sizeLine/\K (.tup ds) st1
def fJ(t:DA):DE:=λ σ st K=>t σ st λ ds st1=>ds.length<=sizeLine/\K (.lst ds) st1
def ou(t:DA):DE:=λ σ st K=>t σ st λ ds st1=>ds.length<=sizeLine/\K (.ref st1.length) (st1++[.lst ds])
theorem LK.tup{α:List (Option Addr)}{G F H:Hp}{K:DK}{Q:VK}{ds:List D}{vs:List V}{st:af}{p:Addr}(k:LK α G F K Q)(P:a8 G F H)(q:K (.tup ds) st)(S:aB α st G)(r:ao α G ds vs)(hp:H p=none):Q (.ref p) (upd H p (.tup vs)):=
 have hg:=(P.none hp).1
 k _ st q α _ _ _ (Step.laid hg) (P.laid hp) (S.laid hg) (by unfold Rep;exact⟨p,vs,rfl,S.ip hg,a9,r.step (Step.laid hg)⟩)
theorem LK.lst{α:List (Option Addr)}{G F H:Hp}{K:DK}{Q:VK}{ds:List D}{vs:List V}{st:af}{p:Addr}(k:LK α G F K Q)(P:a8 G F H)(q:K (.lst ds) st)(S:aB α st G)(r:ao α G ds vs)(hp:H p=none):Q (.ref p) (upd H p (.lst vs)):=
 have hg:=(P.none hp).1
 k _ st q α _ _ _ (Step.laid hg) (P.laid hp) (S.laid hg) (by unfold Rep;exact⟨p,vs,rfl,S.ip hg,.of a9,r.step (Step.laid hg)⟩)
theorem LK.new{α:List (Option Addr)}{G F H:Hp}{K:DK}{Q:VK}{ds:List D}{vs:List V}{st:af}{p:Addr}(k:LK α G F K Q)(P:a8 G F H)(q:K (.ref st.length) (st++[.lst ds]))(S:aB α st G)(r:ao α G ds vs)(hp:H p=none):Q (.ref p) (upd H p (.lst vs)):=
 have hg:=(P.none hp).1
 k _ _ q (α++[some p]) _ _ _ (Step.cell hg) (P.laid hp) (S.cell hg ⟨vs,a9,r.step (Step.cell hg)⟩) (by
  unfold Rep;refine .inr ⟨p,?_,rfl⟩;rw[HQ (by rw[S.len];exact G8 _),S.len,Nat.sub_self];rfl)
theorem DX{n:Nat}{t:DA}(h:PA X es (LA t)):PE X (.Tuple es n pos) (LE (bj t)):=PE.imp (BZ h) λ σ H Q ⟨α,σd,st,K,G,F,P,R,S,t,k⟩=>
 ⟨α,σd,st,_,G,F,P,R,S,t,λ ds st1 q α1 G1 H1 vs s1 P1 S1 r1=>⟨by rw[<-r1.length];exact q.1,λ p hp=>(k.at s1).tup P1 q.2 S1 r1 hp⟩⟩
theorem EI{t:DA}(h:PA X es (LA t)):PE X (.List es pos) (LE (fJ t)):=PE.imp (xH h) λ σ H Q ⟨α,σd,st,K,G,F,P,R,S,t,k⟩=>
 ⟨α,σd,st,_,G,F,P,R,S,t,λ ds st1 q α1 G1 H1 vs s1 P1 S1 r1=>⟨by rw[<-r1.length];exact q.1,λ p hp=>(k.at s1).lst P1 q.2 S1 r1 hp⟩⟩
theorem EZ{t:DA}(h:PA X es (LA t)):PE X (.List es pos) (LE (ou t)):=PE.imp (xH h) λ σ H Q ⟨α,σd,st,K,G,F,P,R,S,t,k⟩=>
 ⟨α,σd,st,_,G,F,P,R,S,t,λ ds st1 q α1 G1 H1 vs s1 P1 S1 r1=>⟨by rw[<-r1.length];exact q.1,λ p hp=>(k.at s1).new P1 q.2 S1 r1 hp⟩⟩
abbrev bC:=List D->af->DK->Prop
inductive Ci(T:bC)(vs:List V)(H:Hp)(Q:VK):Prop
 |mk (α:List (Option Addr)) (ds:List D) (st:af) (K:DK) (G F:Hp) (P:a8 G F H) (rx:ao α G ds vs) (S:aB α st G) (h:T ds st K) (k:LK α G F K Q):Ci T vs H Q
def hX(S:bC):Sp:=λ vs H Q _=>Ci S vs H Q
def ax(S:bC)(t:DA):DE:=λ σ st K=>t σ st λ ds st1=>S ds st1 K
theorem LE.call{S:bC}{t:DA}{σ:L2.St}{H:Hp}{Q:VK}(h:LE (ax S t) σ H Q):uI (hX S) [] E0 (LA t) σ H Q:=by
 obtain⟨α,σd,st,K,G,F,P,R,S,t,k⟩:=h;refine⟨α,σd,st,_,G,F,P,R,S,t,λ ds st1 q α1 G1 H1 vs s1 P1 S1 r1=>?_⟩;try dsimp only
 rw[HL];exact⟨α1,ds,st1,K,G1,F,P1,r1,S1,q,k.at s1⟩
theorem CN{S:bC}{k:Nat}{f:Addr}{fd:FuncData}{ps:List Str}{x:Str}{p:Pos}{t:DA}(F:cK X.prog X.w X.K X.mg X.base fA k f fd ps (hX S))(hr:bW k X.A)(hg:Gl X x)(hm:X.mg x=some (.ref f))(hk:PySem.W.keepIn X.K (.ref f)=true)(hb:Binds X.K fd ps [])
 (ha:PA X (e::es) (LA t)) (hdb:(x==("__debug__":Str))=false:=by decide) (he:starEach (e::es) X.env=(false,eval e X.env)::starEach es X.env:=by rfl) (hpl:(backTo pos (starEach es X.env)).any (·.1)=false:=by rfl):
 PE X (.Call (.Name x p) (e::es) [] pos) (LE (ax S t)):=PE.imp (Aj F hr hg hm hk hb .nil u7 ha hdb he hpl) λ _ _ _ h=>LE.call h
def aU(r:b9)(t:DA):DE:=λ σ st K=>t σ st λ ds st1=>r ds st1 K
theorem LE.cb{r:b9}{t:DA}{σ:L2.St}{H:Hp}{Q:VK}(h:LE (aU r t) σ H Q):Dh (cJ r) (LA t) σ H Q:=by
 obtain⟨α,σd,st,K,G,F,P,R,S,t,k⟩:=h;refine⟨α,σd,st,_,G,F,P,R,S,t,λ ds st1 q α1 G1 H1 vs s1 P1 S1 r1=>?_⟩;exact⟨α1,ds,st1,K,G1,F,P1,r1,S1,q,k.at s1⟩
end
section
variable {X:Cx}
theorem aQ.imp{f:Value->Value->Sem Value}{r r':R2}(h:aQ X f r)(k:∀x y H Q,r' x y H Q->r x y H Q):aQ X f r':=λ pins s σ H x y v u Q I rx ry q=>h pins s σ H x y v u Q I rx ry (k x y H Q q)
theorem aN.imp{f:Value}{r r':List V->Hp->VK->Prop}(h:aN X f r)(k:∀xs H Q,r' xs H Q->r xs H Q):aN X f r':=λ pins s σ H xs us Q I rs q=>h pins s σ H xs us Q I rs (k xs H Q q)
def nC(C:Int->Int->Prop)(g:Int->Int->D):bx:=λ x y st K=>match x,y with| .int i,.int j=>C i j/\K (g i j) st|_,_=>False
theorem f7{f:Value->Value->Sem Value}{C:Int->Int->Prop}{g:Int->Int->D}{g':Int->Int->V}(hg:∀i j α H,Rep α H (g i j) (g' i j))(h:aQ X f (rI C g')):aQ X f (LR (nC C g)):=aQ.imp h λ x y H Q ⟨α,d,e,st,K,G,F',P,r1,r2,S,q,k⟩=>by
 cases d<;>cases e<;>first
  |exact q.elim
  |(unfold Rep at r1 r2;exact⟨_,_,r1,r2,q.1,k.here P q.2 S (hg _ _ _ _)⟩)
abbrev T2:Int->Int->Prop:=λ _ _=>True
theorem nD{g:Int->Int->V}{f:Value->Value->Sem Value}(h:aQ X f (mW g)):aQ X f (rI T2 g):=aQ.imp h λ x y H Q ⟨i,j,e1,e2,_,q⟩=>⟨i,j,e1,e2,q⟩
abbrev zi:bx:=nC T2 λ i j=> .int (i-j)
abbrev vM:bx:=nC (λ _ j=>j≠0/\j.natAbs.log2<9000) λ i j=> .int (i.fdiv j)
abbrev zC:bx:=nC (λ _ j=>j≠0) λ i j=> .int (i.fmod j)
abbrev zc:bx:=nC yg λ i j=> .int (i^j.toNat)
abbrev BA:bx:=nC T2 λ i j=> .bl (decide (i<j))
abbrev Bw:bx:=nC T2 λ i j=> .bl (decide (i<=j))
abbrev B9:bx:=nC T2 λ i j=> .bl (decide (j<i))
abbrev C0:bx:=nC T2 λ i j=> .bl (decide (j<=i))
theorem EA:aQ X (binaryOp .Sub) (LR zi):=f7 (λ _ _ _ _=>by unfold Rep;rfl) (nD BE)
theorem C1:aQ X (binaryOp .FloorDiv) (LR vM):=f7 (λ _ _ _ _=>by unfold Rep;rfl) (zD λ i j _ _ _ _ _ hc q=>floordiv_int hc.1 q (.inl (PyProof.noPylong_of_log2 hc.2)))
theorem Eo:aQ X (binaryOp .Mod) (LR zC):=f7 (λ _ _ _ _=>by unfold Rep;rfl) z9
theorem Ez:aQ X (binaryOp .Pow) (LR zc):=f7 (λ _ _ _ _=>by unfold Rep;rfl) Dm
theorem F9:aQ X (compareOp .Lt) (LR BA):=f7 (λ _ _ _ _=>by unfold Rep;rfl) (nD EW)
theorem FF:aQ X (compareOp .LtE) (LR Bw):=f7 (λ _ _ _ _=>by unfold Rep;rfl) (nD DY)
theorem Gd:aQ X (compareOp .Gt) (LR B9):=f7 (λ _ _ _ _=>by unfold Rep;rfl) (nD Ek)
theorem F7:aQ X (compareOp .GtE) (LR C0):=f7 (λ _ _ _ _=>by unfold Rep;rfl) (nD Ew)
def zm:qY:=λ x st K=>match x with| .int i=>K (.int (-i)) st|_=>False
theorem E1:uv X (unaryOp .USub) (zJ zm):=λ pins s σ H x v Q I rx ⟨α,d,st,K,G,F',P,r,S,q,k⟩=>by
 cases d<;>first
  |exact q.elim
  |(unfold Rep at r;exact Cn pins s σ H x v Q I rx ⟨_,r,k.here P q S (by unfold Rep;rfl)⟩)
theorem Inv.n6{pins:List (Addr×Obj)}{σ:L2.St}{H:Hp}{s:Shared}{l:Addr}{xs:List V}(I:Inv X pins σ H s)(h:Rd H l (.lst xs)):
 xs.length<=sizeLine/\∃(its:List Value) (n:Nat),Vals xs its/\xs.length=its.length/\s.heap.get? l=some {cls:= .type "list",data:= .seq its.toArray n}:=by
 obtain⟨z,its,n,r,e⟩:=h.ok I.aF;exact⟨z,its,n,r,r.length,e⟩
theorem dG{G F H:Hp}(P:a8 G F H){a:Addr}{u:HO}(h:Rd G a u):Rd H a u:=by
 rcases h with h|⟨o,h⟩
 . exact .inl (P.get h)
 . exact .inr ⟨o,P.get h⟩
theorem Ak:aQ X (binaryOp .Add) (λ x y H Q=>∃l b xs zs,x= .ref l/\y= .ref b/\Rd H l (.lst xs)/\Rd H b (.lst zs)/\xs.length+zs.length<=sizeLine/\∀p,H p=none->Q (.ref p) (upd H p (.lst (xs++zs)))):=by
 intro pins s σ H x y v u Q I rx ry h;obtain⟨l,b,xs,zs,rfl,rfl,hH,hB,hz,q⟩:=h;cases rx;cases ry;obtain⟨z,its,n,r,hl,e⟩:=Inv.n6 I hH;obtain⟨z2,its2,n2,r2,hl2,e2⟩:=Inv.n6 I hB;refine PySem.P.add_list e e2 ?_ (by rw[Hf,Hf];omega);have ea:its.toArray++its2.toArray=(its++its2).toArray:=by simp
 rw[ea];exact⟨.ref _,_,I.yo (t':=s.toks) (r.append r2) (by rw[GX];omega),rfl,q _ I.fresh⟩
theorem AE:aQ X (binaryOp .Mult) (λ x y H Q=>∃l k xs,x= .ref l/\y= .int k/\Rd H l (.lst xs)/\ -(2^63)<=k/\k<2^63/\xs.length*k.toNat<=sizeLine/\
 ∀p,H p=none->Q (.ref p) (upd H p (.lst (List.replicate k.toNat xs).flatten))):=by
 intro pins s σ H x y v u Q I rx ry h;obtain⟨l,k,xs,rfl,rfl,hH,h1,h2,hz,q⟩:=h;cases rx;obtain⟨t,rfl⟩:=ry;obtain⟨z,its,n,r,hl,e⟩:=Inv.n6 I hH;have hlen:its.toArray.size*k.toNat<=sizeLine:=by rw[Hf,<-hl];exact hz
 have hcap:¬its.toArray.size*k.toNat>(2^63-1)/8:=by
  have:(sizeLine:Nat)<=(2^63-1)/8:=by decide
  omega
 have hfit:¬(!Builtin.List.listFitsIndex k)=true:=by
  rw[fitsIndex_both h1 h2];exact Hj
 have hlong:¬Builtin.List.listTooLong (its.toArray.size*k.toNat)=true:=by
  rw[yI hlen];exact Hj
 have hnew:List.foldl (λ x1 x2=>x1++x2) #[] (List.replicate (if its.toArray.isEmpty=true then 0 else k.toNat) its.toArray)=(List.replicate k.toNat its).flatten.toArray:=by
  have f0:∀m:Nat,List.foldl (λ x1 x2=>x1++x2) #[] (List.replicate m its.toArray)=(List.replicate m its).flatten.toArray:=λ m=>by
   have:=foldl_rep its m [];rw[JK]at this;exact this
  rw[f0];cases its with
  |nil=>simp
  |cons a r'=>rw[Hi (by simp)]
 refine Kj (T:="list") (U:="int") (by decide) ⟨_,e,rfl⟩ (λ s'=>Ki s' k t) noFill_list_mul F.fills_int_mul JL repeat_list F.slot_int_index.lookup
  (Ir JL (Ki s k t) F.entry_int_rmul (F.args_int_rmul_2 _ _) (int___rmul___int_list k t l its.toArray n)
    ⟨e,rfl,⟨_,e,rfl⟩,Ir F.slot_list_mul ⟨_,e,rfl⟩ F.entry_list_mul (F.args_list_mul_2 _ _) (AutoListH.list___mul___list_int_3 l its.toArray n k t hfit hcap hlong) ⟨e,?_⟩⟩)
 rw[hnew];exact⟨.ref _,_,I.yo (t':=s.toks) (r.rep k.toNat) (by rw[len_rep,K0];exact hz),rfl,q _ I.fresh⟩
theorem yE:aQ X (binaryOp .Add) (λ x y H Q=>∃a b xs ys,x= .ref a/\y= .ref b/\H a=some (.tup xs)/\H b=some (.tup ys)/\xs.length+ys.length<=sizeLine/\
 (xs=[]->Q (.ref b) H)/\(xs≠ []->ys=[]->Q (.ref a) H)/\(xs≠ []->ys≠ []->∀p,H p=none->Q (.ref p) (upd H p (.tup (xs++ys))))):=by
 intro pins s σ H x y v u Q I rx ry h;obtain⟨a,b,xs,ys,rfl,rfl,ha,hb,hz,q0,q1,q2⟩:=h;by_cases hx:xs=[]
 . cases rx;cases ry;obtain⟨its,r1,p1,_⟩:=I.tuple (.of ha);obtain⟨its2,r2,p2,_⟩:=I.tuple (.of hb);obtain⟨⟨cls,dd,data,sl⟩,ho,hc,n,hd⟩:=id p1;obtain⟨⟨cls2,dd2,data2,sl2⟩,ho2,hc2,n2,hd2⟩:=id p2;simp only at hc hd hc2 hd2;subst hc hd hc2 hd2;have hi:its=[]:=(L2.Vals.lq r1).mpr hx
   exact KZ ⟨_,ho,rfl⟩ ⟨_,ho2,rfl⟩ Km KS Js Jn (Jh _ _)
    (tuple_addW0 a b its.toArray its2.toArray n n2 dd dd2 sl sl2 (by simp[hi])) ⟨ho,ho2,⟨.ref b,H,I,rfl,q0 hx⟩⟩
 . exact Ao pins s σ H _ _ v u Q I rx ry ⟨a,b,xs,ys,rfl,rfl,.of ha,.of hb,hx,hz,q1 hx,q2 hx⟩
theorem oq:fillsNumberSlot (.type "tuple") "mul"=pure false:=
 PySem.fillsNumberSlot_seq (id:="tuple.__mul__") (r:=some (.builtin "tuple.__rmul__")) Ja.lookup (by decide+kernel) F.slot_tuple_rmul.lookup (by decide+kernel)
theorem uY:seqRepeat? (.type "tuple")=pure (some (.builtin "tuple.__mul__")):=by
 unfold seqRepeat?;rw[PySem.seqSlot_of (T:="tuple") (name:="__mul__") (id:="tuple.__mul__") Ja.lookup (by decide+kernel),PySem.seqSlot_of (T:="tuple") (name:="__rmul__") (id:="tuple.__rmul__") F.slot_tuple_rmul.lookup (by decide+kernel)];rfl
theorem rl(a:Int)(t:Tok)(l:Addr)(its:Array Value)(n:Nat)(dd:Option Addr)(sl:Array (Option Value)):Meets (Builtin.«int.__rmul__» ⟨[.int a t,.ref l],[]⟩) (λ _ R s=>s.heap.get? l=some {cls:= .type "tuple",dict:=dd,data:= .seq its n,slots:=sl}/\R (.ok (.ret Value.notImplemented)) s):=
 .of_wp λ P w A R s h=>by
  obtain⟨hp,g,d,tk,os⟩:=s;obtain⟨hl,h⟩:=h
  wp_walk
  exact⟨_,rfl,h⟩
theorem qG(l:Addr)(its:Array Value)(n:Nat)(dd:Option Addr)(sl:Array (Option Value))(x:Int)(u:Tok)(h0:(decide (x< -(2^63))||decide (x>=2^63))=false)(h1:(its.isEmpty||x==1)=true):
 Meets (Builtin.«tuple.__mul__» ⟨[.ref l,.int x u],[]⟩) (λ _ R s=>s.heap.get? l=some {cls:= .type "tuple",dict:=dd,data:= .seq its n,slots:=sl}/\R (.ok (.ret (.ref l))) s):=
 .of_wp λ P w A R s h=>by
  obtain⟨hp,g,d,tk,os⟩:=s;obtain⟨hl,h⟩:=h
  wp_walk
  refine JM (by rw[h0];rfl) ?_
  wp_walk
  exact⟨_,rfl,h⟩
theorem qt(l:Addr)(its:Array Value)(n:Nat)(dd:Option Addr)(sl:Array (Option Value))(x:Int)(u:Tok)(h0:(decide (x< -(2^63))||decide (x>=2^63))=false)(h1:(its.isEmpty||x==1)=false)(h2:(decide (x<=0)||its.isEmpty)=true):
 Meets (Builtin.«tuple.__mul__» ⟨[.ref l,.int x u],[]⟩) (λ _ R s=>s.heap.get? l=some {cls:= .type "tuple",dict:=dd,data:= .seq its n,slots:=sl}/\R (.ok (.ret (.ref s.heap.objs.size))) {s with heap:=s.heap.push {cls:= .type "tuple",data:= .seq #[]}}):=
 .of_wp λ P w A R s h=>by
  obtain⟨hp,g,d,tk,os⟩:=s;obtain⟨hl,h⟩:=h
  wp_walk
  refine JM (by rw[h0];rfl) ?_
  wp_walk
  exact⟨_,rfl,h⟩
theorem rA(l:Addr)(its:Array Value)(n:Nat)(dd:Option Addr)(sl:Array (Option Value))(x:Int)(u:Tok)(h0:(decide (x< -(2^63))||decide (x>=2^63))=false)(h1:(its.isEmpty||x==1)=false)(h2:(decide (x<=0)||its.isEmpty)=false)(h3:¬((its.size:Int)*x>(2^63-1)/8))(h4:Builtin.Tuple.tupleTooMany (its.size*x)=false)
 (hz:(List.foldl (λ x1 x2=>x1++x2) #[] (List.replicate x.toNat its)).size<=sizeLine):
 Meets (Builtin.«tuple.__mul__» ⟨[.ref l,.int x u],[]⟩) (λ _ R s=>s.heap.get? l=some {cls:= .type "tuple",dict:=dd,data:= .seq its n,slots:=sl}/\R (.ok (.ret (.ref s.heap.objs.size))) {s with heap:=s.heap.push {cls:= .type "tuple",data:= .seq (List.foldl (λ x1 x2=>x1++x2) #[] (List.replicate x.toNat its))}}):=
 .of_wp λ P w A R s h=>by
  obtain⟨hp,g,d,tk,os⟩:=s;obtain⟨hl,h⟩:=h
  wp_walk
  refine JM (by rw[h0];rfl) ?_
  wp_walk
  refine JM (Hc h3) ?_
  wp_walk
  exact⟨_,rfl,h⟩
theorem Bq:aQ X (binaryOp .Mult) (λ x y H Q=>∃l k xs,x= .ref l/\y= .int k/\H l=some (.tup xs)/\ -(2^63)<=k/\k<2^63/\xs.length*k.toNat<=sizeLine/\
 ((xs=[]\/k=1)->Q (.ref l) H)/\(¬(xs=[]\/k=1)->∀p,H p=none->Q (.ref p) (upd H p (.tup (List.replicate k.toNat xs).flatten)))):=by
 intro pins s σ H x y v u Q I rx ry h;obtain⟨l,k,xs,rfl,rfl,hH,h1,h2,hz,q1,q2⟩:=h;cases rx;obtain⟨t,rfl⟩:=ry;obtain⟨its,r,p1,_⟩:=I.tuple (.of hH);obtain⟨⟨cls,dd,data,sl⟩,ho,hc,n,hd⟩:=id p1;simp only at hc hd;subst hc hd;have hl:xs.length=its.length:=r.length
 have f0:(decide (k< -(2^63))||decide (k>=2^63))=false:=by
  rw[Hc (by omega),Hc (by omega)];rfl
 refine Kj (T:="tuple") (U:="int") (by decide) ⟨_,ho,rfl⟩ (λ s'=>Ki s' k t) oq F.fills_int_mul JL uY F.slot_int_index.lookup
  (Ir JL (Ki s k t) F.entry_int_rmul (F.args_int_rmul_2 _ _) (rl k t l its.toArray n dd sl) ⟨ho,rfl,⟨_,ho,rfl⟩,?_⟩)
 by_cases hs:xs=[]\/k=1
 . have f1:(its.toArray.isEmpty||k==1)=true:=by
    rcases hs with z|z
    . have:its=[]:=Ie.mp (by rw[<-hl,z];rfl);rw[this];rfl
    . rw[z];simp
   exact Ir Ja ⟨_,ho,rfl⟩ Ke (J3 _ _) (qG l its.toArray n dd sl k t f0 f1) ⟨ho,⟨.ref l,H,I,rfl,q1 hs⟩⟩
 . have hne:its≠ []:=λ z=>hs (.inl (Ie.mp (by rw[hl,z];rfl)));have hk1:k≠1:=λ z=>hs (.inr z);have e1:its.toArray.isEmpty=false:=by simpa using hne
   have f1:(its.toArray.isEmpty||k==1)=false:=by rw[e1];simpa using hk1
   have new:∀(us:List Value) (ys:List V),Vals ys us->ys.length<=sizeLine->Inv X pins σ (upd H s.heap.objs.size (.tup ys)) {s with heap:=s.heap.push {cls:= .type "tuple",data:= .seq us.toArray}}:=λ us ys hv hy=>
    I.laid (t':=s.toks) (λ _ _ q=>GY _ q) (G8 _) ⟨hy,us,hv,⟨_,Hq _ rfl,rfl,_,rfl⟩⟩
   by_cases h0:k<=0
   . have f2:(decide (k<=0)||its.toArray.isEmpty)=true:=by rw[Hr h0];rfl
     refine Ir Ja ⟨_,ho,rfl⟩ Ke (J3 _ _) (qt l its.toArray n dd sl k t f0 f1 f2) ⟨ho,?_⟩;have ez:k.toNat=0:=by omega
     rw[ez]at q2;exact⟨.ref _,_,new [] [] .nil (IS _),rfl,q2 hs _ I.fresh⟩
   . have f2:(decide (k<=0)||its.toArray.isEmpty)=false:=by rw[Hc h0,e1];rfl
     have hk:(k.toNat:Int)=k:=by omega
     have hlen:its.toArray.size*k.toNat<=sizeLine:=by rw[Hf,<-hl];exact hz
     have hsz:((its.toArray.size:Nat):Int)*k<=(sizeLine:Int):=by
      rw[<-hk]
      exact_mod_cast hlen
     have f3:¬(((its.toArray.size:Nat):Int)*k>(2^63-1)/8):=by
      have:((sizeLine:Nat):Int)<=(2^63-1)/8:=by decide
      omega
     have f4:Builtin.Tuple.tupleTooMany (((its.toArray.size:Nat):Int)*k)=false:=by
      unfold Builtin.Tuple.tupleTooMany;exact Hc (by omega)
     have hnew:List.foldl (λ x1 x2=>x1++x2) #[] (List.replicate k.toNat its.toArray)=(List.replicate k.toNat its).flatten.toArray:=by
      have:=foldl_rep its k.toNat [];rw[JK]at this;exact this
     have hfl:(List.replicate k.toNat its).flatten.length=its.length*k.toNat:=by rw[len_rep,K0]
     refine Ir Ja ⟨_,ho,rfl⟩ Ke (J3 _ _) (rA l its.toArray n dd sl k t f0 f1 f2 f3 f4 (by rw[hnew,Hf,hfl];exact hlen)) ⟨ho,?_⟩;rw[hnew];exact⟨.ref _,_,new _ _ (r.rep k.toNat) (by rw[len_rep,K0];exact hz),rfl,q2 hs _ I.fresh⟩
def y_:bx:=λ x y st K=>match x,y with
 | .int i,.int j=>K (.int (i+j)) st
 | .tup xs,.tup ys=>xs.length+ys.length<=sizeLine/\K (.tup (xs++ys)) st
 | .lst xs,.lst ys=>xs.length+ys.length<=sizeLine/\K (.lst (xs++ys)) st
 | .str x,.str y=>x.length+y.length<=sizeLine/\K (.str (x++y)) st
 |_,_=>False
theorem EN:aQ X (binaryOp .Add) (LR y_):=λ pins s σ H x y v u Q I rx ry ⟨α,d,e,st,K,G,F',P,r1,r2,S,q,k⟩=>by
 cases d<;>cases e<;>try exact q.elim
 . unfold Rep at r1 r2;exact CI pins s σ H x y v u Q I rx ry ⟨_,_,r1,r2,k.here P q S (by unfold Rep;rfl)⟩
 . unfold Rep at r1 r2;exact uK pins s σ H x y v u Q I rx ry ⟨_,_,r1,r2,q.1,k.here P q.2 S (by unfold Rep;rfl)⟩
 . unfold Rep at r1 r2;obtain⟨a,vs,rfl,na,ha,ra⟩:=r1;obtain⟨b,ws,rfl,nb,hb,rb⟩:=r2;refine Ak pins s σ H _ _ v u Q I rx ry ⟨a,b,vs,ws,rfl,rfl,dG P ha,dG P hb,by rw[<-ra.length,<-rb.length];exact q.1,λ p hp=>?_⟩;exact k.lst P q.2 S (aV.mpr (cM (aV.mp ra) (aV.mp rb))) hp
 . rename_i xs ys;unfold Rep at r1 r2;obtain⟨a,vs,rfl,na,ha,ra⟩:=r1;obtain⟨b,ws,rfl,nb,hb,rb⟩:=r2;have hl1:=ra.length;have hl2:=rb.length;refine yE pins s σ H _ _ v u Q I rx ry ⟨a,b,vs,ws,rfl,rfl,P.get ha,P.get hb,by rw[<-hl1,<-hl2];exact q.1,λ z=>?_,λ _ z=>?_,λ _ _ p hp=>?_⟩
   . refine k.here P q.2 S ?_;unfold Rep;have:xs=[]:=by rw[z]at hl1;exact Ie.mp hl1
     subst this;exact⟨b,ws,rfl,nb,hb,rb⟩
   . refine k.here P q.2 S ?_;unfold Rep;have:ys=[]:=by rw[z]at hl2;exact Ie.mp hl2
     subst this;rw[HL];exact⟨a,vs,rfl,na,ha,ra⟩
   . exact k.tup P q.2 S (aV.mpr (cM (aV.mp ra) (aV.mp rb))) hp
def zy:bx:=λ x y st K=>match x,y with
 | .int i,.int j=>IntMulOk i j/\K (.int (i*j)) st
 | .lst xs,.int k=>(-(2^63)<=k/\k<2^63/\xs.length*k.toNat<=sizeLine)/\K (.lst (List.replicate k.toNat xs).flatten) st
 | .tup xs,.int k=>(-(2^63)<=k/\k<2^63/\xs.length*k.toNat<=sizeLine)/\K (.tup (List.replicate k.toNat xs).flatten) st
 |_,_=>False
theorem El:aQ X (binaryOp .Mult) (LR zy):=λ pins s σ H x y v u Q I rx ry ⟨α,d,e,st,K,G,F',P,r1,r2,S,q,k⟩=>by
 cases d<;>cases e<;>try exact q.elim
 . unfold Rep at r1 r2;have h:aQ X (binaryOp .Mult) (rI IntMulOk λ i j=> .int (i*j)):=zD λ _ _ _ _ _ _ _ hc q=>mul_int q hc;exact h pins s σ H x y v u Q I rx ry ⟨_,_,r1,r2,q.1,k.here P q.2 S (by unfold Rep;rfl)⟩
 . unfold Rep at r1 r2;obtain⟨a,vs,rfl,na,ha,ra⟩:=r1;refine AE pins s σ H _ _ v u Q I rx ry ⟨a,_,vs,rfl,r2,dG P ha,q.1.1,q.1.2.1,by rw[<-ra.length];exact q.1.2.2,λ p hp=>?_⟩;exact k.lst P q.2 S (aV.mpr (iM (aV.mp ra) _)) hp
 . rename_i xs m;have r1':=r1;unfold Rep at r1 r2;obtain⟨a,vs,rfl,na,ha,ra⟩:=r1;refine Bq pins s σ H _ _ v u Q I rx ry ⟨a,_,vs,rfl,r2,P.get ha,q.1.1,q.1.2.1,by rw[<-ra.length];exact q.1.2.2,λ hs=>?_,λ _ p hp=>k.tup P q.2 S (aV.mpr (iM (aV.mp ra) _)) hp⟩
   have e:(List.replicate m.toNat xs).flatten=xs:=by
    rcases hs with z|z
    . have:xs=[]:=Ie.mp (by rw[ra.length,z];rfl);rw[this];simp
    . rw[z];simp
   have q2:=q.2;rw[e]at q2;exact k.here P q2 S r1'
def live(st:af):D->Bool
 | .ref n=>(match st[n]? with|some (.lst _)=>true|some (.ins _ _)=>true|_=>false)
 |_=>true
def jk:bx:=λ x y st K=>match y with
 | .int i=>(match x with
   | .lst xs=>(match cR xs i with|some d=>K d st|none=>False)
   | .tup xs=>(match cR xs i with|some d=>K d st|none=>False)
   | .ref n=>(match st[n]? with|some (.lst xs)=>(match cR xs i with|some d=>K d st|none=>False)|_=>False)
   |_=>False)
 |_=>False
theorem ao.cR{α:List (Option Addr)}{H:Hp}{ds:List D}{vs:List V}{i:Int}{d:D}(h:ao α H ds vs)(e:L2.cR ds i=some d):∃v,L2.cR vs i=some v/\Rep α H d v:=by
 unfold L2.cR at e⊢;rw[<-h.length];cases q:ki ds.length i with
 |none=>rw[q]at e;cases e
 |some j=>rw[q]at e;exact h.get e
theorem FK:oP X (LR jk):=λ value slice pins s σ H x y v u Q I rx ry ⟨α,d,e,st,K,G,F',P,r1,r2,S,q,k⟩ hs=>by
 cases e<;>try exact q.elim
 unfold Rep at r2;cases d<;>try exact q.elim
 . rename_i i n;unfold jk at q;simp only at q;split at q
   . split at q
     . rename_i xs e1 _ d' e2;obtain⟨a,ea,vs,hv,rv⟩:=S.fi e1;have r1':=ee ea r1;subst r1';obtain⟨z,ez,rz⟩:=rv.cR e2;exact tV value slice pins s σ H _ _ v u Q I rx ry ⟨a,vs,_,z,rfl,r2,.of (P.get hv),ez,k.here P q S rz⟩ hs
     . exact q.elim
   . exact q.elim
 . unfold jk at q;simp only at q;split at q
   . rename_i xs d' e2;unfold Rep at r1;obtain⟨a,vs,rfl,na,ha,ra⟩:=r1;obtain⟨z,ez,rz⟩:=ra.cR e2;exact tV value slice pins s σ H _ _ v u Q I rx ry ⟨a,vs,_,z,rfl,r2,.inl (dG P ha),ez,k.here P q S rz⟩ hs
   . exact q.elim
 . unfold jk at q;simp only at q;split at q
   . rename_i xs d' e2;unfold Rep at r1;obtain⟨a,vs,rfl,na,ha,ra⟩:=r1;obtain⟨z,ez,rz⟩:=ra.cR e2;exact CQ value slice pins s σ H _ _ v u Q I rx ry ⟨a,vs,_,z,rfl,r2,.of (P.get ha),ez,k.here P q S rz⟩ hs
   . exact q.elim
theorem FR{a b:Expr}{ta tb:DE}{pos:Pos}(ha:PE X a (LE ta))(hb:PE X b (LE tb))(hs:gC b:=by intro _ _;rfl):PE X (.Subscript a b pos) (LE (aj jk ta tb)):=PE.imp (uQ FK ha hb hs) λ _ _ _ h=>LE.op h
def items?(st:af):D->Option (List D)
 | .lst xs=>some xs
 | .tup xs=>some xs
 | .ref n=>(match st[n]? with|some (.lst xs)=>some xs|_=>none)
 |_=>none
@[simp] theorem Fc(st:af)(xs:List D):items? st (.lst xs)=some xs:=rfl
@[simp] theorem Fb(st:af)(xs:List D):items? st (.tup xs)=some xs:=rfl
@[simp] theorem items_int(st:af)(i:Int):items? st (.int i)=none:=rfl
@[simp] theorem FN(st:af)(i:Bool):items? st (.bl i)=none:=rfl
@[simp] theorem items_str(st:af)(i:Str):items? st (.str i)=none:=rfl
@[simp] theorem Fq(st:af):items? st .aH=none:=rfl
theorem eR{st:af}{n:Nat}{xs:List D}(h:st[n]?=some (.lst xs)):items? st (.ref n)=some xs:=by unfold items?;simp only[h]
theorem pj{α:List (Option Addr)}{H:Hp}{st:af}{d:D}{v:V}{xs:List D}(S:aB α st H)(r:Rep α H d v)(e:items? st d=some xs):
 ∃p vs,v= .ref p/\ao α H xs vs/\(Rd H p (.lst vs)\/H p=some (.tup vs)):=by
 cases d<;>try(cases e;done)
 . unfold items? at e;simp only at e;split at e
   . rename_i ys q;cases e;obtain⟨a,ea,vs,h1,h2⟩:=S.fi q;have r':=ee ea r;subst r';exact⟨a,vs,rfl,h2,.inl (.of h1)⟩
   . cases e
 . cases e;unfold Rep at r;obtain⟨a,vs,rfl,_,h1,h2⟩:=r;exact⟨a,vs,rfl,h2,.inl h1⟩
 . cases e;unfold Rep at r;obtain⟨a,vs,rfl,_,h1,h2⟩:=r;exact⟨a,vs,rfl,h2,.inr h1⟩
theorem EJ{K:PySem.W.Frag}{G F H:Hp}(P:a8 G F H){p:Addr}{vs:List V}(h:Rd G p (.lst vs)\/G p=some (.tup vs)):fz K H p vs\/cZ K H p vs:=h.elim (λ z=> .inl (.inl (dG P z))) λ z=> .inr (.of (P.get z))
theorem da{α:List (Option Addr)}{H:Hp}{ds:List D}{xs:List V}{d:D}(r:ao α H ds xs)(e:ds=[d]):∃v,xs=[v]/\Rep α H d v:=by
 subst e;unfold ao at r;obtain⟨v,q,rfl,h1,h2⟩:=r;unfold ao at h2;subst h2;exact⟨v,rfl,h1⟩
theorem kO{α:List (Option Addr)}{H:Hp}{ds:List D}{xs:List V}{d e:D}(r:ao α H ds xs)(q:ds=[d,e]):∃v u,xs=[v,u]/\Rep α H d v/\Rep α H e u:=by
 subst q;unfold ao at r;obtain⟨v,q,rfl,h1,h2⟩:=r;obtain⟨u,rfl,h3⟩:=da h2 rfl;exact⟨v,u,rfl,h1,h3⟩
def mX:b9:=λ ds st K=>match ds with
 | [.str x]=>x.length<=sizeLine/\K (.int x.length) st
 | [d]=>(match items? st d with|some xs=>K (.int xs.length) st|none=>False)
 |_=>False
theorem D6:aN X (.builtin "len") (cJ mX):=λ pins s σ H xs us Q I rs ⟨α,ds,st,K,G,F',P,r,S,q,k⟩=>by
 unfold mX at q;split at q
 . rename_i x;obtain⟨v,rfl,r1⟩:=da r rfl;unfold Rep at r1;subst r1;exact rf pins s σ H _ us Q I rs ⟨x,rfl,q.1,k.here P q.2 S (by unfold Rep;rfl)⟩
 . rename_i d _;split at q
   . rename_i ys e;obtain⟨v,rfl,r1⟩:=da r rfl;obtain⟨p,vs,rfl,r2,h⟩:=pj S r1 e;refine kg pins s σ H _ us Q I rs ⟨p,vs,rfl,EJ P h,k.here P q S (by unfold Rep;rw[r2.length])⟩
   . exact q.elim
 . exact q.elim
def Fe(g:Int->Int):b9:=λ ds st K=>match ds with| [.int i]=>K (.int (g i)) st|_=>False
abbrev uA:b9:=Fe λ i=>if i<0 then-i else i
theorem E_:aN X (.builtin "abs") (cJ uA):=aN.imp ye λ xs H Q ⟨α,ds,st,K,G,F',P,r,S,q,k⟩=>by
 unfold uA Fe at q;split at q
 . obtain⟨v,rfl,r1⟩:=da r rfl;unfold Rep at r1;subst r1;exact⟨_,rfl,k.here P q S (by unfold Rep;rfl)⟩
 . exact q.elim
def u6(g:Int->Int->Int):b9:=λ ds st K=>match ds with| [.int i,.int j]=>K (.int (g i j)) st|_=>False
abbrev vL:b9:=u6 λ i j=>if j>i then j else i
abbrev vj:b9:=u6 λ i j=>if j<i then j else i
theorem EL(hc:X.calm=true):aN X (.builtin "max") (cJ vL):=aN.imp (w6 hc) λ xs H Q ⟨α,ds,st,K,G,F',P,r,S,q,k⟩=>by
 unfold vL u6 at q;split at q
 . obtain⟨v,u,rfl,r1,r2⟩:=kO r rfl;unfold Rep at r1 r2;subst r1 r2;exact⟨_,_,rfl,k.here P q S (by unfold Rep;rfl)⟩
 . exact q.elim
theorem EB(hc:X.calm=true):aN X (.builtin "min") (cJ vj):=aN.imp (vT hc) λ xs H Q ⟨α,ds,st,K,G,F',P,r,S,q,k⟩=>by
 unfold vj u6 at q;split at q
 . obtain⟨v,u,rfl,r1,r2⟩:=kO r rfl;unfold Rep at r1 r2;subst r1 r2;exact⟨_,_,rfl,k.here P q S (by unfold Rep;rfl)⟩
 . exact q.elim
def ve:b9:=λ ds st K=>match ds with| [.int i]=>K (.int i) st| [.bl b]=>K (.int (if b then 1 else 0)) st|_=>False
theorem Em:aN X (.type "int") (cJ ve):=aN.imp xa λ xs H Q ⟨α,ds,st,K,G,F',P,r,S,q,k⟩=>by
 unfold ve at q;split at q
 . obtain⟨v,rfl,r1⟩:=da r rfl;unfold Rep at r1;subst r1;exact .inl ⟨_,rfl,k.here P q S (by unfold Rep;rfl)⟩
 . obtain⟨v,rfl,r1⟩:=da r rfl;unfold Rep at r1;subst r1;exact .inr ⟨_,rfl,k.here P q S (by unfold Rep;rfl)⟩
 . exact q.elim
def k7:b9:=λ ds st K=>match ds with| [d]=>(match items? st d with|some xs=>K (.tup xs) st|none=>False)|_=>False
theorem Bn:aN X (.type "tuple") (cJ k7):=aN.imp pP λ xs H Q ⟨α,ds,st,K,G,F',P,r,S,q,k⟩=>by
 unfold k7 at q;split at q
 . rename_i d;split at q
   . rename_i ys e;obtain⟨v,rfl,r1⟩:=da r rfl;cases d with
     |tup zs=>
      cases e;have r0:=r1;unfold Rep at r1;obtain⟨a,vs,rfl,na,h1,h2⟩:=r1;exact⟨a,vs,rfl,.inr ⟨.of (P.get h1),k.here P q S r0⟩⟩
     |_=>
      obtain⟨p,vs,rfl,r2,h⟩:=pj S r1 e;refine⟨p,vs,rfl,?_⟩;rcases h with h|h
      . exact .inl ⟨.inl (dG P h),λ l hl=>k.tup P q S r2 hl⟩
      . first
         |(cases e;done)
         |(exfalso
           unfold items? at e;simp only at e
           first
            |(split at e
              . rename_i z;obtain⟨a,ea,vs',h1,h2⟩:=S.fi z;have e':=ee ea r1;cases e';rw[h]at h1;cases h1
              . cases e)
            |(unfold Rep at r1
              obtain⟨a,vs',e',_,h1,_⟩:=r1;cases e';rcases h1 with h1|⟨o,h1⟩<;>(rw[h]at h1;cases h1)))
   . exact q.elim
 . exact q.elim
def cS:List D->Option (List Bool)
 | []=>some []
 | .bl b::r=>(cS r).map (b:: ·)
 |_::_=>none
theorem jB{α:List (Option Addr)}{H:Hp}:∀ {ds:List D} {vs:List V} {bs:List Bool},ao α H ds vs->cS ds=some bs->vs=bs.map V.bl
 | [],vs,bs,r,e=>by
   unfold ao at r;cases e;exact r
 |d::ds,vs,bs,r,e=>by
  unfold ao at r;obtain⟨v,q,rfl,h1,h2⟩:=r;cases d<;>try(cases e;done)
  unfold cS at e;cases z:cS ds with
  |none=>rw[z]at e;cases e
  |some cs=>
   rw[z]at e;cases e;unfold Rep at h1;rw[h1,jB h2 z];rfl
theorem ji:∀ {bs:List Bool} {us:List Value},Vals (bs.map V.bl) us->us=bs.map Value.bool
 | [],_,.nil=>rfl
 |b::bs,_,.cons h t=>by
  have h:_=Value.bool b:=h;rw[h,ji t];rfl
def qd:b9:=λ ds st K=>match ds with| [.lst xs]=>(match cS xs with|some bs=>K (.bl (bs.all id)) st|none=>False)|_=>False
theorem range_all{α:Type}(l:List α)(f:α->Bool)(tr:Nat->Bool)(h:∀i x,l[i]?=some x->tr i=f x):(List.range l.length).all tr=l.all f:=by
 induction l generalizing tr with
 |nil=>rfl
 |cons a l ih=>
  rw[Hl,Ii,Im,Im,List.all_map,h 0 a rfl];congr 1;exact ih (tr∘Nat.succ) λ i x e=>h (i+1) x (by simpa using e)
theorem Et(hc:X.calm=true):aN X (.builtin "all") (cJ qd):=λ pins s σ H xs us Q I rs ⟨α,ds,st,K,G,F',P,r,S,q,k⟩=>by
 unfold qd at q;split at q
 . rename_i ys;split at q
   . rename_i bs e;obtain⟨v,rfl,r1⟩:=da r rfl;unfold Rep at r1;obtain⟨a,vs,rfl,na,h1,h2⟩:=r1;obtain⟨u,rfl,ru⟩:=vals1 rs;cases ru;have hv:=jB h2 e;subst hv;obtain⟨z,its,n,rv,hl,eo⟩:=Inv.n6 I (dG P h1);have hits:=ji rv;subst hits;have isL:s.heap.IsList a (bs.map Value.bool).toArray:=⟨_,eo,rfl,n,rfl⟩
     refine call_all_walk (Jr isL ?_);have hne:a≠s.heap.objs.size:=HK (Hg eo);refine⟨s.heap.objs.size,_,_,_,_,_,λ i=>(bs[i]?).getD true,rfl,Walks.list (A:=X.A.in1) (I.ok.hd hc) _ a hne (bs.map Value.bool).toArray,⟨⟨_,Hq _ rfl,rfl,rfl⟩,⟨_,GY _ eo,rfl,n,rfl⟩⟩,?_,?_⟩
     . intro i w s' Q' E' hP hQ;rw[KL,Hb]at hP;cases zb:bs[i]? with
       |none=>rw[zb]at hP;cases hP
       |some b=>
        rw[zb]at hP;cases hP;simp only[zb]at hQ;exact Ib hQ
     . intro h' tk hk
       have kp:∀b o,s.heap.get? b=some o->h'.get? b=some o:=λ b o q=>hk b o (by
        intro hb;have:b=s.heap.objs.size:=by simpa using hb
        exact absurd (Hg q) (by rw[this];exact Iy _)) (GY _ q)
       have ea:(List.range (bs.map Value.bool).toArray.size).all (λ i=>(bs[i]?).getD true)=bs.all id:=by
        rw[Hf,GV];exact range_all bs id _ λ i x e=>by rw[e];rfl
       rw[ea];exact⟨.bl (bs.all id),H,I.kept (t':=tk) kp,rfl,k.here P q S (by unfold Rep;rfl)⟩
   . exact q.elim
 . exact q.elim
def dZ(st:af):D->Option String
 | .aH=>some "NoneType"
 | .bl _=>some "bool"
 | .int _=>some "int"
 | .str _=>some "str"
 | .lst _=>some "list"
 | .tup _=>some "tuple"
 | .ref n=>(match st[n]? with|some (.lst _)=>some "list"|_=>none)
 | .ty _=>none
 | .fx _=>none
@[simp] theorem Gx(st:af)(xs:List D):dZ st (.lst xs)=some "list":=rfl
@[simp] theorem GP(st:af)(xs:List D):dZ st (.tup xs)=some "tuple":=rfl
@[simp] theorem ty_int(st:af)(i:Int):dZ st (.int i)=some "int":=rfl
@[simp] theorem GS(st:af)(i:Bool):dZ st (.bl i)=some "bool":=rfl
@[simp] theorem ty_str(st:af)(i:Str):dZ st (.str i)=some "str":=rfl
@[simp] theorem GG(st:af):dZ st .aH=some "NoneType":=rfl
def mv(t c:String):Bool:=t==c||(t=="bool"&&c=="int")
theorem qr{α:List (Option Addr)}{H:Hp}{st:af}{K:PySem.W.Frag}{d:D}{v:V}{t:String}(S:aB α st H)(r:Rep α H d v)(e:dZ st d=some t):d_ K H v (.type t):=by
 cases d<;>unfold dZ at e<;>try(cases e;done)
 . unfold Rep at r;cases e;subst r;exact .aH
 . unfold Rep at r;cases e;subst r;exact .bl _
 . unfold Rep at r;cases e;subst r;exact .int _
 . unfold Rep at r;cases e;subst r;exact .str _
 . simp only at e;split at e
   . rename_i z;cases e;obtain⟨a,ea,vs',h1,h2⟩:=S.fi z;have r':=ee ea r;subst r';exact .lst h1
   . cases e
 . cases e;unfold Rep at r;obtain⟨a,vs,rfl,na,h1,h2⟩:=r;rcases h1 with h1|⟨o,h1⟩
   . exact .lst h1
   . exact .d7 h1
 . cases e;unfold Rep at r;obtain⟨a,vs,rfl,na,h1,h2⟩:=r;exact .tup h1
theorem t9{G F H:Hp}{K:PySem.W.Frag}(P:a8 G F H){x:V}{t:Value}(h:d_ K G x t):d_ K H x t:=by
 cases h with
 |aH=>exact .aH
 |bl x=>exact .bl x
 |int x=>exact .int x
 |str x=>exact .str x
 |ny x=>exact .ny x
 |lst e=>exact .lst (P.get e)
 |d7 e=>exact .d7 (P.get e)
 |tup e=>exact .tup (P.get e)
 |dK e=>exact .dK (P.get e)
 |dT e=>exact .dT (P.get e)
 |ins e a b c d f=>exact .ins (P.get e) a b c d f
def kQ:List String:=["NoneType","bool","int","str","list","tuple"]
def gB:List String:=["bool","int","str","list","tuple"]
theorem tT(K:PySem.W.Frag){t c:String}(ht:t∈kQ)(hc:c∈gB):PySem.W.kitOne K (.type t) (.type c)=some (mv t c):=by
 simp only[kQ,gB,G9,Ij,Kp]at ht hc;rcases ht with rfl|rfl|rfl|rfl|rfl|rfl<;>rcases hc with rfl|rfl|rfl|rfl|rfl<;>with_unfolding_all rfl
theorem rC{st:af}{d:D}{t:String}(e:dZ st d=some t):t∈kQ:=by
 cases d<;>unfold dZ at e<;>first
  |(cases e;done)
  |(cases e;decide)
  |(simp only at e;split at e<;>cases e;decide)
theorem kitx_of{pins:List (Addr×Obj)}{σ:L2.St}{H:Hp}{s:Shared}{x:V}{u:Value}{t:String}(I:Inv X pins σ H s)(rx:RelV x u)(ty:d_ X.K H x (.type t)):
 ∃Hh:Heap->Prop,PySem.W.KitX X.K u (.type t) Hh/\Hh s.heap/\u≠ .builtin "__main__.__loader__#opaque":=by
 cases ty with
 |aH=>cases (show u=Value.none from rx);exact⟨_,PySem.W.kitx_none,True.intro,λ z=>nomatch z⟩
 |bl y=>cases (show u=Value.bool y from rx);exact⟨_,PySem.W.kitx_bool,True.intro,λ z=>nomatch z⟩
 |int i=>obtain⟨t,q⟩:=(show∃t,u=Value.int i t from rx);cases q;exact⟨_,PySem.W.kitx_int,True.intro,λ z=>nomatch z⟩
 |str y=>obtain⟨t,q⟩:=(show∃t,u=Value.str y t from rx);cases q;exact⟨_,PySem.W.kitx_str,True.intro,λ z=>nomatch z⟩
 |ny y=>obtain⟨t,q⟩:=(show∃t,u=Value.float y t from rx);cases q;exact⟨_,PySem.W.kitx_float,True.intro,λ z=>nomatch z⟩
 | @lst a xs ea=>
   cases (show u=Value.ref a from rx);obtain⟨_,_,n,_,h1⟩:=(show bL X.prog X.w H s.heap a (.lst xs)from I.aF a _ ea)
   exact⟨_,Jp,⟨_,h1,rfl⟩,λ z=>nomatch z⟩
 | @d7 a ob xs ea=>
   cases (show u=Value.ref a from rx);obtain⟨_,_,_,n,_,h1⟩:=(show bL X.prog X.w H s.heap a (.d7 ob (.lst xs))from I.aF a _ ea)
   exact⟨_,Jp,⟨_,h1,rfl⟩,λ z=>nomatch z⟩
 | @tup a xs ea=>
   cases (show u=Value.ref a from rx);obtain⟨_,_,_,p⟩:=(show bL X.prog X.w H s.heap a (.tup xs)from I.aF a _ ea)
   obtain⟨o,h1,h2,_⟩:=p;exact⟨_,PySem.W.kitx_tuple,⟨o,h1,h2⟩,λ z=>nomatch z⟩
 | @dK a kvs ea=>
   cases (show u=Value.ref a from rx);obtain⟨_,_,vs,_,p⟩:=(show bL X.prog X.w H s.heap a (.dK kvs)from I.aF a _ ea)
   obtain⟨o,es,ep,h1,h2,_⟩:=p;exact⟨_,Jq,⟨o,h1,h2.1⟩,λ z=>nomatch z⟩
 | @dT a kvs ea=>
   cases (show u=Value.ref a from rx);obtain⟨_,_,xs,_,o,es,ep,h1,h2,_⟩:=(show bL X.prog X.w H s.heap a (.dT kvs)from I.aF a _ ea)
   exact⟨_,Jq,⟨o,h1,h2.1⟩,λ z=>nomatch z⟩
def i5:List D->Option (List String)
 | []=>some []
 | .ty b::r=>(i5 r).map (b:: ·)
 |_::_=>none
theorem sr{α:List (Option Addr)}{H:Hp}:∀ {ds:List D} {vs:List V} {bs:List String},ao α H ds vs->i5 ds=some bs->vs=bs.map V.ty
 | [],vs,bs,r,e=>by
   unfold ao at r;cases e;exact r
 |d::ds,vs,bs,r,e=>by
  unfold ao at r;obtain⟨v,q,rfl,h1,h2⟩:=r;cases d<;>try(cases e;done)
  unfold i5 at e;cases z:i5 ds with
  |none=>rw[z]at e;cases e
  |some cs=>
   rw[z]at e;cases e;unfold Rep at h1;rw[h1,sr h2 z];rfl
theorem rV:∀ {bs:List String} {us:List Value},Vals (bs.map V.ty) us->us=bs.map Value.type
 | [],_,.nil=>rfl
 |b::bs,_,.cons h t=>by
  have h:_=Value.type b:=h;rw[h,rV t];rfl
theorem tX(K:PySem.W.Frag){t:String}(ht:t∈kQ):∀cs:List String,(∀c∈cs,c∈gB)->PySem.W.kitAny K (.type t) (cs.map Value.type)=some (cs.any (mv t))
 | [],_=>rfl
 |c::cs,h=>by
  show(match PySem.W.kitOne K (.type t) (.type c)with|some true=>some true|some false=>PySem.W.kitAny K (.type t) (cs.map Value.type)|none=>none)=_;rw[tT K ht (h c Hm),Iz];cases mv t c with
  |true=>rfl
  |false=>exact tX K ht cs λ c hc=>h c (G7 _ hc)
def qj:b9:=λ ds st K=>match ds with
 | [d,.ty c]=>(match dZ st d with|some t=>c∈gB/\K (.bl (mv t c)) st|none=>False)
 | [d,.tup cs]=>(match dZ st d,i5 cs with|some t,some cl=>(∀c∈cl,c∈gB)/\K (.bl (cl.any (mv t))) st|_,_=>False)
 |_=>False
theorem Ef:aN X (.builtin "isinstance") (cJ qj):=λ pins s σ H xs us Q I rs ⟨α,ds,st,K,G,F',P,r,S,q,k⟩=>by
 unfold qj at q;split at q
 . rename_i d c;split at q
   . rename_i t e;obtain⟨v,v2,rfl,r1,r2⟩:=kO r rfl;obtain⟨u,u2,rfl,ru,ru2⟩:=vals2 rs;unfold Rep at r2;subst r2;cases (show u2=Value.type c from ru2);exact wA I ru (t9 P (qr S r1 e)) (tT _ (rC e) q.1) λ tk=>⟨.bl (mv t c),H,I.tok tk,rfl,k.here P q.2 S (by unfold Rep;rfl)⟩
   . exact q.elim
 . rename_i d cs;split at q
   . rename_i t cl e ec;obtain⟨v,v2,rfl,r1,r2⟩:=kO r rfl;obtain⟨u,u2,rfl,ru,ru2⟩:=vals2 rs;unfold Rep at r2;obtain⟨a,vs,rfl,na,h1,h2⟩:=r2;cases (show u2=Value.ref a from ru2);have hv:=sr h2 ec;subst hv;obtain⟨Hh,Z,hh,hne⟩:=kitx_of I ru (t9 P (qr S r1 e));obtain⟨its,r',pl,hz⟩:=I.tuple (cZ.of (P.get h1));have hi:=rV r';subst hi;obtain⟨⟨cls,dd,data,sl⟩,ho,hc,n,hd⟩:=pl;simp only at hc hd;subst hc hd;exact PySem.W.kia_tup Z I.er hh ho (tX _ (rC e) cl q.1) hne λ tk=>⟨.bl _,H,I.tok tk,rfl,k.here P q.2 S (by unfold Rep;rfl)⟩
   . exact q.elim
 . exact q.elim
end
end L3
namespace L3
open PySem PySem.Spec L2 PySem.SeqAt
open PyProof.Rows hiding St
mutual
def bN:D->D->Bool
 | .aH,.aH=>true
 | .bl a,.bl b=>a==b
 | .bl a,.int b=>(if a then 1 else 0)==b
 | .int a,.bl b=>a==(if b then 1 else 0)
 | .int a,.int b=>a==b
 | .str a,.str b=>a==b
 | .lst xs,.lst ys=>fC xs ys
 | .tup xs,.tup ys=>fC xs ys
 |_,_=>false
def fC:List D->List D->Bool
 | [],[]=>true
 |x::xs,y::ys=>bN x y&&fC xs ys
 |_,_=>false
end
def pl:Nat->D->Bool
 |_,.aH=>true
 |_,.bl _=>true
 |_,.int _=>true
 |_,.str _=>true
 |n+1,.lst xs=>xs.all (pl n)
 |n+1,.tup xs=>xs.all (pl n)
 |_,_=>false
mutual
theorem mF:∀(n:Nat) (d:D),pl n d=true->bN d d=true
 |_,.aH,_=>rfl
 |_,.bl _,_=>by simp[bN]
 |_,.int _,_=>by simp[bN]
 |_,.str _,_=>by simp[bN]
 |n+1,.lst xs,h=>by unfold bN;exact ku n xs (by unfold pl at h;exact h)
 |n+1,.tup xs,h=>by unfold bN;exact ku n xs (by unfold pl at h;exact h)
 |0,.lst xs,h=>by cases h
 |0,.tup xs,h=>by cases h
 |_,.ref _,h=>by unfold pl at h;cases h
 |_,.ty _,h=>by unfold pl at h;cases h
 |_,.fx _,h=>by unfold pl at h;cases h
theorem ku:∀(n:Nat) (xs:List D),xs.all (pl n)=true->fC xs xs=true
 |_,[],_=>by unfold fC;rfl
 |n,x::xs,h=>by
  rw[Im,Ho]at h;unfold fC;rw[mF n x h.1,ku n xs h.2];rfl
end
mutual
theorem Rep.inj{α:List (Option Addr)}{H:Hp}:∀ {d e:D} {v:V} (n:Nat),pl n d=true->pl n e=true->Rep α H d v->Rep α H e v->d=e
 | .aH,e,v,n,_,he,h1,h2=>by
   unfold Rep at h1;subst h1;cases e<;>first|(unfold pl at he;cases he;done)|(unfold Rep at h2;cases h2;rfl)|(unfold Rep at h2;cases h2;done)|(unfold Rep at h2;obtain⟨_,_,h2,_⟩:=h2;cases h2)|rfl|(cases h2;done)|(obtain⟨_,_,h2,_⟩:=h2;cases h2)|(obtain⟨_,_,h2⟩:=h2;cases h2)
 | .bl b,e,v,n,_,he,h1,h2=>by
   unfold Rep at h1;subst h1;cases e<;>first|(unfold pl at he;cases he;done)|(unfold Rep at h2;cases h2;rfl)|(unfold Rep at h2;cases h2;done)|(unfold Rep at h2;obtain⟨_,_,h2,_⟩:=h2;cases h2)|(cases h2;rfl)|(cases h2;done)|(obtain⟨_,_,h2,_⟩:=h2;cases h2)|(obtain⟨_,_,h2⟩:=h2;cases h2)
 | .int b,e,v,n,_,he,h1,h2=>by
   unfold Rep at h1;subst h1;cases e<;>first|(unfold pl at he;cases he;done)|(unfold Rep at h2;cases h2;rfl)|(unfold Rep at h2;cases h2;done)|(unfold Rep at h2;obtain⟨_,_,h2,_⟩:=h2;cases h2)|(cases h2;rfl)|(cases h2;done)|(obtain⟨_,_,h2,_⟩:=h2;cases h2)|(obtain⟨_,_,h2⟩:=h2;cases h2)
 | .str b,e,v,n,_,he,h1,h2=>by
   unfold Rep at h1;subst h1;cases e<;>first|(unfold pl at he;cases he;done)|(unfold Rep at h2;cases h2;rfl)|(unfold Rep at h2;cases h2;done)|(unfold Rep at h2;obtain⟨_,_,h2,_⟩:=h2;cases h2)|(cases h2;rfl)|(cases h2;done)|(obtain⟨_,_,h2,_⟩:=h2;cases h2)|(obtain⟨_,_,h2⟩:=h2;cases h2)
 | .ty b,e,v,n,hd,he,h1,h2=>by unfold pl at hd;cases hd
 | .fx b,e,v,n,hd,he,h1,h2=>by unfold pl at hd;cases hd
 | .ref b,e,v,n,hd,he,h1,h2=>by unfold pl at hd;cases hd
 | .lst xs,e,v,0,hd,he,h1,h2=>by cases hd
 | .tup xs,e,v,0,hd,he,h1,h2=>by cases hd
 | .lst xs,e,v,n+1,hd,he,h1,h2=>by
   unfold Rep at h1;obtain⟨a,vs,rfl,na,ha,ra⟩:=h1;cases e<;>unfold Rep at h2<;>try(cases h2;done)
   . unfold pl at he;cases he
   . unfold pl at he;cases he
   . obtain⟨a',vs',e',na',ha',ra'⟩:=h2;cases e'
     have:vs=vs':=by
      rcases ha with ha|⟨o,ha⟩<;>rcases ha' with ha'|⟨o',ha'⟩<;>(rw[ha]at ha';first|(cases ha';rfl)|(cases ha';done))
     subst this;rw[ao.inj n (by unfold pl at hd;exact hd) (by unfold pl at he;exact he) ra ra']
   . obtain⟨a',vs',e',na',ha',ra'⟩:=h2;cases e';rcases ha with ha|⟨o,ha⟩<;>(rw[ha]at ha';cases ha')
 | .tup xs,e,v,n+1,hd,he,h1,h2=>by
   unfold Rep at h1;obtain⟨a,vs,rfl,na,ha,ra⟩:=h1;cases e<;>unfold Rep at h2<;>try(cases h2;done)
   . unfold pl at he;cases he
   . unfold pl at he;cases he
   . obtain⟨a',vs',e',na',ha',ra'⟩:=h2;cases e';rcases ha' with ha'|⟨o,ha'⟩<;>(rw[ha]at ha';cases ha')
   . obtain⟨a',vs',e',na',ha',ra'⟩:=h2;cases e';rw[ha]at ha';cases ha';rw[ao.inj n (by unfold pl at hd;exact hd) (by unfold pl at he;exact he) ra ra']
theorem ao.inj{α:List (Option Addr)}{H:Hp}:∀ {ds es:List D} {vs:List V} (n:Nat),ds.all (pl n)=true->es.all (pl n)=true->ao α H ds vs->ao α H es vs->ds=es
 | [],es,vs,n,_,_,h1,h2=>by
   unfold ao at h1;subst h1;cases es with
   |nil=>rfl
   |cons e es=>unfold ao at h2;obtain⟨_,_,h,_⟩:=h2;cases h
 |d::ds,es,vs,n,hd,he,h1,h2=>by
  unfold ao at h1;obtain⟨v,r,rfl,r1,r2⟩:=h1;cases es with
  |nil=>unfold ao at h2;cases h2
  |cons e es=>
   unfold ao at h2;obtain⟨v',r',h,q1,q2⟩:=h2;cases h;rw[Im,Ho]at hd he;rw[Rep.inj n hd.1 he.1 r1 q1,ao.inj n hd.2 he.2 r2 q2]
end
theorem ma:∀ {xs ys:List D},xs.length≠ys.length->fC xs ys=false
 | [],[],h=>absurd rfl h
 | [],_::_,_=>by unfold fC;rfl
 |_::_,[],_=>by unfold fC;rfl
 |x::xs,y::ys,h=>by
  unfold fC;rw[ma (by simpa using h),Bool.and_false]
theorem l_:∀ {xs ys:List D},xs.length=ys.length->fC xs ys=(List.range xs.length).all λ j=>bN (xs.getD j .aH) (ys.getD j .aH)
 | [],[],_=>by unfold fC;rfl
 | [],_::_,h=>by cases h
 |_::_,[],h=>by cases h
 |x::xs,y::ys,h=>by
  unfold fC;rw[Hl,Ii,Im,List.all_map,l_ (by simpa using h)];rfl
section
variable {X:Cx}{pins:List (Addr×Obj)}{σ:L2.St}{H:Hp}{s:Shared}{α:List (Option Addr)}
theorem lh{xs:List D}{vs:List V}{its:List Value}(r:ao α H xs vs)(v:Vals vs its)(j:Nat)(hj:j<its.length):∃x,xs[j]?=some (xs.getD j .aH)/\Rep α H (xs.getD j .aH) x/\RelV x its[j]:=by
 have h1:=r.length;have h2:=v.length;have hx:j<xs.length:=by omega
 have e:xs[j]?=some (xs.getD j .aH):=by rw[G0 hx,IA,G0 hx];rfl
 obtain⟨x,q,rr⟩:=r.get e;obtain⟨u,q2,rv⟩:=v.get q;rw[G0 hj]at q2;cases q2;exact⟨x,e,rr,rv⟩
theorem jJ{xs:List D}{n:Nat}(h:xs.all (pl n)=true)(j:Nat):pl n (xs.getD j .aH)=true:=by
 rw[IA];cases e:xs[j]? with
 |none=>cases n<;>rfl
 |some d=>exact HH.mp h d (Hk e)
def zK:D->Bool
 | .aH=>true
 | .bl _=>true
 | .int _=>true
 | .str _=>true
 |_=>false
theorem tM{A:Around}{d e:D}{x y:V}{u v:Value}(hd:zK d=true)(he:zK e=true)(rd:Rep α H d x)(re:Rep α H e y)(rx:RelV x u)(ry:RelV y v):RcAt A s u v (bN d e)/\EqAt A s u v (bN d e):=by
 cases d<;>cases e<;>try(first|(cases hd;done)|(cases he;done))
 all_goals(unfold Rep at rd re;subst rd re)
 all_goals(first|(obtain⟨t,rfl⟩:=rx;obtain⟨t',rfl⟩:=ry)|(obtain⟨t,rfl⟩:=rx;cases ry)|(cases rx;obtain⟨t,rfl⟩:=ry)|(cases rx;cases ry))
 all_goals unfold bN
 . exact⟨RcAt.none_none,EqAt.same _⟩
 . exact⟨RcAt.none_bool _,EqAt.none_bool _⟩
 . exact⟨RcAt.none_int _ _,EqAt.none_int _ _⟩
 . exact⟨RcAt.none_str _ _,EqAt.none_str _ _⟩
 . exact⟨RcAt.bool_none _,EqAt.bool_none _⟩
 . exact⟨RcAt.bool_bool _ _,EqAt.bool_bool _ _⟩
 . exact⟨RcAt.bool_int _ _ _,EqAt.bool_int _ _ _⟩
 . exact⟨RcAt.bool_str _ _ _,EqAt.bool_str _ _ _⟩
 . exact⟨RcAt.int_none _ _,EqAt.int_none _ _⟩
 . exact⟨RcAt.int_bool _ _ _,EqAt.int_bool _ _ _⟩
 . exact⟨RcAt.int_int _ _ _ _,EqAt.int_int _ _ _ _⟩
 . exact⟨RcAt.int_str _ _ _ _,EqAt.int_str _ _ _ _⟩
 . exact⟨RcAt.str_none _ _,EqAt.str_none _ _⟩
 . exact⟨RcAt.str_bool _ _ _,EqAt.str_bool _ _ _⟩
 . exact⟨RcAt.str_int _ _ _ _,EqAt.str_int _ _ _ _⟩
 . exact⟨RcAt.str_str _ _ _ _,EqAt.str_str _ _ _ _⟩
theorem lst_is(I:Inv X pins σ H s){xs:List D}{x:V}{u:Value}(r:Rep α H (.lst xs) x)(rx:RelV x u):∃a vs its,u= .ref a/\ao α H xs vs/\Vals vs its/\s.heap.IsList a its.toArray:=by
 unfold Rep at r;obtain⟨a,vs,rfl,na,ha,ra⟩:=r;cases rx;obtain⟨z,its,n,rv,hl,eo⟩:=Inv.n6 I ha;exact⟨a,vs,its,rfl,ra,rv,⟨_,eo,rfl,n,rfl⟩⟩
theorem tup_is(I:Inv X pins σ H s){xs:List D}{x:V}{u:Value}(r:Rep α H (.tup xs) x)(rx:RelV x u):∃a vs its,u= .ref a/\ao α H xs vs/\Vals vs its/\s.heap.IsTuple a its.toArray:=by
 unfold Rep at r;obtain⟨a,vs,rfl,na,ha,ra⟩:=r;cases rx;obtain⟨its,r',p,hz⟩:=I.tuple (cZ.of ha);exact⟨a,vs,its,rfl,ra,r',p⟩
theorem pF(I:Inv X pins σ H s){A:Around}{xs:List D}{e:D}{x y:V}{u v:Value}(he:zK e=true)(rd:Rep α H (.lst xs) x)(re:Rep α H e y)(rx:RelV x u)(ry:RelV y v)(hu:A.units<cLine):
 (RcAt A s u v (bN (.lst xs) e)/\EqAt A s u v (bN (.lst xs) e))/\RcAt A s v u (bN e (.lst xs))/\EqAt A s v u (bN e (.lst xs)):=by
 obtain⟨a,vs,its,rfl,_,_,hl⟩:=lst_is I rd rx;cases e<;>try(cases he;done)
 all_goals(unfold Rep at re;subst re)
 all_goals(first|(obtain⟨t,rfl⟩:=ry)|(cases ry))
 all_goals unfold bN
 . exact⟨⟨RcAt.list_none hl hu,EqAt.list_none hl hu⟩,RcAt.none_list hl hu,EqAt.none_list hl hu⟩
 . exact⟨⟨RcAt.list_bool _ hl hu,EqAt.list_bool _ hl hu⟩,RcAt.bool_list _ hl hu,EqAt.bool_list _ hl hu⟩
 . exact⟨⟨RcAt.list_int _ _ hl hu,EqAt.list_int _ _ hl hu⟩,RcAt.int_list _ _ hl hu,EqAt.int_list _ _ hl hu⟩
 . exact⟨⟨RcAt.list_str _ _ hl hu,EqAt.list_str _ _ hl hu⟩,RcAt.str_list _ _ hl hu,EqAt.str_list _ _ hl hu⟩
theorem o2(I:Inv X pins σ H s){A:Around}{xs:List D}{e:D}{x y:V}{u v:Value}(he:zK e=true)(rd:Rep α H (.tup xs) x)(re:Rep α H e y)(rx:RelV x u)(ry:RelV y v)(hu:A.units<cLine):
 (RcAt A s u v (bN (.tup xs) e)/\EqAt A s u v (bN (.tup xs) e))/\RcAt A s v u (bN e (.tup xs))/\EqAt A s v u (bN e (.tup xs)):=by
 obtain⟨a,vs,its,rfl,_,_,hl⟩:=tup_is I rd rx;cases e<;>try(cases he;done)
 all_goals(unfold Rep at re;subst re)
 all_goals(first|(obtain⟨t,rfl⟩:=ry)|(cases ry))
 all_goals unfold bN
 . exact⟨⟨RcAt.tuple_none hl hu,EqAt.tuple_none hl hu⟩,RcAt.none_tuple hl hu,EqAt.none_tuple hl hu⟩
 . exact⟨⟨RcAt.tuple_bool _ hl hu,EqAt.tuple_bool _ hl hu⟩,RcAt.bool_tuple _ hl hu,EqAt.bool_tuple _ hl hu⟩
 . exact⟨⟨RcAt.tuple_int _ _ hl hu,EqAt.tuple_int _ _ hl hu⟩,RcAt.int_tuple _ _ hl hu,EqAt.int_tuple _ _ hl hu⟩
 . exact⟨⟨RcAt.tuple_str _ _ hl hu,EqAt.tuple_str _ _ hl hu⟩,RcAt.str_tuple _ _ hl hu,EqAt.str_tuple _ _ hl hu⟩
theorem ua{A:Around}{n:Nat}{d e:D}{x y:V}{a b:Addr}(hd:pl n d=true)(he:pl n e=true)(rd:Rep α H d x)(re:Rep α H e y)(rx:RelV x (.ref a))(ry:RelV y (.ref b))(h:RcAt A s (.ref a) (.ref b) (bN d e)):
 RcAt A s (.ref a) (.ref b) (bN d e)/\EqAt A s (.ref a) (.ref b) (bN d e):=by
 refine⟨h,?_⟩;by_cases hab:a=b
 . subst hab;have hx:x=y:=RelV.inj rx ry;subst hx;have:=Rep.inj n hd he rd re;subst this;rw[mF n d hd];exact EqAt.same _
 . exact EqAt.of_refs hab h
theorem E4(I:Inv X pins σ H s):∀(n:Nat) (A:Around) (d e:D) (x y:V) (u v:Value),pl n d=true->pl n e=true->Rep α H d x->Rep α H e y->RelV x u->RelV y v->A.units+n<cLine->
 RcAt A s u v (bN d e)/\EqAt A s u v (bN d e):=by
 intro n;induction n with
 |zero=>
  intro A d e x y u v hd he rd re rx ry hu;refine tM ?_ ?_ rd re rx ry
  . cases d<;>first|rfl|(cases hd)
  . cases e<;>first|rfl|(cases he)
 |succ n ih=>
  intro A d e x y u v hd he rd re rx ry hu;have hu0:A.units<cLine:=by omega
  have hin:A.in1.units+n<cLine:=by rw[Around.in1_units];omega
  cases d<;>try(cases hd;done)
  case lst xs=>
   cases e<;>try(cases he;done)
   case lst ys=>
    have rd0:=rd;have re0:=re;have rx0:=rx;have ry0:=ry;obtain⟨a,vs,its,rfl,r1,v1,l1⟩:=lst_is I rd rx;obtain⟨b,ws,jts,rfl,r2,v2,l2⟩:=lst_is I re ry;have e1:=r1.length;have e2:=v1.length;have e3:=r2.length;have e4:=v2.length;refine ua hd he rd0 re0 rx0 ry0 ?_;unfold bN;by_cases hlen:xs.length=ys.length
    . rw[l_ hlen];have hsz:its.toArray.size=jts.toArray.size:=by simp only[Hf];omega
      have hx:xs.length=its.toArray.size:=by simp only[Hf];omega
      rw[hx];refine RcAt.lists l1 l2 hsz hu0 λ j h1 h2=>?_;have h1':j<its.length:=by simpa using h1
      have h2':j<jts.length:=by simpa using h2
      obtain⟨p,_,q1,q2⟩:=lh r1 v1 j h1';obtain⟨p',_,q1',q2'⟩:=lh r2 v2 j h2';exact(ih A.in1 _ _ p p' _ _ (jJ (by unfold pl at hd;exact hd) j) (jJ (by unfold pl at he;exact he) j) q1 q1' (by simpa using q2) (by simpa using q2') hin).2
    . rw[ma hlen];exact RcAt.lists_lengths l1 l2 (by simp only[Hf,KQ,ne_eq];omega) hu0
   case tup ys=>
    obtain⟨a,vs,its,rfl,r1,v1,l1⟩:=lst_is I rd rx;obtain⟨b,ws,jts,rfl,r2,v2,l2⟩:=tup_is I re ry;unfold bN;exact⟨RcAt.list_tuple l1 l2 hu0,EqAt.list_tuple l1 l2 hu0⟩
   all_goals exact(pF I rfl rd re rx ry hu0).1
  case tup xs=>
   cases e<;>try(cases he;done)
   case tup ys=>
    have rd0:=rd;have re0:=re;have rx0:=rx;have ry0:=ry;obtain⟨a,vs,its,rfl,r1,v1,l1⟩:=tup_is I rd rx;obtain⟨b,ws,jts,rfl,r2,v2,l2⟩:=tup_is I re ry;have e1:=r1.length;have e2:=v1.length;have e3:=r2.length;have e4:=v2.length;refine ua hd he rd0 re0 rx0 ry0 ?_;unfold bN
    have key:=RcAt.tuples (e:=λ j=>bN (xs.getD j .aH) (ys.getD j .aH)) l1 l2 hu0 λ j h1 h2=>by
     have h1':j<its.length:=by simpa using h1
     have h2':j<jts.length:=by simpa using h2
     obtain⟨p,_,q1,q2⟩:=lh r1 v1 j h1';obtain⟨p',_,q1',q2'⟩:=lh r2 v2 j h2';exact(ih A.in1 _ _ p p' _ _ (jJ (by unfold pl at hd;exact hd) j) (jJ (by unfold pl at he;exact he) j) q1 q1' (by simpa using q2) (by simpa using q2') hin).2
    by_cases hlen:xs.length=ys.length
    . rw[l_ hlen];have hsz:its.toArray.size=jts.toArray.size:=by simp only[Hf];omega
      have hx:xs.length=its.toArray.size:=by simp only[Hf];omega
      rw[hsz,Nat.min_self,Jx,Bool.and_true,<-hsz,<-hx]at key;exact key
    . rw[ma hlen];have hne:(its.toArray.size==jts.toArray.size)=false:=by simp only[Hf,Je,ne_eq];omega
      rw[hne,Bool.and_false]at key;exact key
   case lst ys=>
    obtain⟨a,vs,its,rfl,r1,v1,l1⟩:=tup_is I rd rx;obtain⟨b,ws,jts,rfl,r2,v2,l2⟩:=lst_is I re ry;unfold bN;exact⟨RcAt.tuple_list l1 l2 hu0,EqAt.tuple_list l1 l2 hu0⟩
   all_goals exact(o2 I rfl rd re rx ry hu0).1
  all_goals
   cases e<;>try(cases he;done)
   case lst ys=>exact(pF I rfl re rd ry rx hu0).2
   case tup ys=>exact(o2 I rfl re rd ry rx hu0).2
   all_goals exact tM rfl rfl rd re rx ry
def Cr:bx:=λ x y st K=>pl 40 x=true/\pl 40 y=true/\K (.bl (bN x y)) st
theorem FO{k:Nat}(hr:bW k X.A):aQ X (compareOp .Eq) (LR Cr):=λ pins s σ H x y v u Q I rx ry ⟨α,d,e,st,K,G,F',P,r1,r2,S,q,k⟩=>by
 have hu:=hr.units;exact(E4 I 40 X.A d e x y v u q.1 q.2.1 (r1.mono P.same) (r2.mono P.same) rx ry (by omega)).1 _ _ _ _ ⟨.bl (bN d e),H,I,rfl,k.here P q.2.2 S (by unfold Rep;rfl)⟩
def BI:bx:=λ x y st K=>match x,y with
 | .int i,.int j=>K (.bl (!decide (i=j))) st
 | .bl i,.bl j=>K (.bl (!decide (i=j))) st
 | .str i,.str j=>K (.bl (!decide (i=j))) st
 |_,_=>False
theorem FJ:aQ X (compareOp .NotEq) (LR BI):=aQ.imp E7 λ x y H Q ⟨α,d,e,st,K,G,F',P,r1,r2,S,q,k⟩=>by
 cases d<;>cases e<;>try exact q.elim
 all_goals(unfold Rep at r1 r2;subst r1 r2)
 . exact⟨rfl,k.here P q S (by unfold Rep;congr 2;exact Kq.mpr ⟨λ h=>by cases h;rfl,λ h=>by rw[h]⟩)⟩
 . exact⟨rfl,k.here P q S (by unfold Rep;congr 2;exact Kq.mpr ⟨λ h=>by cases h;rfl,λ h=>by rw[h]⟩)⟩
 . exact⟨rfl,k.here P q S (by unfold Rep;congr 2;exact Kq.mpr ⟨λ h=>by cases h;rfl,λ h=>by rw[h]⟩)⟩
end
end L3
namespace L3
open PySem PySem.Spec L2
open PyProof.Rows hiding St
def LC(α:List (Option Addr))(G F:Hp)(K:bc->af->Prop)(Q:L2.St->Hp->Prop):Prop:=∀σd' st',K σd' st'->∀α' G' H' σ',Step α G α' G'->a8 G' F H'->bV α' G' σd' σ'->aB α' st' G'->Q σ' H'
structure qc(α:List (Option Addr))(G F:Hp)(DD:gv)(D:Ends):Prop where
 nx:LC α G F DD.nx D.nx
 rt:LK α G F DD.rt D.rt
 bk:LC α G F DD.bk D.bk
 ct:LC α G F DD.ct D.ct
inductive Fj(t:DS)(D:Ends)(σ:L2.St)(H:Hp):Prop
 |mk (α:List (Option Addr)) (σd:bc) (st:af) (DD:gv) (G F:Hp) (P:a8 G F H) (R:bV α G σd σ) (S:aB α st G) (h:t DD σd st) (k:qc α G F DD D):Fj t D σ H
def LS(t:DS):TS:=Fj t
theorem LC.at{α α1:List (Option Addr)}{G F G1:Hp}{K:bc->af->Prop}{Q:L2.St->Hp->Prop}(h:LC α G F K Q)(s:Step α G α1 G1):LC α1 G1 F K Q:=λ d st' k α' G' H' v s' P R S=>h d st' k α' G' H' v (s.trans s') P R S
theorem LC.here{α:List (Option Addr)}{G F H:Hp}{K:bc->af->Prop}{Q:L2.St->Hp->Prop}(h:LC α G F K Q)(P:a8 G F H){σd:bc}{st:af}{σ:L2.St}(k:K σd st)(R:bV α G σd σ)(S:aB α st G):Q σ H:=h σd st k α G H σ Step.refl P R S
theorem qc.at{α α1:List (Option Addr)}{G F G1:Hp}{DD:gv}{D:Ends}(h:qc α G F DD D)(s:Step α G α1 G1):qc α1 G1 F DD D:=⟨h.nx.at s,h.rt.at s,h.bk.at s,h.ct.at s⟩
section
variable {X:Cx}{a b c e o i:Expr}{es:List Expr}{ta tb tc te:DE}{pos:Pos}{st:Stmt}{sts:List Stmt}{t u:DS}
theorem PS.imp{t t':TS}(h:PS X st t)(f:∀D σ H,t' D σ H->t D σ H):PS X st t':=λ pins s σ H D I q=>h pins s σ H D I (f D σ H q)
theorem de.imp{t t':TS}(h:de X sts t)(f:∀D σ H,t' D σ H->t D σ H):de X sts t':=λ pins s σ H D I q=>h pins s σ H D I (f D σ H q)
def bo:DS:=λ D σ st=>D.nx σ st
def aw(t u:DS):DS:=λ D σ st=>t {D with nx:=u D} σ st
theorem Ag:de X [] (LS bo):=de.imp Ab λ D σ H ⟨α,σd,st,DD,G,F,P,R,S,t,k⟩=>k.nx.here P t R S
theorem Av(h:PS X st (LS t)):de X [st] (LS t):=Aa h
theorem yK(h:PS X st (LS t))(h2:de X sts (LS u)):de X (st::sts) (LS (aw t u)):=de.imp (xU h h2) λ D σ H ⟨α,σd,st,DD,G,F,P,R,S,t,k⟩=>
 ⟨α,σd,st,_,G,F,P,R,S,t,λ σd' st' q α' G' H' σ' s' P' R' S'=>⟨α',σd',st',DD,G',F,P',R',S',q,k.at s'⟩,k.rt,k.bk,k.ct⟩
def aX(te:DE):DS:=λ D σ st=>te σ st D.rt
theorem Di(h:PE X e (LE te)):PS X (.Return (some e) pos) (LS (aX te)):=PS.imp (B8 h) λ D σ H ⟨α,σd,st,DD,G,F,P,R,S,t,k⟩=>⟨α,σd,st,_,G,F,P,R,S,t,k.rt⟩
def lg(te:DE):DS:=λ D σ st=>te σ st λ _ st1=>D.nx σ st1
theorem zY(h:PE X e (LE te))(hs:swapsWith e none pos.line X.env=pure false:=by rfl):PS X (.Expr e pos) (LS (lg te)):=PS.imp (AW h hs) λ D σ H ⟨α,σd,st,DD,G,F,P,R,S,t,k⟩=>
 ⟨α,σd,st,_,G,F,P,R,S,t,λ d st1 q α1 G1 H1 v s1 P1 S1 r1=>(k.nx.at s1).here P1 q (R.step s1) S1⟩
def bG(c:DT)(t u:DS):DS:=λ D σ st=>c σ st λ b st1=>if b=true then t D σ st1 else u D σ st1
theorem ED{x y:List Stmt}{tc:DT}(hc:PT X c (LT tc))(ha:de X x (LS t))(hb:de X y (LS u)):PS X (.If c x y pos) (LS (bG tc t u)):=PS.imp (E6 hc ha hb) λ D σ H ⟨α,σd,st,DD,G,F,P,R,S,t,k⟩=>by
 refine⟨α,σd,st,_,G,F,P,R,S,t,λ b st1 q α1 G1 H1 s1 P1 S1=>?_⟩;cases b with
 |true=>exact⟨α1,σd,st1,DD,G1,F,P1,R.step s1,S1,q,k.at s1⟩
 |false=>exact⟨α1,σd,st1,DD,G1,F,P1,R.step s1,S1,q,k.at s1⟩
abbrev cQ:=D->bc->Option bc
def cm(i:Nat):cQ:=λ d σ=>some (σ.set i (some d))
def bX(i j:Nat):cQ:=λ d σ=>match d with| .tup [x,y]=>some ((σ.set i (some x)).set j (some y))|_=>none
inductive Fx(t:cQ)(v:V)(σ:L2.St)(H:Hp)(Q:L2.St->Hp->Prop):Prop
 |mk (α:List (Option Addr)) (σd:bc) (st:af) (d:D) (K:bc->af->Prop) (G F:Hp) (P:a8 G F H) (R:bV α G σd σ) (S:aB α st G) (r:Rep α G d v) (h:∃σ',t d σd=some σ'/\K σ' st) (k:LC α G F K Q):Fx t v σ H Q
def LG(t:cQ):TG:=Fx t
theorem PG.imp{tg:Expr}{t t':TG}(h:PG X tg t)(f:∀v σ H Q,t' v σ H Q->t v σ H Q):PG X tg t':=λ pins s σ H v u Q I r q=>h pins s σ H v u Q I r (f v σ H Q q)
theorem A3{tg:Expr}{i:Nat}(h:PG X tg (gu i)):PG X tg (LG (cm i)):=PG.imp h λ v σ H Q ⟨α,σd,st,d,K,G,F,P,R,S,r,⟨σ',e,q⟩,k⟩=>by
 cases e;exact k.here P q (R.set i r) S
theorem Dp{tg:Expr}{i j:Nat}(h:PG X tg (C9 X.K 2 (u3 (gu i) (u3 (gu j) Co)))):PG X tg (LG (bX i j)):=PG.imp h λ v σ H Q ⟨α,σd,st,d,K,G,F,P,R,S,r,⟨σ',e,q⟩,k⟩=>by
 unfold bX at e;split at e
 . rename_i x y;cases e;unfold Rep at r;obtain⟨a,vs,rfl,na,h1,h2⟩:=r;obtain⟨v1,v2,rfl,r1,r2⟩:=kO h2 rfl;exact⟨a,_,rfl,.of (P.get h1),rfl,v1,_,rfl,v2,_,rfl,rfl,k.here P q ((R.set i r1).set j r2) S⟩
 . cases e
def aP(i:Nat)(te:DE):DS:=λ D σ st=>te σ st λ d st1=>D.nx (σ.set i (some d)) st1
theorem BY{i:Nat}(h:PS X st (iC (LE te) (gu i))):PS X st (LS (aP i te)):=PS.imp h λ D σ H ⟨α,σd,st,DD,G,F,P,R,S,t,k⟩=>
 ⟨α,σd,st,_,G,F,P,R,S,t,λ d st1 q α1 G1 H1 v s1 P1 S1 r1=>(k.nx.at s1).here P1 q ((R.step s1).set i r1) S1⟩
def uF(tg:cQ)(te:DE):DS:=λ D σ st=>te σ st λ d st1=>∃σ',tg d σ=some σ'/\D.nx σ' st1
theorem Cg{tg:cQ}(h:PS X st (iC (LE te) (LG tg))):PS X st (LS (uF tg te)):=PS.imp h λ D σ H ⟨α,σd,st,DD,G,F,P,R,S,t,k⟩=>
 ⟨α,σd,st,_,G,F,P,R,S,t,λ d st1 q α1 G1 H1 v s1 P1 S1 r1=>⟨α1,σd,st1,d,DD.nx,G1,F,P1,R.step s1,S1,r1,q,k.nx.at s1⟩⟩
def vh(i j:Nat)(ta:DA):DS:=λ D σ st=>ta σ st λ ds st1=>match ds with| [x,y]=>D.nx ((σ.set i (some x)).set j (some y)) st1|_=>False
theorem BF{i j:Nat}{ta:DA}(h:PS X st (B0 i j (LA ta))):PS X st (LS (vh i j ta)):=PS.imp h λ D σ H ⟨α,σd,st,DD,G,F,P,R,S,t,k⟩=>by
 refine⟨α,σd,st,_,G,F,P,R,S,t,λ ds st1 q α1 G1 H1 vs s1 P1 S1 r1=>?_⟩;match ds,q,r1 with
 | [x,y],q,r1=>
   obtain⟨v1,v2,rfl,q1,q2⟩:=kO r1 rfl;exact⟨v1,v2,rfl,(k.nx.at s1).here P1 q (((R.step s1).set i q1).set j q2) S1⟩
def u9(x y d:D)(st:af)(K:af->Prop):Prop:=match x,y with
 | .ref n,.int k=>(match st[n]? with
   |some (.lst xs)=>(match ki xs.length k with|some j=>K (st.set n (.lst (xs.set j d)))|none=>False)
   |_=>False)
 |_,_=>False
def DL(to ti te:DE):DS:=λ D σ st=>te σ st λ d st1=>to σ st1 λ x st2=>ti σ st2 λ y st3=>u9 x y d st3 λ st4=>D.nx σ st4
theorem yH{to ti:DE}(h:PS X st (iC (LE te) (vA (LE to) (LE ti) pU))):PS X st (LS (DL to ti te)):=PS.imp h λ D σ H ⟨α,σd,st,DD,G,F,P,R,S,t,k⟩=>by
 refine⟨α,σd,st,_,G,F,P,R,S,t,λ d st1 q α1 G1 H1 v s1 P1 S1 r1=>?_⟩;refine⟨α1,σd,st1,_,G1,F,P1,R.step s1,S1,q,λ x st2 q2 α2 G2 H2 v2 s2 P2 S2 r2=>?_⟩;refine⟨α2,σd,st2,_,G2,F,P2,(R.step s1).step s2,S2,q2,λ y st3 q3 α3 G3 H3 v3 s3 P3 S3 r3=>?_⟩;cases x<;>cases y<;>try exact q3.elim
 rename_i n kk;unfold u9 at q3;simp only at q3;split at q3
 . rename_i xs e;split at q3
   . rename_i j ej;obtain⟨p,ep,vs,hv,rv⟩:=S3.fi e;have r2':=ee ep (r2.step s3);subst r2';unfold Rep at r3;have hm:some p∈α3:=Hk ep;have rd:=(r1.step s2).step s3;refine⟨p,vs,kk,j,rfl,r3,P3.get hv,by rw[<-rv.length];exact ej,?_⟩;refine(((k.nx.at s1).at s2).at s3) σd _ q3 α3 (upd G3 p (.lst (vs.set j v))) _ σ (Step.write hm) (P3.write hv) ((((R.step s1).step s2).step s3).step (Step.write hm)) ?_;exact S3.write ep ⟨vs.set j v,a9,(aV.mpr (nB rd j (aV.mp rv))).step (Step.write hm)⟩
   . exact q3.elim
 . exact q3.elim
def m5(c:DT)(tb:DS):DS:=λ D σ st=>∃W:Nat->bc->af->Prop,(∃m,W m σ st)/\∀m σ st,W m σ st->
 c σ st λ b st1=>if b=true then tb {D with nx:=λ σ' st'=>∃m',m'<m/\W m' σ' st',ct:=λ σ' st'=>∃m',m'<m/\W m' σ' st',bk:=D.nx} σ st1 else D.nx σ st1
theorem yn{tc:DT}(h:PS X st (wm (LT tc) (LS t))):PS X st (LS (m5 tc t)):=PS.imp h λ D σ H ⟨α,σd,st,DD,G,F,P,R,S,⟨W,⟨m0,w0⟩,turn⟩,k⟩=>by
 refine⟨λ m σ' H'=>∃α' σd' st' G',Step α G α' G'/\a8 G' F H'/\bV α' G' σd' σ'/\aB α' st' G'/\W m σd' st',⟨m0,α,σd,st,G,Step.refl,P,R,S,w0⟩,?_⟩;rintro m σ1 H1 ⟨α1,σd1,st1,G1,s1,P1,R1,S1,w1⟩;refine⟨α1,σd1,st1,_,G1,F,P1,R1,S1,turn m σd1 st1 w1,λ b st2 q α2 G2 H2 s2 P2 S2=>?_⟩;cases b with
 |false=>exact((k.nx.at s1).at s2).here P2 q (R1.step s2) S2
 |true=>
  refine⟨λ σ' H'=>∃m',m'<m/\∃α' σd' st' G',Step α G α' G'/\a8 G' F H'/\bV α' G' σd' σ'/\aB α' st' G'/\W m' σd' st',λ σ' H' z=>z,?_⟩;refine⟨α2,σd1,st2,_,G2,F,P2,R1.step s2,S2,q,?_⟩;refine⟨?_,(k.rt.at s1).at s2,(k.nx.at s1).at s2,?_⟩
  . rintro σd3 st3 ⟨m',hm,w3⟩ α3 G3 H3 σ3 s3 P3 R3 S3;exact⟨m',hm,α3,σd3,st3,G3,(s1.trans s2).trans s3,P3,R3,S3,w3⟩
  . rintro σd3 st3 ⟨m',hm,w3⟩ α3 G3 H3 σ3 s3 P3 R3 S3;exact⟨m',hm,α3,σd3,st3,G3,(s1.trans s2).trans s3,P3,R3,S3,w3⟩
abbrev DI:=bc->af->(List D->(af->Prop)->af->Prop)->Prop
structure mH(J:It)(α:List (Option Addr))(G:Hp)(ok:af->Prop)(xs:List D):Prop where
 stop:∀(n:Nat) α' G' F' H' st',Step α G α' G'->a8 G' F' H'->aB α' st' G'->ok st'->xs.length<=n->J.stop n H'
 go:∀(n:Nat) d α' G' F' H' st',Step α G α' G'->a8 G' F' H'->aB α' st' G'->ok st'->xs[n]?=some d->J.go n H'
 ia:∀(n:Nat) d α' G' F' H' st' x H'',Step α G α' G'->a8 G' F' H'->aB α' st' G'->ok st'->xs[n]?=some d->J.ia n H' x H''->∃G'',Step α' G' α' G''/\a8 G'' F' H''/\aB α' st' G''/\Rep α' G'' d x
def LI(t:DI):TI:=λ σ H R=>∃α σd st K G F,a8 G F H/\bV α G σd σ/\aB α st G/\t σd st K/\∀xs ok st1,K xs ok st1->∀J α1 G1 H1,Step α G α1 G1->a8 G1 F H1->aB α1 st1 G1->mH J α1 G1 ok xs->R J H1
def vb(d:D)(st1:af)(K:List D->(af->Prop)->af->Prop):Prop:=match d with
 | .lst xs=>K xs (λ _=>True) st1
 | .tup xs=>K xs (λ _=>True) st1
 | .ref n=>(match st1[n]? with|some (.lst xs)=>K xs (λ st'=>st'[n]?=some (.lst xs)) st1|_=>False)
 |_=>False
def Eu(t:DE):DI:=λ σ st K=>t σ st λ d st1=>vb d st1 K
theorem tY{K:PySem.W.Frag}{a:Addr}{α:List (Option Addr)}{G:Hp}{ok:af->Prop}{xs:List D}
 (h:∀α' G' st',Step α G α' G'->aB α' st' G'->ok st'->∃vs,Rd G' a (.lst vs)/\ao α' G' xs vs):mH (BS K a) α G ok xs where
 stop:=λ n α' G' F' H' st' s P S o hn=>by
  obtain⟨vs,h1,h2⟩:=h α' G' st' s S o;exact⟨vs,.inl (dG P h1),by rw[<-h2.length];exact hn⟩
 go:=λ n d α' G' F' H' st' s P S o hn=>by
  obtain⟨vs,h1,h2⟩:=h α' G' st' s S o;obtain⟨v,e,_⟩:=h2.get hn;exact⟨vs,v,.inl (dG P h1),e⟩
 ia:=λ n d α' G' F' H' st' x H'' s P S o hn y=>by
  obtain⟨vs,h1,h2⟩:=h α' G' st' s S o;obtain⟨v,e,r⟩:=h2.get hn;obtain⟨rfl,y⟩:=y;have:=y vs (.inl (dG P h1));rw[e]at this;cases this;exact⟨G',Step.refl,P,S,r⟩
theorem Dy{K:PySem.W.Frag}{a:Addr}{α:List (Option Addr)}{G:Hp}{ok:af->Prop}{xs:List D}
 (h:∀α' G' st',Step α G α' G'->aB α' st' G'->ok st'->∃vs,G' a=some (.tup vs)/\ao α' G' xs vs):mH (C3 K a) α G ok xs where
 stop:=λ n α' G' F' H' st' s P S o hn=>by
  obtain⟨vs,h1,h2⟩:=h α' G' st' s S o;exact⟨vs,.of (P.get h1),by rw[<-h2.length];exact hn⟩
 go:=λ n d α' G' F' H' st' s P S o hn=>by
  obtain⟨vs,h1,h2⟩:=h α' G' st' s S o;obtain⟨v,e,_⟩:=h2.get hn;exact⟨vs,v,.of (P.get h1),e⟩
 ia:=λ n d α' G' F' H' st' x H'' s P S o hn y=>by
  obtain⟨vs,h1,h2⟩:=h α' G' st' s S o;obtain⟨v,e,r⟩:=h2.get hn;obtain⟨rfl,y⟩:=y;have:=y vs (.of (P.get h1));rw[e]at this;cases this;exact⟨G',Step.refl,P,S,r⟩
theorem yU{α α':List (Option Addr)}{G G':Hp}{a:Addr}{vs:List V}{xs:List D}(s:Step α G α' G')(na:some a∉α)(h1:Rd G a (.lst vs))(h2:ao α G xs vs):Rd G' a (.lst vs)/\ao α' G' xs vs:=by
 refine⟨?_,h2.step s⟩;rcases h1 with h|⟨o,h⟩
 . exact .inl (s.ext _ _ na h)
 . exact .inr ⟨o,s.ext _ _ na h⟩
theorem DM{l tg:Expr}{tl:DE}(hl:PE X l (LE tl)):PI X tg l (LI (Eu tl)):=by
 intro pins s σ H R I h;obtain⟨α,σd,st,K,G,F,P,RS,S,t,k⟩:=h;refine a6 (hl pins s σ H (λ x H1=>∃d α1 G1 st1,Step α G α1 G1/\a8 G1 F H1/\aB α1 st1 G1/\Rep α1 G1 d x/\vb d st1 K) I ⟨α,σd,st,_,G,F,P,RS,S,t,λ d st1 q α1 G1 H1 v s1 P1 S1 r1=>⟨d,α1,G1,st1,s1,P1,S1,r1,q⟩⟩) λ v s1 ⟨x,H1,I1,rx,d,α1,G1,st1,s1',P1,S1,r1,q⟩=>?_;unfold vb at q
 have viaL:∀ {a:Addr} {vs:List V},x= .ref a->Rd H1 a (.lst vs)->R (BS X.K a) H1->wpAny (model X.prog X.w) X.A (pyIter v) (y8 X pins σ tg R) X.xe s1:=by
  intro a vs ex hr hR;subst ex;cases rx;obtain⟨its,rv,p,hz⟩:=I1.list (.inl hr);refine Jr p.isList ?_;refine⟨s1.heap.objs.size,[s1.heap.objs.size],_,_,H1,rfl,I1.kept (t':=s1.toks) λ b o e=>GY _ e,w4 a _,⟨_,Hq _ rfl,rfl,rfl⟩,λ b hb=>?_,hR⟩;have e:b=s1.heap.objs.size:=by simpa using hb
  subst e;exact I1.kh (G8 _) (I1.aF.fresh (G8 _))
 have viaT:∀ {a:Addr} {vs:List V},x= .ref a->H1 a=some (.tup vs)->R (C3 X.K a) H1->wpAny (model X.prog X.w) X.A (pyIter v) (y8 X pins σ tg R) X.xe s1:=by
  intro a vs ex hr hR;subst ex;cases rx;obtain⟨its,rv,p,hz⟩:=I1.tuple (cZ.of hr);refine IL (show s1.heap.IsTuple a its.toArray from p) ?_;refine⟨s1.heap.objs.size,[s1.heap.objs.size],_,_,H1,rfl,I1.kept (t':=s1.toks) λ b o e=>GY _ e,vx a _,⟨_,Hq _ rfl,rfl,rfl⟩,λ b hb=>?_,hR⟩;have e:b=s1.heap.objs.size:=by simpa using hb
  subst e;exact I1.kh (G8 _) (I1.aF.fresh (G8 _))
 cases d<;>try exact q.elim
 . rename_i n;simp only at q;split at q
   . rename_i xs e;obtain⟨a,ea,vs,h1,h2⟩:=S1.fi e;have r1':=ee ea r1;subst r1';refine viaL rfl (dG P1 (.of h1)) (k _ _ st1 q _ α1 G1 H1 s1' P1 S1 (tY λ α' G' st' s S o=>?_));obtain⟨b,eb,ws,g1,g2⟩:=S.fi o
     have hb:b=a:=by
      rcases s.pre _ _ ea with z|z<;>(rw[z]at eb;cases eb)
      rfl
     subst hb;exact⟨ws,.of g1,g2⟩
   . exact q.elim
 . unfold Rep at r1;obtain⟨a,vs,rfl,na,ha,ra⟩:=r1;exact viaL rfl (dG P1 ha) (k _ _ st1 q _ α1 G1 H1 s1' P1 S1 (tY λ α' G' st' s S o=>⟨vs,yU s na ha ra⟩))
 . unfold Rep at r1;obtain⟨a,vs,rfl,na,ha,ra⟩:=r1;exact viaT rfl (P1.get ha) (k _ _ st1 q _ α1 G1 H1 s1' P1 S1 (Dy λ α' G' st' s S o=>⟨vs,s.ext _ _ na ha,ra.step s⟩))
def dq(lo:Int)(n:Nat):List D:=(List.range n).map λ(k:Nat)=>D.int (lo+(k:Int))
theorem mU{lo:Int}{n k:Nat}:(dq lo n)[k]?=if k<n then some (.int (lo+(k:Int)))else none:=by
 unfold dq;rw[Hb];by_cases h:k<n
 . rw[List.getElem?_range h,Hu h];rfl
 . rw[KN (by simpa using h),Hi h];rfl
theorem di{lo:Int}{n:Nat}:(dq lo n).length=n:=by unfold dq;simp
theorem yf{α:List (Option Addr)}{G:Hp}{lo:Int}{n:Nat}:mH (rG lo n) α G (λ _=>True) (dq lo n) where
 stop:=λ m α' G' F' H' st' s P S o hn=>by rw[di]at hn;exact hn
 go:=λ m d α' G' F' H' st' s P S o hn=>by
  rw[mU]at hn;split at hn
  . assumption
  . cases hn
 ia:=λ m d α' G' F' H' st' x H'' s P S o hn y=>by
  obtain⟨rfl,rfl⟩:=y;rw[mU]at hn;split at hn
  . cases hn;exact⟨G',Step.refl,P,S,by unfold Rep;rfl⟩
  . cases hn
theorem PI.imp{tg iter:Expr}{t t':TI}(h:PI X tg iter t)(f:∀σ H R,t' σ H R->t σ H R):PI X tg iter t':=λ pins s σ H R I q=>h pins s σ H R I (f σ H R q)
def zh(ds:List D)(st1:af)(K:List D->(af->Prop)->af->Prop):Prop:=match ds with
 | [.int j]=>(-(2^62)<=j/\j<2^62)/\K (dq 0 j.toNat) (λ _=>True) st1
 |_=>False
def Bh(t:DA):DI:=λ σ st K=>t σ st λ ds st1=>zh ds st1 K
theorem v5{tg iter:Expr}{t:DA}(h:PI X tg iter (uB (LA t))):PI X tg iter (LI (Bh t)):=PI.imp h λ σ H R ⟨α,σd,st,K,G,F,P,RS,S,t,k⟩=>by
 refine⟨α,σd,st,_,G,F,P,RS,S,t,λ ds st1 q α1 G1 H1 vs s1 P1 S1 r1=>?_⟩;match ds,q,r1 with
 | [.int j],q,r1=>
   obtain⟨v,rfl,r2⟩:=da r1 rfl;unfold Rep at r2;subst r2;exact⟨j,rfl,q.1.1,q.1.2,k _ _ st1 q.2 _ α1 G1 H1 s1 P1 S1 yf⟩
def dO(tg:cQ)(body:DS)(ok:af->Prop)(E:gv):List D->bc->af->Prop
 | [],σ,st=>ok st/\E.nx σ st
 |x::xs,σ,st=>ok st/\∃σ1,tg x σ=some σ1/\body {E with nx:=dO tg body ok E xs,ct:=dO tg body ok E xs,bk:=E.nx} σ1 st
def uM(src:DI)(tg:cQ)(body:DS):DS:=λ D σ st=>src σ st λ xs ok st1=>dO tg body ok D xs σ st1
theorem Ct{src:DI}{tg:cQ}(h:PS X st (Dl (LI src) (LG tg) (LS t))):PS X st (LS (uM src tg t)):=PS.imp h λ D σ H ⟨α,σd,st,DD,G,F,P,R,S,tt,k⟩=>by
 refine⟨α,σd,st,_,G,F,P,R,S,tt,λ xs ok st1 q J α1 G1 H1 s1 P1 S1 it=>?_⟩;refine⟨λ i m σ' H'=>∃α' σd' st' G',Step α1 G1 α' G'/\a8 G' F H'/\bV α' G' σd' σ'/\aB α' st' G'/\dO tg t ok DD (xs.drop i) σd' st'/\m=xs.length-i,⟨xs.length,α1,σd,st1,G1,Step.refl,P1,R.step s1,S1,q,rfl⟩,?_⟩;rintro i m σ2 H2 ⟨α2,σd2,st2,G2,s2,P2,R2,S2,q2,rfl⟩;cases e:xs[i]? with
 |none=>
  have hl:xs.length<=i:=Kk.mp e;rw[KD hl]at q2;unfold dO at q2;exact .inl ⟨it.stop i α2 G2 F H2 st2 s2 P2 S2 q2.1 hl,((k.nx.at s1).at s2).here P2 q2.2 R2 S2⟩
 |some d=>
  have hl:i<xs.length:=(GW.mp e).1
  have ed:xs.drop i=d::xs.drop (i+1):=by
   rw[IF hl];congr 1;rw[G0 hl]at e;exact HS e
  rw[ed]at q2;unfold dO at q2;obtain⟨aF,σ3,e3,q3⟩:=q2;refine .inr ⟨it.go i d α2 G2 F H2 st2 s2 P2 S2 aF e,λ σ' H'=>∃α' σd' st' G',Step α1 G1 α' G'/\a8 G' F H'/\bV α' G' σd' σ'/\aB α' st' G'/\dO tg t ok DD (xs.drop (i+1)) σd' st',?_,?_⟩
  . rintro σ' H' ⟨α',σd',st',G',z1,z2,z3,z4,z5⟩;exact⟨xs.length-(i+1),by omega,α',σd',st',G',z1,z2,z3,z4,z5,rfl⟩
  . intro x H' y;obtain⟨G3,s3,P3,S3,r3⟩:=it.ia i d α2 G2 F H2 st2 x H' s2 P2 S2 aF e y;refine⟨α2,σd2,st2,d,λ σ' st'=>σ'=σ3/\st'=st2,G3,F,P3,R2.step s3,S3,r3,⟨σ3,e3,rfl,rfl⟩,?_⟩;rintro σ' st' ⟨rfl,rfl⟩ α4 G4 H4 σ4 s4 P4 R4 S4;have s24:=(s2.trans s3).trans s4;refine⟨α4,σ',st',_,G4,F,P4,R4,S4,q3,?_,((k.rt.at s1).at s24),(k.nx.at s1).at s24,?_⟩
    . intro σd5 st5 q5 α5 G5 H5 σ5 s5 P5 R5 S5;exact⟨α5,σd5,st5,G5,s24.trans s5,P5,R5,S5,q5⟩
    . intro σd5 st5 q5 α5 G5 H5 σ5 s5 P5 R5 S5;exact⟨α5,σd5,st5,G5,s24.trans s5,P5,R5,S5,q5⟩
end
def d9(fr:List (Option Nat))(σ:bc):bc:=fr.map λ o=>o.bind λ j=>(σ[j]?).join
theorem bV.comp{α:List (Option Addr)}{G:Hp}{σd:bc}{σ:L2.St}{fr:List (Option Nat)}(h:bV α G σd σ):bV α G (d9 fr σd) (σC fr σ):=by
 refine⟨by unfold d9 σC;simp,λ i d e=>?_⟩;unfold d9 at e;rw[Hb]at e;cases q:fr[i]? with
 |none=>rw[q]at e;cases e
 |some o=>
  rw[q]at e;cases o with
  |none=>simp at e
  |some j=>
   simp only[IK,Option.some.injEq,Option.bind_some]at e
   have ej:σd[j]?=some (some d):=by
    cases r:σd[j]? with
    |none=>rw[r]at e;cases e
    |some u=>rw[r]at e;simp at e;rw[e]
   obtain⟨v,ev,rv⟩:=h.at' j d ej;refine⟨v,?_,rv⟩;unfold σC;rw[Hb,q];simp[ev]
def bT(tg:cQ)(c:DT)(te:DE)(ok:af->Prop)(σc:bc):List D->List D->af->(List D->af->Prop)->Prop
 | [],acc,st,K=>ok st/\K acc st
 |x::xs,acc,st,K=>ok st/\∃σ2,tg x σc=some σ2/\c σ2 st λ b st1=>if b=true then te σ2 st1 λ y st2=>bT tg c te ok σc xs (acc++[y]) st2 K else bT tg c te ok σc xs acc st1 K
def bz(src:DI)(fr:List (Option Nat))(tg:cQ)(c:DT)(te:DE):DE:=λ σ st K=>src σ st λ xs ok st1=>xs.length<=sizeLine/\bT tg c te ok (d9 fr σ) xs [] st1 λ ys st2=>K (.lst ys) st2
def bp:DT:=λ _ st K=>K true st
def qS(fr:List (Option Nat))(tg:cQ):Prop:=∀(σ:bc) (d:D) (σ2:bc),tg d (d9 fr σ)=some σ2->σ2.length=(d9 fr σ).length/\∀(i:Nat) (e:D),(d9 fr σ)[i]?=some (some e)->σ2[i]?=some (some e)
theorem kq{fr:List (Option Nat)}{σ:bc}{k:Nat}(h:fr[k]?=some none){e:D}(q:(d9 fr σ)[k]?=some (some e)):False:=by
 unfold d9 at q;rw[Hb,h]at q;simp at q
theorem c_{fr:List (Option Nat)}{k:Nat}(h:fr[k]?=some none:=by rfl):qS fr (cm k):=λ σ d σ2 e=>by
 cases e;refine⟨HZ,λ i x q=>?_⟩;by_cases hi:i=k
 . subst hi;exact(kq h q).elim
 . rw[HB (HP hi)];exact q
theorem cN{fr:List (Option Nat)}{k j:Nat}(h:fr[k]?=some none:=by rfl)(h':fr[j]?=some none:=by rfl):qS fr (bX k j):=λ σ d σ2 e=>by
 unfold bX at e;split at e
 . cases e;refine⟨by rw[HZ,HZ],λ i x q=>?_⟩;by_cases hi:i=k
   . subst hi;exact(kq h q).elim
   . by_cases hj:i=j
     . subst hj;exact(kq h' q).elim
     . rw[HB (HP hj),HB (HP hi)];exact q
 . cases e
section
variable {X:Cx}
theorem CW{c:Expr}{t:DT}(h:PT X c (LT t)):lY X [c] (LT t):=zU h
theorem ym:lY X [] (LT bp):=λ pins s σ H Q I ⟨α,σd,st,K,G,F,P,R,S,t,k⟩=>Au pins s σ H Q I (k true st t α G H Step.refl P S)
theorem LE.comp{src:DI}{fr:List (Option Nat)}{tg:cQ}{c:DT}{te:DE}(fit:qS fr tg){σ:L2.St}{H:Hp}{Q:VK}{α:List (Option Addr)}{σd:bc}{st:af}{KE:List D->af->Prop}{G F:Hp}(P:a8 G F H)(R:bV α G σd σ)(S:aB α st G)
 (t:src σd st λ xs ok st1=>xs.length<=sizeLine/\bT tg c te ok (d9 fr σd) xs [] st1 KE)
 (fin:∀ys st2 α2 G2 H2 l vs,KE ys st2->Step α G α2 G2->a8 G2 (upd F l (.lst vs)) H2->F l=none->aB α2 st2 G2->ao α2 G2 ys vs->Q (.ref l) H2):
 nP (LI src) fr (LG tg) (LT c) (LE te) σ H Q:=by
 refine⟨α,σd,st,_,G,F,P,R,S,t,λ xs ok st1 q J α1 G1 H1 s1 P1 S1 it l hl=>?_⟩;obtain⟨hsz,q⟩:=q;obtain⟨hG,hF⟩:=P1.none hl
 refine⟨λ i m σ' H'=>∃α' st' G' acc vs,Step α1 G1 α' G'/\a8 G' (upd F l (.lst vs)) H'/\bV α' G' (d9 fr σd) σ'/\aB α' st' G'/\ao α' G' acc vs/\acc.length<=i/\i<=xs.length/\bT tg c te ok (d9 fr σd) (xs.drop i) acc st' KE/\m=xs.length-i,
  ⟨xs.length,α1,st1,G1,[],[],Step.refl,P1.hide hl,(R.step s1).comp,S1,by unfold ao;rfl,G8 _,IS _,q,rfl⟩,?_⟩
 rintro i m σ2 H2 ⟨α2,st2,G2,acc,vs,s2,P2,R2,S2,ra,hacc,hi,q2,rfl⟩;cases e:xs[i]? with
 |none=>
  have hl2:xs.length<=i:=Kk.mp e;rw[KD hl2]at q2;unfold bT at q2;exact .inl ⟨it.stop i α2 G2 _ H2 st2 s2 P2 S2 q2.1 hl2,fin acc st2 α2 G2 H2 l vs q2.2 (s1.trans s2) P2 hF S2 ra⟩
 |some d=>
  have hl2:i<xs.length:=(GW.mp e).1
  have ed:xs.drop i=d::xs.drop (i+1):=by
   rw[IF hl2];congr 1;rw[G0 hl2]at e;exact HS e
  rw[ed]at q2;unfold bT at q2;obtain⟨aF,σ3,e3,q3⟩:=q2;refine .inr ⟨it.go i d α2 G2 _ H2 st2 s2 P2 S2 aF e,λ σ' H'=>∃α' st' G' acc vs,Step α1 G1 α' G'/\a8 G' (upd F l (.lst vs)) H'/\bV α' G' (d9 fr σd) σ'/\aB α' st' G'/\ao α' G' acc vs/\acc.length<=i+1/\bT tg c te ok (d9 fr σd) (xs.drop (i+1)) acc st' KE,?_,?_⟩
  . rintro σ' H' ⟨α',st',G',acc',vs',z1,z2,z3,z4,z5,z6,z7⟩;exact⟨xs.length-(i+1),by omega,α',st',G',acc',vs',z1,z2,z3,z4,z5,z6,hl2,z7,rfl⟩
  . intro x H' y;obtain⟨G3,s3,P3,S3,r3⟩:=it.ia i d α2 G2 _ H2 st2 x H' s2 P2 S2 aF e y;refine⟨α2,d9 fr σd,st2,d,λ σ' st'=>σ'=σ3/\st'=st2,G3,_,P3,R2.step s3,S3,r3,⟨σ3,e3,rfl,rfl⟩,?_⟩;rintro σ' st' ⟨rfl,rfl⟩ α4 G4 H4 σ4 s4 P4 R4 S4;have s24:=(s2.trans s3).trans s4;have Rc:bV α4 G4 (d9 fr σd) σ4:=⟨by rw[<-(fit σd d σ' e3).1];exact R4.len,λ j z hz=>R4.at' j z ((fit σd d σ' e3).2 j z hz)⟩
    refine⟨α4,σ',st',_,G4,_,P4,R4,S4,q3,λ b st5 q5 α5 G5 H5 s5 P5 S5=>?_⟩;cases b with
    |false=>exact⟨α5,st5,G5,acc,vs,s24.trans s5,P5,Rc.step s5,S5,((ra.step s3).step s4).step s5,by omega,q5⟩
    |true=>
     refine⟨α5,σ',st5,_,G5,_,P5,R4.step s5,S5,q5,λ z st6 q6 α6 G6 H6 v6 s6 P6 S6 r6=>?_⟩;have hr:=(((ra.step s3).step s4).step s5).step s6;refine⟨vs,(P6.frame a9).1,by rw[<-hr.length];omega,α6,st6,G6,acc++[z],vs++[v6],(s24.trans s5).trans s6,?_,(Rc.step s5).step s6,S6,aV.mpr (cM (aV.mp hr) (.cons r6 .nil)),by rw[GX,KI];omega,q6⟩;have:=P6.Gv (p:=l) (o':= .lst (vs++[v6])) a9;rw[Ah]at this;exact this
theorem BW{scope:Scope}{Nc:List Str}{elt tg iter:Expr}{ifs:List Expr}{pos:Pos}{src:DI}{fr:List (Option Nat)}{dtg:cQ}{c:DT}{te:DE}(S:bg X scope Nc fr)(hi:PI X tg iter (LI src))
 (hg:∀C s H ex,PG (dv X scope Nc C s H ex) tg (LG dtg)) (ht:∀C s H ex,lY (dv X scope Nc C s H ex) ifs (LT c)) (he:∀C s H ex,PE (dv X scope Nc C s H ex) elt (LE te)) (fit:qS fr dtg)
 (hx:X.xe=λ _ _=>False:=by rfl) (hc:X.calm=true:=by rfl) (hs:∀x,foldedSetIterable iter X.env x=pure x:=by intro _;rfl):PE X (.ListComp elt [⟨tg,iter,ifs,0⟩] scope pos) (LE (bz src fr dtg c te)):=
 PE.imp (AG hx hc S hi hg ht he hs) λ σ H Q ⟨α,σd,st,K,G,F,P,R,S,t,k⟩=>LE.comp fit P R S t λ ys st2 α2 G2 H2 l vs q s2 P2 hl S2 r=>by
  have hg:G2 l=none:=(P2.frame a9).2;refine k _ st2 q α2 (upd G2 l (.lst vs)) H2 (.ref l) (s2.trans (Step.laid hg)) (P2.show hl) (S2.laid hg) ?_;unfold Rep;exact⟨l,vs,rfl,S2.ip hg,.of a9,r.step (Step.laid hg)⟩
theorem zT{st:Stmt}{k:Nat}{src:DI}{fr:List (Option Nat)}{dtg:cQ}{c:DT}{te:DE}(fit:qS fr dtg)(h:PS X st (iC (nP (LI src) fr (LG dtg) (LT c) (LE te)) (gu k))):PS X st (LS (aP k (bz src fr dtg c te))):=
 PS.imp h λ D σ H ⟨α,σd,st,DD,G,F,P,R,S,t,q⟩=>LE.comp fit P R S t λ ys st2 α2 G2 H2 l vs qq s2 P2 hl S2 r=>by
  have hg:G2 l=none:=(P2.frame a9).2;have s3:=s2.trans (Step.laid (o:= .lst vs) hg);refine q.nx _ st2 qq α2 (upd G2 l (.lst vs)) H2 _ s3 (P2.show hl) ((R.step s3).set k ?_) (S2.laid hg);unfold Rep;exact⟨l,vs,rfl,S2.ip hg,.of a9,r.step (Step.laid hg)⟩
def aY(N:List Str)(ds:List D):bc:=ds.map some++List.replicate (N.length-ds.length) none
theorem bV.start{α:List (Option Addr)}{G:Hp}{N:List Str}{ds:List D}{vs:List V}(r:ao α G ds vs):bV α G (aY N ds) (L2.start N vs):=by
 have hl:=r.length;refine⟨by unfold aY L2.start;simp[hl],λ i d e=>?_⟩;unfold aY at e;by_cases hi:i<ds.length
 . rw[HF (by simpa using hi),Hb]at e;cases q:ds[i]? with
   |none=>rw[q]at e;cases e
   |some x=>
    rw[q]at e;cases e;obtain⟨v,ev,rv⟩:=r.get q;refine⟨v,?_,rv⟩;unfold L2.start;rw[HF (by rw[GV];omega),Hb,ev];rfl
 . rw[HQ (by simpa using hi),Kv]at e;split at e<;>cases e
theorem EV{P:Program}{w:World}{K:PySem.W.Frag}{mg:Str->Option Value}{base:Heap}{x qual:Str}{st:Stmt}{f:Addr}{fd:FuncData}{N ps:List Str}{k:Nat}{sp:bC}{t:DS}(F:h_ K x qual st f fd)(S:gE N ps (aA st))
 (hbody:∀(cdv:Value) (A:Around) (outer:List Env) (s:Shared) (H:Hp) (E:XK),bW k (A.deeper (envOfC qual (aA st) s.heap.objs.size f cdv))->de (jx fA P w K mg base N qual (aA st) f cdv A outer s H E).oX (dD st) (LS t))
 (hsp:∀ds st K,sp ds st K->ds.length=ps.length/\t {nx:=λ _ st'=>K .aH st',rt:=K} (aY N ds) st):cK P w K mg base fA (k+1) f fd ps (hX sp):=by
 refine F.ok S (λ vs H Q E h=>?_) λ cdv A outer s H vs Q E hr h=>⟨_,hbody cdv A outer s H E hr,?_⟩
 . obtain⟨α,ds,st,K,G,F,P,r,S,q,k⟩:=h;rw[<-r.length];exact(hsp ds st K q).1
 . obtain⟨α,ds,st,K,G,F,P,r,S,q,k⟩:=h;refine⟨α,aY N ds,st,_,G,F,P,bV.start r,S,(hsp ds st K q).2,?_,k,?_,?_⟩
   . intro σd' st' kk α' G' H' σ' s' P' R' S';exact k .aH st' kk α' G' H' .aH s' P' S' (by unfold Rep;rfl)
   . intro σd' st' kk;exact kk.elim
   . intro σd' st' kk;exact kk.elim
def je(to te:DE):DE:=λ σ st K=>to σ st λ x st1=>match x with
 | .ref n=>(match st1[n]? with
   |some (.lst _)=>te σ st1 λ y st2=>∃y',[y]=[y']/\(match st2[n]? with|some (.lst xs)=>xs.length<sizeLine/\K .aH (st2.set n (.lst (xs++[y'])))|_=>False)
   |_=>False)
 |_=>False
end
structure dX(K:PySem.W.Frag)(mg:Str->Option Value)(x qual:Str)(st:Stmt)(ps:List Str)(f:Addr)(fd:FuncData):Prop where
 fn:h_ K x qual st f fd
 mg:mg x=some (.ref f)
 bd:Binds K fd ps []
def xo(sc:Scope)(N:List Str)(scope:Scope)(Nc:List Str)(fr:List (Option Nat)):Bool:=
 (scope.kind== .function)&&scope.names.all (λ x=>x.2 != .cell||scope.names.lookup x.1==some .cell)&&scope.names.all (λ x=>x.2 != .local||scope.names.lookup x.1==some .local)&&
 scope.names.all (λ x=>x.2 != .free||sc.names.lookup x.1==some .cell||sc.names.lookup x.1==some .free)&&(fr.length==Nc.length)&&
 (List.range fr.length).all λ i=>match fr[i]?,Nc[i]? with
   |some (some j),some x=>(N[j]?==some x)&&(scope.names.lookup x==some .free)&&(sc.names.lookup x==some .cell||sc.names.lookup x==some .free)
   |_,_=>true
theorem bg.look{X:Cx}{scope:Scope}{Nc:List Str}{fr:List (Option Nat)}(sc:Scope)(N:List Str)(h:xo sc N scope Nc fr=true)(hsc:X.env.scope=sc:=by rfl)(hN:X.N=N:=by rfl):bg X scope Nc fr:=by
 unfold xo at h;simp only[Ho]at h;obtain⟨⟨⟨⟨⟨h1,h2⟩,h3⟩,h4⟩,h5⟩,h6⟩:=h;subst hsc hN;refine⟨by simpa using h1,λ x hx hk=>?_,λ x hx hk=>?_,λ x hx hk=>?_,by simpa using h5,λ i j x e1 e2=>?_⟩
 . have:=HH.mp h2 x hx;rw[hk]at this;simpa using this
 . have:=HH.mp h3 x hx;rw[hk]at this;simpa using this
 . have:=HH.mp h4 x hx;rw[hk]at this;have z:X.env.scope.names.lookup x.1=some .cell\/X.env.scope.names.lookup x.1=some .free:=by simpa using this
   exact z
 . have hi:i<fr.length:=(GW.mp e2).1;have:=HH.mp h6 i (KH.mpr hi);rw[e1,e2]at this;simp only[Ho,JN,KR]at this;exact⟨this.1.1,this.1.2,this.2⟩
section
variable {X:Cx}
theorem Gb{e:Expr}{es:List Expr}{pos p:Pos}{x:Str}{id:String}{r:b9}{t:DA}(hc:aN X (.builtin id) (cJ r))(ha:PA X (e::es) (LA t))(hm:X.mg x=none)(hv:bootBuiltins x=some (.builtin id))(hg:Gl X x:=by rfl)(hn:x≠"__name__":=by decide)(hdb:(x==("__debug__":Str))=false:=by decide)
 (he:starEach (e::es) X.env=(false,eval e X.env)::starEach es X.env:=by rfl) (hpl:(backTo pos (starEach es X.env)).any (·.1)=false:=by rfl):PE X (.Call (.Name x p) (e::es) [] pos) (LE (aU r t)):=PE.imp (yS hc hg hm hv ha hn hdb he hpl) λ _ _ _ h=>LE.cb h
theorem FQ{e:Expr}{es:List Expr}{pos p:Pos}{x:Str}{T:String}{r:b9}{t:DA}(hc:aN X (.type T) (cJ r))(ha:PA X (e::es) (LA t))(hm:X.mg x=none)(hv:bootBuiltins x=some (.type T))(hg:Gl X x:=by rfl)(hn:x≠"__name__":=by decide)(hdb:(x==("__debug__":Str))=false:=by decide)
 (he:starEach (e::es) X.env=(false,eval e X.env)::starEach es X.env:=by rfl) (hpl:(backTo pos (starEach es X.env)).any (·.1)=false:=by rfl):PE X (.Call (.Name x p) (e::es) [] pos) (LE (aU r t)):=PE.imp (xt hc hg hm hv ha hn hdb he hpl) λ _ _ _ h=>LE.cb h
theorem F_{pos:Pos}{x:Str}{T:String}(hm:X.mg x=none)(hv:bootBuiltins x=some (.type T))(hg:Gl X x:=by rfl)(hn:x≠"__name__":=by decide)(hdb:(x==("__debug__":Str))=false:=by decide):PE X (.Name x pos) (LE (dC (.ty T))):=
 gD (v:= .ty T) (AB hg hm hv rfl hn hdb) λ _ _=>by unfold Rep;rfl
theorem F0{e:Expr}{es:List Expr}{pos p:Pos}{x qual:Str}{st:Stmt}{ps:List Str}{f:Addr}{fd:FuncData}{k:Nat}{S:bC}{t:DA}(A:dX X.K X.mg x qual st ps f fd)(F:cK X.prog X.w X.K X.mg X.base fA k f fd ps (hX S))(hr:bW k X.A)
 (ha:PA X (e::es) (LA t)) (hg:Gl X x:=by rfl) (hdb:(x==("__debug__":Str))=false:=by decide) (he:starEach (e::es) X.env=(false,eval e X.env)::starEach es X.env:=by rfl) (hpl:(backTo pos (starEach es X.env)).any (·.1)=false:=by rfl):
 PE X (.Call (.Name x p) (e::es) [] pos) (LE (ax S t)):=CN F hr hg A.mg A.fn.kp A.bd ha hdb he hpl
def i7(r r':bx)(ta tb tc:DE):DE:=λ σ st K=>ta σ st λ x st1=>tb σ st1 λ y st2=>r x y st2 λ z st3=>match z with
 | .bl b=>if b=true then tc σ st3 λ w st4=>r' y w st4 K else K (.bl false) st3
 |_=>False
theorem LE.chain{r r':bx}{ta tb tc:DE}{σ:L2.St}{H:Hp}{Q:VK}(h:LE (i7 r r' ta tb tc) σ H Q):wc (LR r) (LR r') (LE ta) (LE tb) (LE tc) σ H Q:=by
 obtain⟨α,σd,st,K,G,F,P,R,S,t,k⟩:=h;refine⟨α,σd,st,_,G,F,P,R,S,t,λ d st1 q α1 G1 H1 v s1 P1 S1 r1=>?_⟩;refine⟨α1,σd,st1,_,G1,F,P1,R.step s1,S1,q,λ d2 st2 q2 α2 G2 H2 v2 s2 P2 S2 r2=>?_⟩;refine⟨α2,d,d2,st2,_,G2,F,P2,r1.step s2,r2,S2,q2,λ z st3 q3 α3 G3 H3 v3 s3 P3 S3 r3=>?_⟩;cases z<;>try exact q3.elim
 rename_i b;unfold Rep at r3;refine⟨b,r3,?_⟩;cases b with
 |false=>exact((k.at s1).at s2).at s3 _ st3 q3 α3 G3 H3 _ Step.refl P3 S3 (by unfold Rep;rfl)
 |true=>exact⟨α3,σd,st3,_,G3,F,P3,((R.step s1).step s2).step s3,S3,q3,λ d4 st4 q4 α4 G4 H4 v4 s4 P4 S4 r4=>⟨α4,d2,d4,st4,K,G4,F,P4,(r2.step s3).step s4,r4,S4,q4,(((k.at s1).at s2).at s3).at s4⟩⟩
theorem yD{a b c:Expr}{ta tb tc:DE}{pos:Pos}{op op':CmpOp}{r r':bx}(ho:aQ X (compareOp op) (LR r))(ho':aQ X (compareOp op') (LR r'))(ha:PE X a (LE ta))(hb:PE X b (LE tb))(hc:PE X c (LE tc))
 (hm:lastMarks [op,op'] [b,c]=false:=by with_unfolding_all rfl):PT X (.Compare a [op,op'] [b,c] pos) (LT (aG (i7 r r' ta tb tc))):=PT.imp (yC ho ho' ha hb hc hm) λ σ H Q h=>LE.chain (Q:=λ x H'=>∃k,x= .bl k/\Q k H') (LT.test h)
theorem LE.append{to te:DE}{σ:L2.St}{H:Hp}{Q:VK}(h:LE (je to te) σ H Q):Ca X.K "list" t_ (LE to) (LA (aa te ag)) σ H Q:=by
 obtain⟨α,σd,st,K,G,F,P,R,S,t,k⟩:=h;refine⟨α,σd,st,_,G,F,P,R,S,t,λ x st1 q α1 G1 H1 v s1 P1 S1 r1=>?_⟩;cases x<;>try exact q.elim
 rename_i n;simp only at q;split at q
 . rename_i ys e;obtain⟨p,ep,vs,h1,h2⟩:=S1.fi e;have r1':=ee ep r1;subst r1';refine⟨.inl ⟨rfl,vs,.inl (.of (P1.get h1))⟩,α1,σd,st1,λ ds st2=>∃y,ds=[y]/\(match st2[n]? with|some (.lst xs)=>xs.length<sizeLine/\K .aH (st2.set n (.lst (xs++[y])))|_=>False),G1,F,P1,R.step s1,S1,?_,?_⟩
   . refine Eq.mp ?_ q;rfl
   . rintro ds st2 ⟨y,rfl,q2⟩ α2 G2 H2 ws s2 P2 S2 r2;obtain⟨w,rfl,rw'⟩:=da r2 rfl;split at q2
     . rename_i xs e2;obtain⟨p2,ep2,us,g1,g2⟩:=S2.fi e2
       have:p2=p:=by
        rcases s2.pre _ _ ep with z|z<;>(rw[z]at ep2;cases ep2)
        rfl
       subst this;have hm:some p2∈α2:=Hk ep2;refine⟨p2,us,w,rfl,rfl,P2.get g1,by rw[<-g2.length];exact q2.1,?_⟩;refine((k.at s1).at s2) _ _ q2.2 α2 (upd G2 p2 (.lst (us++[w]))) _ .aH (Step.write hm) (P2.write g1) ?_ (by unfold Rep;rfl);exact S2.write ep2 ⟨us++[w],a9,(aV.mpr (cM (aV.mp g2) (.cons rw' .nil))).step (Step.write hm)⟩
     . exact q2.elim
 . exact q.elim
theorem yx{o e:Expr}{to te:DE}{apos cpos:Pos}(ho:PE X o (LE to))(he:PE X e (LE te))(hbase:attributeBase o "append" X.env (eval o X.env)=eval o X.env:=by rfl)
 (hfew:((backTo cpos (starEach [e] X.env)).all (λ x=> !x.1)&&(backToKw cpos (keywordEach [] X.env)).all (λ x=>x.1.isSome)
   &&decide (([e]:List Expr).length+([]:List Keyword).length+(if([]:List Keyword).isEmpty then 0 else 1)<30))=true:=by rfl)
 (hline:(apos.endLine==cpos.line)=true:=by rfl) (hs:starEach [e] X.env=(false,eval e X.env)::starEach [] X.env:=by rfl) (hplain:(backTo cpos (starEach [] X.env)).any (·.1)=false:=by rfl):PE X (.Call (.Attribute o "append" apos) [e] [] cpos) (LE (je to te)):=
 PE.imp (zH PySem.F.plainAttrs_list PySem.F.slot_list_append PySem.F.type_list_append o_ ho (oj he rF hs) hbase hfew hline hs hplain) λ _ _ _ h=>LE.append h
end
end L3
namespace L3
open PySem L2
open PySem.Spec hiding items?
open PyProof.Rows hiding St
section
variable {X:Cx}
@[irreducible] def bh:bx:=y_
theorem cX:aQ X (binaryOp .Add) (LR bh):=by unfold bh;exact EN
@[irreducible] def eZ:bx:=zi
theorem qf:aQ X (binaryOp .Sub) (LR eZ):=by unfold eZ;exact EA
@[irreducible] def cL:bx:=zy
theorem zI:aQ X (binaryOp .Mult) (LR cL):=by unfold cL;exact El
@[irreducible] def eG:bx:=vM
theorem qz:aQ X (binaryOp .FloorDiv) (LR eG):=by unfold eG;exact C1
@[irreducible] def gm:bx:=zC
theorem zf:aQ X (binaryOp .Mod) (LR gm):=by unfold gm;exact Eo
@[irreducible] def ir:bx:=zc
theorem zP:aQ X (binaryOp .Pow) (LR ir):=by unfold ir;exact Ez
@[irreducible] def i6:bx:=BA
theorem oz:aQ X (compareOp .Lt) (LR i6):=by unfold i6;exact F9
@[irreducible] def gW:bx:=Bw
theorem oy:aQ X (compareOp .LtE) (LR gW):=by unfold gW;exact FF
@[irreducible] def lR:bx:=B9
theorem uW:aQ X (compareOp .Gt) (LR lR):=by unfold lR;exact Gd
@[irreducible] def tW:bx:=C0
theorem x6:aQ X (compareOp .GtE) (LR tW):=by unfold tW;exact F7
@[irreducible] def fv:bx:=BI
theorem gS:aQ X (compareOp .NotEq) (LR fv):=by unfold fv;exact FJ
@[irreducible] def ck:bx:=Cr
theorem cx{k:Nat}(hr:bW k X.A):aQ X (compareOp .Eq) (LR ck):=by unfold ck;exact FO hr
@[irreducible] def kz:qY:=zm
theorem Ei:uv X (unaryOp .USub) (zJ kz):=by unfold kz;exact E1
@[irreducible] def cp:bx:=jk
theorem Gg{a b:Expr}{ta tb:DE}{pos:Pos}(ha:PE X a (LE ta))(hb:PE X b (LE tb))(hs:gC b:=by intro _ _;rfl):PE X (.Subscript a b pos) (LE (aj cp ta tb)):=by unfold cp;exact FR ha hb hs
@[irreducible] def bP:b9:=mX
theorem bU:aN X (.builtin "len") (cJ bP):=by unfold bP;exact D6
@[irreducible] def iz:b9:=uA
theorem zo:aN X (.builtin "abs") (cJ iz):=by unfold iz;exact E_
@[irreducible] def om:b9:=vL
theorem uO(hc:X.calm=true):aN X (.builtin "max") (cJ om):=by unfold om;exact EL hc
@[irreducible] def oN:b9:=vj
theorem zM(hc:X.calm=true):aN X (.builtin "min") (cJ oN):=by unfold oN;exact EB hc
@[irreducible] def jr:b9:=ve
theorem pR:aN X (.type "int") (cJ jr):=by unfold jr;exact Em
@[irreducible] def cH:b9:=k7
theorem dU:aN X (.type "tuple") (cJ cH):=by unfold cH;exact Bn
@[irreducible] def jK:b9:=qd
theorem pZ(hc:X.calm=true):aN X (.builtin "all") (cJ jK):=by unfold jK;exact Et hc
@[irreducible] def ff:b9:=qj
theorem fP:aN X (.builtin "isinstance") (cJ ff):=by unfold ff;exact Ef
@[irreducible] def oa:D->af->(List D->(af->Prop)->af->Prop)->Prop:=vb
def cu(t:DE):DI:=λ σ st K=>t σ st λ d st1=>oa d st1 K
theorem BX{l tg:Expr}{tl:DE}(hl:PE X l (LE tl)):PI X tg l (LI (cu tl)):=by unfold cu oa;exact DM hl
@[irreducible] def p9:List D->af->(List D->(af->Prop)->af->Prop)->Prop:=zh
def eQ(t:DA):DI:=λ σ st K=>t σ st λ ds st1=>p9 ds st1 K
theorem xg{tg iter:Expr}{t:DA}(h:PI X tg iter (uB (LA t))):PI X tg iter (LI (eQ t)):=by unfold eQ p9;exact v5 h
@[irreducible] def ux:D->D->D->af->(af->Prop)->Prop:=u9
def kH(to ti te:DE):DS:=λ D σ st=>te σ st λ d st1=>to σ st1 λ x st2=>ti σ st2 λ y st3=>ux x y d st3 λ st4=>D.nx σ st4
theorem yy{st:Stmt}{to ti te:DE}(h:PS X st (iC (LE te) (vA (LE to) (LE ti) pU))):PS X st (LS (kH to ti te)):=by unfold kH ux;exact yH h
end
section
variable {st:af}{K:DK}{i j:Int}{b c:Bool}{xs ys:List D}{d e:D}{n:Nat}
theorem cV(k:K (.int (i+j)) st):bh (.int i) (.int j) st K:=by unfold bh;exact k
theorem tP(h:xs.length+ys.length<=sizeLine)(k:K (.tup (xs++ys)) st):bh (.tup xs) (.tup ys) st K:=by unfold bh;exact⟨h,k⟩
theorem zQ(h:xs.length+ys.length<=sizeLine)(k:K (.lst (xs++ys)) st):bh (.lst xs) (.lst ys) st K:=by unfold bh;exact⟨h,k⟩
theorem eh(k:K (.int (i-j)) st):eZ (.int i) (.int j) st K:=by unfold eZ;exact⟨trivial,k⟩
theorem cW(h:IntMulOk i j)(k:K (.int (i*j)) st):cL (.int i) (.int j) st K:=by unfold cL;exact⟨h,k⟩
theorem dY(h: -(2^63)<=i/\i<2^63/\xs.length*i.toNat<=sizeLine)(k:K (.tup (List.replicate i.toNat xs).flatten) st):cL (.tup xs) (.int i) st K:=by unfold cL;exact⟨h,k⟩
theorem dA(h0:j≠0)(h:j.natAbs.log2<9000)(k:K (.int (i.fdiv j)) st):eG (.int i) (.int j) st K:=by unfold eG;exact⟨⟨h0,h⟩,k⟩
theorem gb(h0:j≠0)(k:K (.int (i.fmod j)) st):gm (.int i) (.int j) st K:=by unfold gm;exact⟨h0,k⟩
theorem kf(h:yg i j)(k:K (.int (i^j.toNat)) st):ir (.int i) (.int j) st K:=by unfold ir;exact⟨h,k⟩
theorem qm(k:K (.bl (decide (i<j))) st):i6 (.int i) (.int j) st K:=by unfold i6;exact⟨trivial,k⟩
theorem kP(k:K (.bl (decide (i<=j))) st):gW (.int i) (.int j) st K:=by unfold gW;exact⟨trivial,k⟩
theorem pY(k:K (.bl (decide (j<i))) st):lR (.int i) (.int j) st K:=by unfold lR;exact⟨trivial,k⟩
theorem EO(k:K (.bl (decide (j<=i))) st):tW (.int i) (.int j) st K:=by unfold tW;exact⟨trivial,k⟩
theorem vH(k:K (.bl (!decide (i=j))) st):fv (.int i) (.int j) st K:=by unfold fv;exact k
theorem aT(h1:pl 40 d=true)(h2:pl 40 e=true)(k:K (.bl (bN d e)) st):ck d e st K:=by unfold ck;exact⟨h1,h2,k⟩
theorem As(a b:Int):(a==b)=decide (a=b):=by
 by_cases h:a=b
 . subst h;simp
 . simp[h]
theorem jY(k:K (.bl (decide (i=j))) st):ck (.int i) (.int j) st K:=by
 refine aT rfl rfl ?_;have:bN (.int i) (.int j)=decide (i=j):=by unfold bN;exact As i j
 rw[this];exact k
theorem rP(k:K (.int (-i)) st):kz (.int i) st K:=by unfold kz;exact k
theorem yi(h:items? st d=some xs)(a:cR xs i=some e)(k:K e st):jk d (.int i) st K:=by
 cases d<;>unfold items? at h<;>first
  |(cases h;done)
  |(cases h;simp only[jk,a];exact k)
  |(simp only at h
    split at h
    . rename_i q;cases h;simp only[jk,q,a];exact k
    . cases h)
theorem ba(h:items? st d=some xs)(a:cR xs i=some e)(k:K e st):cp d (.int i) st K:=by unfold cp;exact yi h a k
theorem cj(h:items? st d=some xs)(k:K (.int xs.length) st):bP [d] st K:=by
 unfold bP mX;split
 . rename_i z;cases z;cases h
 . rename_i z;cases z;rw[h];exact k
 . rename_i z1 z2;exact absurd rfl (z2 d)
theorem zZ(i:Int):(if i<0 then-i else i)=((i.natAbs:Nat):Int):=by split<;>omega
theorem kj(k:K (.int ((i.natAbs:Nat):Int)) st):iz [.int i] st K:=by unfold iz;show K (.int (if i<0 then-i else i)) st;rw[zZ];exact k
theorem wB(k:K (.int (if j>i then j else i)) st):om [.int i,.int j] st K:=by unfold om;exact k
theorem xC(k:K (.int (if j<i then j else i)) st):oN [.int i,.int j] st K:=by unfold oN;exact k
theorem iU(k:K (.int (if b then 1 else 0)) st):jr [.bl b] st K:=by unfold jr;exact k
theorem dj(h:items? st d=some xs)(k:K (.tup xs) st):cH [d] st K:=by unfold cH k7;simp only[h];exact k
theorem nM{bs:List Bool}(h:cS xs=some bs)(k:K (.bl (bs.all id)) st):jK [.lst xs] st K:=by unfold jK qd;simp only[h];exact k
theorem cA{t c:String}(h:dZ st d=some t)(hc:c∈gB)(k:K (.bl (mv t c)) st):ff [d,.ty c] st K:=by unfold ff qj;simp only[h];exact⟨hc,k⟩
theorem d5{K:List D->(af->Prop)->af->Prop}(k:K xs (λ _=>True) st):oa (.lst xs) st K:=by unfold oa;exact k
theorem n_{K:List D->(af->Prop)->af->Prop}(k:K xs (λ _=>True) st):oa (.tup xs) st K:=by unfold oa;exact k
theorem kW{K:List D->(af->Prop)->af->Prop}(h: -(2^62)<=j/\j<2^62)(k:K (dq 0 j.toNat) (λ _=>True) st):p9 [.int j] st K:=by unfold p9;exact⟨h,k⟩
theorem wM{K:af->Prop}{m:Nat}(h:st[n]?=some (.lst xs))(e:ki xs.length i=some m)(k:K (st.set n (.lst (xs.set m d)))):ux (.ref n) (.int i) d st K:=by unfold ux u9;simp only[h,e];exact k
end
def vP(K:PySem.W.Frag):Bool:=K.all λ p=>p.2.cls != .type "list"
theorem l5{a:Addr}{o:Obj}:∀ {l:List (Addr×Obj)},l.lookup a=some o->(a,o)∈l
 | [],h=>by cases h
 |(b,u)::r,h=>by
  rw[HU]at h;split at h
  . rename_i z;cases h;have:a=b:=by simpa using z
    subst this;exact Hm
  . exact G7 _ (l5 h)
theorem pM{K:PySem.W.Frag}(h:vP K=true){a:Addr}{o:Obj}(e:K.lookup a=some o):o.cls≠ .type "list":=by
 have:=HH.mp h (a,o) (l5 e);simpa using this
theorem pA{α:List (Option Addr)}{G:Hp}:∀ns:List Int,ao α G (ns.map D.int) (ns.map V.int)
 | []=>by unfold ao;rfl
 |n::ns=>by
  rw[Hy,Hy];unfold ao;exact⟨_,_,rfl,by unfold Rep;rfl,pA ns⟩
def notStar:Expr->Bool
 | .Starred .. =>false
 |_=>true
theorem bB{e:Expr}{es:List Expr}{env:Env}(h:notStar e=true):starEach (e::es) env=(false,eval e env)::starEach es env:=by
 cases e<;>first|rfl|cases h
def dW:List Expr->Bool
 | []=>true
 |e::es=>notStar e&&dW es
theorem jj{pos:Pos}{env:Env}:∀ {es:List Expr},dW es=true->(backTo pos (starEach es env)).any (·.1)=false
 | [],_=>rfl
 |e::es,h=>by
  unfold dW at h;rw[Ho]at h;rw[bB h.1];have ih:=jj (pos:=pos) (env:=env) h.2;unfold backTo at ih⊢;rw[Hy,Iz,ih];rfl
def gK:Expr->Bool
 | .Slice .. =>false
 |_=>true
def kc:Expr->Bool
 | .Name .. =>true
 | .Call .. =>true
 | .Subscript .. =>true
 | .Attribute .. =>true
 |_=>false
def fF:Expr->Bool
 | .ListComp .. =>false
 | .SetComp .. =>false
 | .DictComp .. =>false
 |_=>true
section
variable {X:Cx}
theorem yt{b:Expr}(h:gK b=true):gC b:=by
 intro o i;cases b<;>first|rfl|cases h
theorem uD{e:Expr}(h:kc e=true):∀whole,isTrue e X.env whole=(do let v <-whole;standAt e.pos;holding [v] (truthy v)):=by
 intro whole;cases e<;>first|(cases h;done)|rfl
theorem oE{e:Expr}{tg:Option Expr}{n:Nat}{env:Env}(h:fF e=true):swapsWith e tg n env=pure false:=by
 cases e<;>first|(cases h;done)|rfl
theorem yJ{e:Expr}{es:List Expr}{te:DE}{tr:DA}(ha:PE X e (LE te))(hr:PA X es (LA tr))(hs:notStar e=true:=by rfl):PA X (e::es) (LA (aa te tr)):=oj ha hr (bB hs)
theorem DZ{e:Expr}{es:List Expr}{pos p:Pos}{x:Str}{id:String}{r:b9}{t:DA}(hc:aN X (.builtin id) (cJ r))(ha:PA X (e::es) (LA t))(hm:X.mg x=none)(hv:bootBuiltins x=some (.builtin id))(hn:x≠"__name__")(hdb:(x==("__debug__":Str))=false)(hg:Gl X x:=by rfl)(hs:notStar e=true:=by rfl)(hs2:dW es=true:=by rfl):
 PE X (.Call (.Name x p) (e::es) [] pos) (LE (aU r t)):=Gb hc ha hm hv hg hn hdb (bB hs) (jj hs2)
theorem EY{e:Expr}{es:List Expr}{pos p:Pos}{x:Str}{T:String}{r:b9}{t:DA}(hc:aN X (.type T) (cJ r))(ha:PA X (e::es) (LA t))(hm:X.mg x=none)(hv:bootBuiltins x=some (.type T))(hn:x≠"__name__")(hdb:(x==("__debug__":Str))=false)(hg:Gl X x:=by rfl)(hs:notStar e=true:=by rfl)(hs2:dW es=true:=by rfl):
 PE X (.Call (.Name x p) (e::es) [] pos) (LE (aU r t)):=FQ hc ha hm hv hg hn hdb (bB hs) (jj hs2)
theorem Es{e:Expr}{es:List Expr}{pos p:Pos}{x qual:Str}{st:Stmt}{ps:List Str}{f:Addr}{fd:FuncData}{k:Nat}{S:bC}{t:DA}(A:dX X.K X.mg x qual st ps f fd)(F:cK X.prog X.w X.K X.mg X.base fA k f fd ps (hX S))(hr:bW k X.A)
 (ha:PA X (e::es) (LA t)) (hdb:(x==("__debug__":Str))=false) (hg:Gl X x:=by rfl) (hs:notStar e=true:=by rfl) (hs2:dW es=true:=by rfl):
 PE X (.Call (.Name x p) (e::es) [] pos) (LE (ax S t)):=F0 A F hr ha hg hdb (bB hs) (jj hs2)
theorem EM{a b:Expr}{ta tb:DE}{pos:Pos}(ha:PE X a (LE ta))(hb:PE X b (LE tb))(hs:gK b=true:=by rfl):PE X (.Subscript a b pos) (LE (aj cp ta tb)):=Gg ha hb (yt hs)
theorem A7{e:Expr}{te:DE}(he:PE X e (LE te))(h:kc e=true:=by rfl):PT X e (LT (aG te)):=CU he (uD h)
theorem yF{e:Expr}{te:DE}{pos:Pos}(he:PE X e (LE te))(h:fF e=true:=by rfl):PS X (.Expr e pos) (LS (lg te)):=zY he (oE h)
theorem Ac{i:Nat}{x:Str}{e:Expr}{te:TE}{pos pos':Pos}(hN:X.N.Nodup)(hi:X.N[i]?=some x)(hx:Loc X.env.scope x)(he:PE X e te)(hf:X.fn x=true\/X.env.scope.names.lookup x=some .local:=by first|exact .inl rfl|exact .inr rfl)(h:fF e=true:=by rfl):
 PS X (.Assign [.Name x pos'] e pos) (iC te (gu i)):=DC hN hi hx he (oE h) hf
theorem AZ{i:Nat}{x:Str}{pos:Pos}(hd:(x==("__debug__":Str))=false)(hcd:(x==("__classdict__":Str))=false)(hv:qA X.env.scope x)(hN:X.N[i]?=some x:=by rfl):PE X (.Name x pos) (LE (ab i)):=D2 (wC hN hv hd hcd)
theorem Cb{o i e:Expr}{to ti te:TE}{pos pos':Pos}(he:PE X e te)(ho:PE X o to)(hi:PE X i ti)(h1:fF e=true:=by rfl)(h2:gK i=true:=by rfl):PS X (.Assign [.Subscript o i pos'] e pos) (iC te (vA to ti pU)):=
 wL he (Bs ho hi set_list (by intro v;cases i<;>first|rfl|cases h2)) (by unfold swapsWithSole;exact oE h1) (by cases e<;>rfl) rfl
end
@[irreducible] def JE(X:Cx)(e:Expr)(t:DE):Prop:=PE X e (LE t)
@[irreducible] def JT(X:Cx)(e:Expr)(t:DT):Prop:=PT X e (LT t)
@[irreducible] def JW(X:Cx)(e:Expr)(t:DT):Prop:=PW X e (LT t)
@[irreducible] def JA(X:Cx)(es:List Expr)(t:DA):Prop:=PA X es (LA t)
@[irreducible] def JS(X:Cx)(s:Stmt)(t:DS):Prop:=PS X s (LS t)
@[irreducible] def JB(X:Cx)(s:List Stmt)(t:DS):Prop:=de X s (LS t)
@[irreducible] def JG(X:Cx)(e:Expr)(t:cQ):Prop:=PG X e (LG t)
@[irreducible] def JI(X:Cx)(tg e:Expr)(t:DI):Prop:=PI X tg e (LI t)
@[irreducible] def JC(X:Cx)(es:List Expr)(t:DT):Prop:=lY X es (LT t)
section
variable {X:Cx}{a b c e o i:Expr}{es:List Expr}{ta tb tc te to ti:DE}{t u:DT}{ar:DA}{pos p pos':Pos}{s:Stmt}{ss:List Stmt}{T U:DS}
theorem xm{n:Nat}{x:Str}(hd:(x==("__debug__":Str))=false)(hcd:(x==("__classdict__":Str))=false)(hv:qA X.env.scope x)(hN:X.N[n]?=some x:=by rfl):JE X (.Name x pos) (ab n):=by unfold JE;exact AZ hd hcd hv hN
theorem iw{x:Str}{T:String}(hm:X.mg x=none)(hv:bootBuiltins x=some (.type T))(hn:x≠"__name__")(hdb:(x==("__debug__":Str))=false)(hg:Gl X x):JE X (.Name x pos) (dC (.ty T)):=by unfold JE;exact F_ hm hv hg hn hdb
theorem aO{k:Int}{j:Nat}:JE X (.Constant (.int k) j pos) (dC (.int k)):=by unfold JE;exact ER
theorem vz{k:Bool}{j:Nat}:JE X (.Constant (.bool k) j pos) (dC (.bl k)):=by unfold JE;exact FZ
theorem a_{k:Str}{j:Nat}:JE X (.Constant (.str k) j pos) (dC (.str k)):=by unfold JE;exact D7
theorem cn{op:Operator}{r:bx}(ho:aQ X (binaryOp op) (LR r))(ha:JE X a ta)(hb:JE X b tb):JE X (.BinOp a op b pos) (aj r ta tb):=by unfold JE at*;exact FU ho ha hb
theorem vJ(ha:JE X a ta):JE X (.UnaryOp .USub a pos) (ue kz ta):=by unfold JE at*;exact F8 Ei ha
theorem E2(ha:JE X a ta):JE X (.UnaryOp .Not a pos) (vC (aG ta)):=by unfold JE at*;exact E3 ha
theorem kN{op:BoolOp}(ha:JE X a ta):JE X (.BoolOp op [a] pos) ta:=by unfold JE at*;exact Eg ha
theorem m9(ha:JE X a ta)(hb:JE X (.BoolOp .And (b::es) pos) tb):JE X (.BoolOp .And (a::b::es) pos) (jo ta tb):=by unfold JE at*;exact D3 ha hb
theorem DB(ha:JE X a ta)(hb:JE X (.BoolOp .Or (b::es) pos) tb):JE X (.BoolOp .Or (a::b::es) pos) (rL ta tb):=by unfold JE at*;exact FP ha hb
theorem cO{op:CmpOp}{r:bx}(ho:aQ X (compareOp op) (LR r))(hm:behindInMarks op b=false)(ha:JE X a ta)(hb:JE X b tb):JE X (.Compare a [op] [b] pos) (aj r ta tb):=by unfold JE at*;exact Ea ho ha hb hm
theorem zN(hc:JT X c t)(ha:JE X a ta)(hb:JE X b tb):JE X (.IfExp c a b pos) (zk t ta tb):=by unfold JE at*;unfold JT at hc;exact EU hc ha hb
theorem fe{n:Nat}(h:JA X es ar):JE X (.Tuple es n pos) (bj ar):=by unfold JE;unfold JA at h;exact DX h
theorem pW(h:JA X es ar):JE X (.List es pos) (fJ ar):=by unfold JE;unfold JA at h;exact EI h
theorem ql(h:JA X es ar):JE X (.List es pos) (ou ar):=by unfold JE;unfold JA at h;exact EZ h
theorem ah:JA X [] ag:=by unfold JA;exact rF
theorem ae(ha:JE X e te)(hr:JA X es ar)(hs:notStar e=true:=by rfl):JA X (e::es) (aa te ar):=by unfold JA at*;unfold JE at ha;exact yJ ha hr hs
theorem dF(ha:JE X a ta)(hb:JE X b tb)(hs:gK b=true:=by rfl):JE X (.Subscript a b pos) (aj cp ta tb):=by unfold JE at*;exact EM ha hb hs
theorem bf{x:Str}{id:String}{r:b9}(hc:aN X (.builtin id) (cJ r))(ha:JA X (e::es) ar)(hm:X.mg x=none)(hv:bootBuiltins x=some (.builtin id))(hn:x≠"__name__")(hdb:(x==("__debug__":Str))=false)(hg:Gl X x)(hs:notStar e=true:=by rfl)(hs2:dW es=true:=by rfl):JE X (.Call (.Name x p) (e::es) [] pos) (aU r ar):=by
 unfold JE;unfold JA at ha;exact DZ hc ha hm hv hn hdb hg hs hs2
theorem dN{x:Str}{T:String}{r:b9}(hc:aN X (.type T) (cJ r))(ha:JA X (e::es) ar)(hm:X.mg x=none)(hv:bootBuiltins x=some (.type T))(hn:x≠"__name__")(hdb:(x==("__debug__":Str))=false)(hg:Gl X x)(hs:notStar e=true:=by rfl)(hs2:dW es=true:=by rfl):JE X (.Call (.Name x p) (e::es) [] pos) (aU r ar):=by
 unfold JE;unfold JA at ha;exact EY hc ha hm hv hn hdb hg hs hs2
theorem aW{x qual:Str}{st:Stmt}{ps:List Str}{f:Addr}{fd:FuncData}{k:Nat}{S:bC}(A:dX X.K X.mg x qual st ps f fd)(F:cK X.prog X.w X.K X.mg X.base fA k f fd ps (hX S))(hr:bW k X.A)(ha:JA X (e::es) ar)(hdb:(x==("__debug__":Str))=false)(hg:Gl X x)(hs:notStar e=true:=by rfl)(hs2:dW es=true:=by rfl):
 JE X (.Call (.Name x p) (e::es) [] pos) (ax S ar):=by unfold JE;unfold JA at ha;exact Es A F hr ha hdb hg hs hs2
theorem yN{apos cpos:Pos}(ho:JE X o to)(he:JE X e te)(hbase:attributeBase o "append" X.env (eval o X.env)=eval o X.env:=by rfl)(hline:(apos.endLine==cpos.line)=true:=by rfl)(hs:notStar e=true:=by rfl):JE X (.Call (.Attribute o "append" apos) [e] [] cpos) (je to te):=by
 unfold JE at*;refine yx ho he hbase ?_ hline (bB hs) rfl;rw[bB hs];rfl
theorem bu{op:CmpOp}{r:bx}(ho:aQ X (compareOp op) (LR r))(hm:behindInMarks op b=false)(ha:JE X a ta)(hb:JE X b tb):JT X (.Compare a [op] [b] pos) (aG (aj r ta tb)):=by unfold JE at*;unfold JT;exact Dj ho ha hb hm
theorem sd{op op':CmpOp}{r r':bx}(ho:aQ X (compareOp op) (LR r))(ho':aQ X (compareOp op') (LR r'))(ha:JE X a ta)(hb:JE X b tb)(hc:JE X c tc)(hm:lastMarks [op,op'] [b,c]=false:=by with_unfolding_all rfl):JT X (.Compare a [op,op'] [b,c] pos) (aG (i7 r r' ta tb tc)):=by unfold JE at*;unfold JT;exact yD ho ho' ha hb hc hm
theorem f9(ha:JT X a t):JT X (.UnaryOp .Not a pos) (eE t):=by unfold JT at*;exact BR ha
theorem dk(he:JE X e te)(h:kc e=true:=by rfl):JT X e (aG te):=by unfold JT;unfold JE at he;exact A7 he h
theorem uc(ha:JT X a t):JW X (.BoolOp .And [a] pos) t:=by unfold JW;unfold JT at ha;exact AR ha
theorem gI(ha:JT X a t):JW X (.BoolOp .Or [a] pos) t:=by unfold JW;unfold JT at ha;exact C8 ha
theorem xI(ha:JT X a t)(hb:JW X (.BoolOp .And (b::es) pos) u):JW X (.BoolOp .And (a::b::es) pos) (nu t u):=by unfold JW at*;unfold JT at ha;exact DR ha hb
theorem jH(ha:JT X a t)(hb:JW X (.BoolOp .Or (b::es) pos) u):JW X (.BoolOp .Or (a::b::es) pos) (gT t u):=by unfold JW at*;unfold JT at ha;exact EX ha hb
theorem fR(h:JW X e t):JT X e t:=by unfold JT;unfold JW at h;exact PW.pt h
theorem eD{l tg:Expr}(hl:JE X l ta):JI X tg l (cu ta):=by unfold JI;unfold JE at hl;exact BX hl
theorem jM{tg:Expr}(hg:Gl X "range")(hm:X.mg "range"=none)(ha:JA X [a] ar)(hs:notStar a=true:=by rfl):JI X tg (.Call (.Name "range" p) [a] [] pos) (eQ ar):=by unfold JI;unfold JA at ha;exact xg (xO hg hm ha (bB hs))
theorem g0{k:Nat}{x:Str}(hN:X.N.Nodup)(hx:Loc X.env.scope x:=by first|exact Or.inl rfl|exact Or.inr rfl)(hf:X.fn x=true\/X.env.scope.names.lookup x=some .local:=by first|exact .inl rfl|exact .inr rfl)(hi:X.N[k]?=some x:=by rfl):JG X (.Name x pos) (cm k):=by unfold JG;exact A3 (oO hN hi hx hf)
theorem dH{k j n:Nat}{x y:Str}{px py:Pos}(hc:X.calm=true)(hN:X.N.Nodup)(hx:Loc X.env.scope x:=by first|exact Or.inl rfl|exact Or.inr rfl)(hf:X.fn x=true\/X.env.scope.names.lookup x=some .local:=by first|exact .inl rfl|exact .inr rfl)(hy:Loc X.env.scope y:=by first|exact Or.inl rfl|exact Or.inr rfl)(hg:X.fn y=true\/X.env.scope.names.lookup y=some .local:=by first|exact .inl rfl|exact .inr rfl)(hi:X.N[k]?=some x:=by rfl)(hj:X.N[j]?=some y:=by rfl):
 JG X (.Tuple [.Name x px,.Name y py] n pos) (bX k j):=by unfold JG;exact Dp (Dd hc (su (oO hN hi hx hf) (su (oO hN hj hy hg) Ba)))
theorem bO:JC X [] bp:=by unfold JC;exact ym
theorem rO(h:JT X c t):JC X [c] t:=by unfold JC;unfold JT at h;exact CW h
theorem cz{scope:Scope}{Nc:List Str}{elt tg iter:Expr}{ifs:List Expr}{src:DI}{fr:List (Option Nat)}{dtg:cQ}(S:bg X scope Nc fr)(hi:JI X tg iter src)(hg:∀C s H ex,JG (dv X scope Nc C s H ex) tg dtg)(ht:∀C s H ex,JC (dv X scope Nc C s H ex) ifs t)(he:∀C s H ex,JE (dv X scope Nc C s H ex) elt te)(fit:qS fr dtg)
 (hx:X.xe=λ _ _=>False:=by rfl) (hc:X.calm=true:=by rfl) (hs:∀x,foldedSetIterable iter X.env x=pure x:=by intro _;rfl):JE X (.ListComp elt [⟨tg,iter,ifs,0⟩] scope pos) (bz src fr dtg t te):=by
 unfold JE JI JG JC at*;exact BW S hi hg ht he fit hx hc hs
theorem br:JB X [] bo:=by unfold JB;exact Ag
theorem aI(h:JS X s T):JB X [s] T:=by unfold JB;unfold JS at h;exact Av h
theorem av(h:JS X s T)(h2:JB X ss U):JB X (s::ss) (aw T U):=by unfold JB at*;unfold JS at h;exact yK h h2
theorem aZ(h:JE X e te):JS X (.Return (some e) pos) (aX te):=by unfold JS;unfold JE at h;exact Di h
theorem ot(h:JE X e te)(hc:fF e=true:=by rfl):JS X (.Expr e pos) (lg te):=by unfold JS;unfold JE at h;exact yF h hc
theorem bH{x y:List Stmt}(hc:JT X c t)(ha:JB X x T)(hb:JB X y U):JS X (.If c x y pos) (bG t T U):=by unfold JS;unfold JB at*;unfold JT at hc;exact ED hc ha hb
theorem yO{x:List Stmt}(hc:JT X c t)(hb:JB X x T)(hx:X.xe=λ _ _=>False:=by rfl):JS X (.While c x [] pos) (m5 t T):=by unfold JS;unfold JB at hb;unfold JT at hc;exact yn (yQ (by rw[hx];exact PassesOwn.never) hc hb)
theorem wV{tg iter:Expr}{x:List Stmt}{src:DI}{dtg:cQ}(hi:JI X tg iter src)(hg:JG X tg dtg)(hb:JB X x T)(hx:X.xe=λ _ _=>False:=by rfl)(hc:X.calm=true:=by rfl)(hs:∀x,foldedSetIterable iter X.env x=pure x:=by intro _;rfl):JS X (.For tg iter x [] pos) (uM src dtg T):=by
 unfold JS;unfold JI at hi;unfold JG at hg;unfold JB at hb;exact Ct (CM (by rw[hx];exact PassesOwn.never) hc hi hg hb hs)
theorem bw{k:Nat}{x:Str}(hN:X.N.Nodup)(hx:Loc X.env.scope x)(he:JE X e te)(hf:X.fn x=true\/X.env.scope.names.lookup x=some .local:=by first|exact .inl rfl|exact .inr rfl)(h:fF e=true:=by rfl)(hi:X.N[k]?=some x:=by rfl):JS X (.Assign [.Name x pos'] e pos) (aP k te):=by
 unfold JS;unfold JE at he;exact BY (Ac hN hi hx he hf h)
theorem jg{scope:Scope}{Nc:List Str}{elt tg iter:Expr}{ifs:List Expr}{src:DI}{fr:List (Option Nat)}{dtg:cQ}{k:Nat}{x:Str}(hN:X.N.Nodup)(hl:Loc X.env.scope x)(S:bg X scope Nc fr)(hi:JI X tg iter src)(hg:∀C s H ex,JG (dv X scope Nc C s H ex) tg dtg)(ht:∀C s H ex,JC (dv X scope Nc C s H ex) ifs t)(he:∀C s H ex,JE (dv X scope Nc C s H ex) elt te)(fit:qS fr dtg)
 (hf:X.fn x=true\/X.env.scope.names.lookup x=some .local:=by first|exact .inl rfl|exact .inr rfl) (hsw:swapsWith (.ListComp elt [⟨tg,iter,ifs,0⟩] scope p) (some (.Name x pos')) pos.line X.env=pure true:=by rfl) (hni:X.N[k]?=some x:=by rfl) (hx:X.xe=λ _ _=>False:=by rfl) (hc:X.calm=true:=by rfl) (hs:∀x,foldedSetIterable iter X.env x=pure x:=by intro _;rfl):
 JS X (.Assign [.Name x pos'] (.ListComp elt [⟨tg,iter,ifs,0⟩] scope p) pos) (aP k (bz src fr dtg t te)):=by
 unfold JS;unfold JE JI JG JC at*;exact zT fit (AF hx hc S hi hg ht he hN hni hl hf hsw hs)
theorem yd(he:JE X e te)(ho:JE X o to)(hi:JE X i ti)(h1:fF e=true:=by rfl)(h2:gK i=true:=by rfl):JS X (.Assign [.Subscript o i pos'] e pos) (kH to ti te):=by unfold JS;unfold JE at*;exact yy (Cb he ho hi h1 h2)
theorem Cy{k j kt k2:Nat}{x y:Str}{px py pt pt2:Pos}(hN:X.N.Nodup)(hij:k≠j)(hx:X.env.scope.names.lookup x=some .local)(hy:X.env.scope.names.lookup y=some .local)(ha:JA X [a,b] ar)
 (hw:swappedStores [.Tuple [.Name x px,.Name y py] kt pt] (.Tuple [a,b] k2 pt2) X.env=pure (some [x,y]):=by rfl) (hc:X.calm=true:=by rfl) (hi:X.N[k]?=some x:=by rfl) (hj:X.N[j]?=some y:=by rfl) (hs:swapsWithSole [.Tuple [.Name x px,.Name y py] kt pt] (.Tuple [a,b] k2 pt2) pos.line X.env=pure false:=by rfl):
 JS X (.Assign [.Tuple [.Name x px,.Name y py] kt pt] (.Tuple [a,b] k2 pt2) pos) (vh k j ar):=by unfold JS;unfold JA at ha;exact BF (CD hc hN hi hj hij hx hy ha hw hs)
theorem w_{tg:Expr}{dtg:cQ}(he:JE X e te)(hg:JG X tg dtg)(hs:swapsWithSole [tg] e pos.line X.env=pure false:=by rfl)(hw:swappedStores [tg] e X.env=pure none:=by rfl)(h1:(assignEach [tg] X.env).map (·.2)=[assign tg X.env]:=by rfl):JS X (.Assign [tg] e pos) (uF dtg te):=by
 unfold JS;unfold JE at he;unfold JG at hg;exact Cg (wL he hg hs hw h1)
end
theorem vi{P:Program}{w:World}{K:PySem.W.Frag}{mg:Str->Option Value}{base:Heap}{x qual:Str}{st:Stmt}{f:Addr}{fd:FuncData}{N ps:List Str}{k:Nat}{sp:bC}{t:DS}(F:h_ K x qual st f fd)(S:gE N ps (aA st))
 (hbody:∀(cdv:Value) (A:Around) (outer:List Env) (s:Shared) (H:Hp) (E:XK),bW k (A.deeper (envOfC qual (aA st) s.heap.objs.size f cdv))->JB (jx fA P w K mg base N qual (aA st) f cdv A outer s H E).oX (dD st) t)
 (hsp:∀ds st K,sp ds st K->ds.length=ps.length/\t {nx:=λ _ st'=>K .aH st',rt:=K} (aY N ds) st):cK P w K mg base fA (k+1) f fd ps (hX sp):=by
 unfold JB at hbody;exact EV F S hbody hsp
end L3
namespace HT
open PySem PyProof.Rows
section
variable {prog:Program}{w:World}{A:Around}{E:Value->Shared->Prop}{s:Shared}
end
end HT
namespace L3
open PySem L2
open PySem.Spec hiding items?
open PyProof.Rows hiding St
abbrev DO:=bc->af->(Option Int->af->Prop)->Prop
def nV:DO:=λ _ st K=>K none st
def uS(t:DE):DO:=λ σ st K=>t σ st λ d st1=>match d with| .int i=>K (some i) st1|_=>False
def GK(α:List (Option Addr))(G F:Hp)(K:Option Int->af->Prop)(Q:Option Int->Hp->Prop):Prop:=∀o st',K o st'->∀α' G' H',Step α G α' G'->a8 G' F H'->aB α' st' G'->Q o H'
inductive Fu(t:DO)(σ:L2.St)(H:Hp)(Q:Option Int->Hp->Prop):Prop
 |mk (α:List (Option Addr)) (σd:bc) (st:af) (K:Option Int->af->Prop) (G F:Hp) (P:a8 G F H) (R:bV α G σd σ) (S:aB α st G) (h:t σd st K) (k:GK α G F K Q):Fu t σ H Q
def LO(t:DO):TO:=Fu t
section
variable {X:Cx}
theorem PO.imp{e:Option Expr}{t t':TO}(h:PO X e t)(f:∀σ H Q,t' σ H Q->t σ H Q):PO X e t':=λ pins s σ H Q I q=>h pins s σ H Q I (f σ H Q q)
theorem AL:PO X none (LO nV):=PO.imp Ax λ σ H Q ⟨α,σd,st,K,G,F,P,R,S,t,k⟩=>k none st t α G H Step.refl P S
theorem zX{e:Expr}{te:DE}(h:PE X e (LE te)):PO X (some e) (LO (uS te)):=PO.imp (AX h) λ σ H Q ⟨α,σd,st,K,G,F,P,R,S,t,k⟩=>by
 refine⟨α,σd,st,_,G,F,P,R,S,t,λ d st1 q α1 G1 H1 v s1 P1 S1 r1=>?_⟩;cases d<;>try exact q.elim
 unfold Rep at r1;exact⟨_,r1,k _ st1 q α1 G1 H1 s1 P1 S1⟩
@[irreducible] def JO(X:Cx)(e:Option Expr)(t:DO):Prop:=PO X e (LO t)
theorem Bg:JO X none nV:=by unfold JO;exact AL
theorem Bb{e:Expr}{te:DE}(h:JE X e te):JO X (some e) (uS te):=by unfold JO;unfold JE at h;exact zX h
end
section
variable {prog:Program}{w:World}{A:Around}{E:Value->Shared->Prop}{s:Shared}
theorem vq{iT tp:Addr}{n:Nat}{its:Array Value}{v:Value}{Q:Value->Shared->Prop}(hI:s.heap.IsTupleIter iT tp n)(hT:s.heap.IsTuple tp its)(hv:its[n]?=some v)
 (q:∀g,g.IsTupleIter iT tp (n+1)->Heap.SameBut iT s.heap g->Q v {s with heap:=g}):wpAny (model prog w) A (Builtin.SmallTypes.nextOf (.ref iT)) Q E s:=by
 obtain⟨oI,eI,cI,dI⟩:=id hI;obtain⟨oT,eT,_,nT,dT⟩:=hT;unfold Builtin.SmallTypes.nextOf;refine GZ (Io (name:=Str.ofString "__next__") hI.typeIs IB (Jb IB hI.typeIs J4 ?_ (JY _)));show wpAny _ _ (field (.ref iT) 0 >>= _) _ _ s;refine GZ (IG eI dI (x:= .ref tp) rfl ?_);show wpAny _ _ (if(Value.ref tp==Value.none)=true then _ else _) _ _ s;rw[Hi (show¬((Value.ref tp==Value.none)=true)from Hj)];show wpAny _ _ (field (.ref iT) 1 >>= _) _ _ s;refine GZ (IG eI dI (x:= .int n 0) rfl ?_);show wpAny _ _ (seqItems? (.ref tp) >>= _) _ _ s;refine GZ (Jl eT dT ?_);simp only[ID,hv];refine GZ (wpAny_setField eI dI (by simp) (HA ⟨v,rfl,HA (q _ ?_ (JU ..))⟩));refine⟨_,Jz _ eI (Obj.isFreed_of_fields (Obj.data_mapFields dI _)),(Obj.cls_mapFields ..).trans cI,?_⟩;rw[Obj.data_mapFields dI];simp[rawInt]
theorem xh{iT tp:Addr}{n:Nat}{its:Array Value}{Q:Value->Shared->Prop}(hh:A.handled=none)(hI:s.heap.IsTupleIter iT tp n)(hT:s.heap.IsTuple tp its)(hv:its[n]?=none)
 (q:∀g e,Heap.ExtBut iT s.heap g->(∃o,g.get? e=some o/\o.cls= .type "StopIteration")->E (.ref e) {s with heap:=g}):wpAny (model prog w) A (Builtin.SmallTypes.nextOf (.ref iT)) Q E s:=by
 obtain⟨oI,eI,cI,dI⟩:=id hI;obtain⟨oT,eT,_,nT,dT⟩:=hT;unfold Builtin.SmallTypes.nextOf;refine GZ (Io (name:=Str.ofString "__next__") hI.typeIs IB (Jb IB hI.typeIs J4 ?_ (JY _)));show wpAny _ _ (field (.ref iT) 0 >>= _) _ _ s;refine GZ (IG eI dI (x:= .ref tp) rfl ?_);show wpAny _ _ (if(Value.ref tp==Value.none)=true then _ else _) _ _ s;rw[Hi (show¬((Value.ref tp==Value.none)=true)from Hj)];show wpAny _ _ (field (.ref iT) 1 >>= _) _ _ s;refine GZ (IG eI dI (x:= .int n 0) rfl ?_);show wpAny _ _ (seqItems? (.ref tp) >>= _) _ _ s;refine GZ (Jl eT dT ?_);simp only[ID,hv];refine GZ (wpAny_rule (GZ (wpAny_setField eI dI (by simp) ?_)));show wpAny _ _ (newExc (.type "StopIteration") [] >>= _) _ _ _;refine GZ ?_;simp only[newExc,newTuple];refine GZ (Kb ?_ (by size_fits));refine GZ (m:=firstArgMember _ _) (wpAny_of_eq (a:=Value.none) (by first|rfl|(simp only[firstArgMember];rfl)) ?_);refine Kb ?_ (by size_fits);simp only[raiseNew];refine GZ (wpAny_handled ?_);first|rw[show A.in1.handled=none from hh]|rw[hh]
 refine GZ (HA (wpAny_throw ?_));exact q _ _ (((JU ..).extBut.push _).push _) ⟨_,Hq _ rfl,rfl⟩
end
section
variable {st:af}{K:DK}{i j:Int}{b c:Bool}{xs ys:List D}{d e:D}{n:Nat}
theorem eqT(h:i=j)(k:K (.bl true) st):ck (.int i) (.int j) st K:=jY (by rw[Hr h];exact k)
theorem GO(h:i≠j)(k:K (.bl false) st):ck (.int i) (.int j) st K:=jY (by rw[Hc h];exact k)
theorem eq2(h1:i=j->K (.bl true) st)(h2:i≠j->K (.bl false) st):ck (.int i) (.int j) st K:=by
 by_cases h:i=j
 . exact eqT h (h1 h)
 . exact GO h (h2 h)
theorem wu(h:i=j)(k:K (.bl false) st):fv (.int i) (.int j) st K:=vH (by rw[Hr h];exact k)
theorem Gp(h:i<j)(k:K (.bl true) st):i6 (.int i) (.int j) st K:=qm (by rw[Hr h];exact k)
theorem GC(h:j<=i)(k:K (.bl false) st):i6 (.int i) (.int j) st K:=qm (by rw[Hc (by omega)];exact k)
theorem zE(h1:i<j->K (.bl true) st)(h2:j<=i->K (.bl false) st):i6 (.int i) (.int j) st K:=by
 by_cases h:i<j
 . exact Gp h (h1 h)
 . exact GC (by omega) (h2 (by omega))
theorem GN(h:i<=j)(k:K (.bl true) st):gW (.int i) (.int j) st K:=kP (by rw[Hr h];exact k)
theorem Gw(h:j<i)(k:K (.bl false) st):gW (.int i) (.int j) st K:=kP (by rw[Hc (by omega)];exact k)
theorem Fv(h1:i<=j->K (.bl true) st)(h2:j<i->K (.bl false) st):gW (.int i) (.int j) st K:=by
 by_cases h:i<=j
 . exact GN h (h1 h)
 . exact Gw (by omega) (h2 (by omega))
theorem Gs(h:j<i)(k:K (.bl true) st):lR (.int i) (.int j) st K:=pY (by rw[Hr h];exact k)
theorem Gu(h:i<=j)(k:K (.bl false) st):lR (.int i) (.int j) st K:=pY (by rw[Hc (by omega)];exact k)
theorem Gr(h1:j<i->K (.bl true) st)(h2:i<=j->K (.bl false) st):lR (.int i) (.int j) st K:=by
 by_cases h:j<i
 . exact Gs h (h1 h)
 . exact Gu (by omega) (h2 (by omega))
theorem gJ{m:Nat}(h:m<=1000):m<=sizeLine:=by rw[Ky];omega
theorem kT(h0:0<=i)(e:xs[i.toNat]?=some d):cR xs i=some d:=by
 have:=la e;rw[Int.toNat_of_nonneg h0]at this;exact this
end
theorem nR{tg:cQ}{body:DS}{ok:af->Prop}{E:gv}(I:List D->bc->af->Prop)(hend:∀σ st,I [] σ st->ok st/\E.nx σ st)
 (hstep:∀x xs σ st,I (x::xs) σ st->(∀σ' st',I xs σ' st'->dO tg body ok E xs σ' st')->ok st/\∃σ1,tg x σ=some σ1/\body {E with nx:=dO tg body ok E xs,ct:=dO tg body ok E xs,bk:=E.nx} σ1 st):
 ∀xs σ st,I xs σ st->dO tg body ok E xs σ st
 | [],σ,st,h=>by unfold dO;exact hend σ st h
 |x::xs,σ,st,h=>by unfold dO;exact hstep x xs σ st h λ σ' st' h'=>nR I hend hstep xs σ' st' h'
theorem gL{tg:cQ}{c:DT}{te:DE}{ok:af->Prop}{σc:bc}{K:List D->af->Prop}(I:List D->List D->af->Prop)(hend:∀acc st,I [] acc st->ok st/\K acc st)
 (hstep:∀x xs acc st,I (x::xs) acc st->(∀acc' st',I xs acc' st'->bT tg c te ok σc xs acc' st' K)->ok st/\∃σ2,tg x σc=some σ2/\c σ2 st λ b st1=>if b=true then te σ2 st1 λ y st2=>bT tg c te ok σc xs (acc++[y]) st2 K else bT tg c te ok σc xs acc st1 K):
 ∀xs acc st,I xs acc st->bT tg c te ok σc xs acc st K
 | [],acc,st,h=>by unfold bT;exact hend acc st h
 |x::xs,acc,st,h=>by unfold bT;exact hstep x xs acc st h λ acc' st' h'=>gL I hend hstep xs acc' st' h'
theorem comp_map{tg:cQ}{te:DE}{ok:af->Prop}{σc:bc}{st:af}{K:List D->af->Prop}{g:D->D}(aF:ok st)(xs:List D)(hx:∀x∈xs,∀K',K' (g x) st->∃σ2,tg x σc=some σ2/\te σ2 st K')(k:K (xs.map g) st):bT tg bp te ok σc xs [] st K:=by
 refine gL (λ r acc st'=>st'=st/\(∀x∈r,x∈xs)/\acc++r.map g=xs.map g) (λ acc st' h=>?_) (λ x r acc st' h next=>?_) xs [] st ⟨rfl,λ _ h=>h,rfl⟩
 . obtain⟨rfl,_,e⟩:=h;rw[Kn,HL]at e;rw[e];exact⟨aF,k⟩
 . obtain⟨rfl,hm,e⟩:=h;obtain⟨σ2,e2,q⟩:=hx x (hm x Hm) (λ y st2=>bT tg bp te ok σc r (acc++[y]) st2 K) (next _ _ ⟨rfl,λ z hz=>hm z (G7 _ hz),by rw[<-e];simp⟩);exact⟨aF,σ2,e2,q⟩
def Cz(n:Nat)(K:DK)(y:D)(st2:af):Prop:=∃y',[y]=[y']/\(match st2[n]? with|some (.lst xs)=>xs.length<sizeLine/\K .aH (st2.set n (.lst (xs++[y'])))|_=>False)
theorem nU{n:Nat}{K:DK}{y:D}{st:af}{xs:List D}(e:st[n]?=some (.lst xs))(h:xs.length<sizeLine)(k:K .aH (st.set n (.lst (xs++[y])))):Cz n K y st:=by
 refine⟨y,rfl,?_⟩;simp only[e];exact⟨h,k⟩
@[irreducible] def fK(to te:DE):DE:=je to te
theorem rY{σ:bc}{st:af}{K:DK}{i n:Nat}{xs:List D}{te:DE}(ei:σ[i]?=some (some (.ref n)))(e:st[n]?=some (.lst xs))(h:te σ st (Cz n K)):fK (ab i) te σ st K:=by
 unfold fK je ab;simp only[ei,e];exact h
theorem j8{X:Cx}{o e:Expr}{to te:DE}{apos cpos:Pos}(ho:JE X o to)(he:JE X e te)(hbase:attributeBase o "append" X.env (eval o X.env)=eval o X.env:=by rfl)(hline:(apos.endLine==cpos.line)=true:=by rfl)(hs:notStar e=true:=by rfl):JE X (.Call (.Attribute o "append" apos) [e] [] cpos) (fK to te):=by
 unfold fK;exact yN ho he hbase hline hs
section
variable {X:Cx}
end
theorem ze{X:Cx}{pins:List (Addr×Obj)}{σ:L2.St}{H:Hp}{s:Shared}{g:Heap}{tk:Nat}{fp:List Addr}{T:Addr}{xs:List V}(I:Inv X pins σ H s)(hf:∀b∈fp,fM X pins H b)
 (k:∀b o,b∉fp->s.heap.get? b=some o->g.get? b=some o) (hT:s.heap.objs.size<=T) (new:bL X.prog X.w (upd H T (.tup xs)) g T (.tup xs)):Inv X pins σ (upd H T (.tup xs)) {s with heap:=g,toks:=tk}:=by
 have hn:H T=none:=I.aF.fresh hT;have nfp:∀b u,H b=some u->b∉fp:=λ b u e z=>by rw[(hf b z).1]at e;cases e
 have nT:∀b u,H b=some u->b≠T:=λ b u e=>cc e hn
 refine I.step (g':=s.gens) (d':=s.drawn) (ch:=fp) (λ b hb=>?_) (λ b o _ _ hc e _=>k b o hc e) (λ b o _ _ hc e _=>⟨o.slots,k b o hc e⟩) (λ b o _ e n=>?_) (λ b o hc e=>⟨o,k b o hc e⟩)
  (λ b ys e=>by rw[aK (nT b _ e)];exact e) (λ b o u e=>by rw[aK (nT b _ e)];exact e) (λ b ps e=>⟨#[],by rw[aK (nT b _ e),e];simp⟩) (λ m hm=>?_) (λ b u e=>?_) I.bare
 . obtain⟨f0,f1,f2,f3,f4,f5⟩:=hf b hb;exact⟨f3,f1,f4,f5⟩
 . rw[aK (HK (Hw (Hg e) hT))];exact n
 . obtain⟨o,es,ep,ho,r⟩:=hm;exact⟨o,es,ep,k _ o (λ z=>(hf _ z).2.1 rfl) ho,r⟩
 . by_cases hb:b=T
   . subst hb;rw[a9]at e;cases e;exact new
   . rw[aK hb]at e;refine(I.aF b u e).kG (λ c v hc q=>k c v ?_ q) (λ c q=>by rw[aK (nT c _ q)];exact q) λ c ys q=>by rw[aK (nT c _ q)];exact q
     rcases hc with z|z
     . rw[z];exact nfp b u e
     . exact nfp c _ z
theorem y6{X:Cx}{pins:List (Addr×Obj)}{σ:L2.St}{H:Hp}{s:Shared}{g:Heap}{tk:Nat}{fp:List Addr}(I:Inv X pins σ H s)(hf:∀b∈fp,fM X pins H b)
 (k:∀b o,b∉fp->s.heap.get? b=some o->g.get? b=some o):Inv X pins σ H {s with heap:=g,toks:=tk}:=by
 have nfp:∀b u,H b=some u->b∉fp:=λ b u e z=>by rw[(hf b z).1]at e;cases e
 refine I.step (g':=s.gens) (d':=s.drawn) (ch:=fp) (λ b hb=>?_) (λ b o _ _ hc e _=>k b o hc e) (λ b o _ _ hc e _=>⟨o.slots,k b o hc e⟩) (λ b o _ e n=>n) (λ b o hc e=>⟨o,k b o hc e⟩)
  (λ b ys e=>e) (λ b o u e=>e) (λ b ps e=>⟨#[],by rw[e];simp⟩) (λ m hm=>?_) (λ b u e=>?_) I.bare
 . obtain⟨f0,f1,f2,f3,f4,f5⟩:=hf b hb;exact⟨f3,f1,f4,f5⟩
 . obtain⟨o,es,ep,ho,r⟩:=hm;exact⟨o,es,ep,k _ o (λ z=>(hf _ z).2.1 rfl) ho,r⟩
 . refine(I.aF b u e).kG (λ c v hc q=>k c v ?_ q) (λ c q=>q) λ c ys q=>q;rcases hc with z|z
   . rw[z];exact nfp b u e
   . exact nfp c _ z
inductive SK where
 |l|t
def fB(k:SK)(K:PySem.W.Frag)(H:Hp)(a:Addr)(xs:List V):Prop:=match k with
 | .l=>fz K H a xs
 | .t=>cZ K H a xs
def gc(k:SK)(t a:Addr)(n:Nat)(g:Heap):Prop:=match k with
 | .l=>g.IsListIter t a n
 | .t=>g.IsTupleIter t a n
def d8(k:SK)(g:Heap)(a:Addr)(us:Array Value):Prop:=match k with
 | .l=>g.IsList a us
 | .t=>g.IsTuple a us
def C7(k:SK)(a:Addr):Obj:=match k with
 | .l=>{cls:= .type "list_iterator",data:= .fields #[.ref a,.int 0 0]}
 | .t=>{cls:= .type "tuple_iterator",data:= .fields #[.ref a,.int 0 0]}
theorem ja{X:Cx}{pins:List (Addr×Obj)}{σ:L2.St}{H:Hp}{s:Shared}{k:SK}{a:Addr}{xs:List V}(I:Inv X pins σ H s)(h:fB k X.K H a xs):∃its:List Value,Vals xs its/\d8 k s.heap a its.toArray:=by
 cases k
 . obtain⟨its,rv,p,_⟩:=I.list h;exact⟨its,rv,p.isList⟩
 . obtain⟨its,rv,p,_⟩:=I.tuple h;exact⟨its,rv,p⟩
theorem oB{X:Cx}{pins:List (Addr×Obj)}{σ:L2.St}{H:Hp}{s:Shared}{k:SK}{a:Addr}{xs ys:List V}(I:Inv X pins σ H s)(h:fB k X.K H a xs)(h':fB k X.K H a ys):xs=ys:=by
 cases k
 . exact I.sy h h'
 . exact I.oV h h'
theorem BP{P:Program}{w:World}{A:Around}{s:Shared}{E:Value->Shared->Prop}{k:SK}{a:Addr}{us:Array Value}{Q:Value->Shared->Prop}(h:d8 k s.heap a us)(q:Q (.ref s.heap.objs.size) {s with heap:=s.heap.push (C7 k a)}):wpAny (model P w) A (pyIter (.ref a)) Q E s:=by
 cases k
 . exact Jr h q
 . exact IL h q
theorem d8.push{k:SK}{g:Heap}{a:Addr}{us:Array Value}(h:d8 k g a us)(o:Obj):d8 k (g.push o) a us:=by
 cases k
 . obtain⟨o',e,r⟩:=h;exact⟨o',GY _ e,r⟩
 . obtain⟨o',e,r⟩:=h;exact⟨o',GY _ e,r⟩
theorem d8.some{k:SK}{g:Heap}{a:Addr}{us:Array Value}(h:d8 k g a us):∃o,g.get? a=Option.some o:=by
 cases k
 . obtain⟨o',e,r⟩:=h;exact⟨o',e⟩
 . obtain⟨o',e,r⟩:=h;exact⟨o',e⟩
theorem Bm{k:SK}{g h:Heap}{t a:Addr}(e:g.get? t=Option.some (C7 k a)):gc k t a 0 g:=by
 cases k
 . exact⟨_,e,rfl,rfl⟩
 . exact⟨_,e,rfl,rfl⟩
theorem eX{k:SK}{t a:Addr}{n:Nat}{g g':Heap}(h:gc k t a n g)(kp:∀o,g.get? t=Option.some o->g'.get? t=Option.some o):gc k t a n g':=by
 cases k
 . obtain⟨o,e,r⟩:=h;exact⟨o,kp o e,r⟩
 . obtain⟨o,e,r⟩:=h;exact⟨o,kp o e,r⟩
theorem kZ{k:SK}{t a:Addr}{n:Nat}{g:Heap}(h:gc k t a n g):∃o,g.get? t=Option.some o/\∀v,o.data≠ .cell v:=by
 cases k
 . obtain⟨o,e,c,d⟩:=h;exact⟨o,e,λ v z=>by rw[d]at z;cases z⟩
 . obtain⟨o,e,c,d⟩:=h;exact⟨o,e,λ v z=>by rw[d]at z;cases z⟩
theorem CJ{P:Program}{w:World}{A:Around}{s:Shared}{E:Value->Shared->Prop}{k:SK}{t a:Addr}{us:Array Value}{n:Nat}{v:Value}{Q:Value->Shared->Prop}(i:gc k t a n s.heap)(l:d8 k s.heap a us)(hv:us[n]?=some v)(q:∀g,gc k t a (n+1) g->Heap.SameBut t s.heap g->Q v {s with heap:=g}):wpAny (model P w) A (Builtin.SmallTypes.nextOf (.ref t)) Q E s:=by
 cases k
 . exact wpAny_nextOf_list_item i l hv q
 . exact vq i l hv q
theorem yr{P:Program}{w:World}{A:Around}{s:Shared}{E:Value->Shared->Prop}{k:SK}{t a:Addr}{us:Array Value}{n:Nat}{Q:Value->Shared->Prop}(hh:A.handled=none)(i:gc k t a n s.heap)(l:d8 k s.heap a us)(hv:us[n]?=none)(q:∀g e,Heap.ExtBut t s.heap g->(∃o,g.get? e=some o/\o.cls= .type "StopIteration")->E (.ref e) {s with heap:=g}):wpAny (model P w) A (Builtin.SmallTypes.nextOf (.ref t)) Q E s:=by
 cases k
 . exact wpAny_nextOf_list_end hh i l hv q
 . exact xh hh i l hv q
theorem d8.kept{k:SK}{g g':Heap}{a:Addr}{us:Array Value}(h:d8 k g a us)(kp:∀o,g.get? a=Option.some o->g'.get? a=Option.some o):d8 k g' a us:=by
 cases k
 . obtain⟨o',e,r⟩:=h;exact⟨o',kp _ e,r⟩
 . obtain⟨o',e,r⟩:=h;exact⟨o',kp _ e,r⟩
theorem pk{M:Model}{A:Around}{E:Value->Shared->Prop}{α β:Type}{b:β}{body:α->β->Sem (ForInStep β)}{Q:β->Shared->Prop}:∀(l:List α) (I:Nat->Shared->Prop) (s:Shared),I 0 s->(∀i x s',l[i]?=some x->I i s'->wpAny M A (body x b) (λ r s''=>r= .yield b/\I (i+1) s'') E s')->(∀s',I l.length s'->Q b s')->wpAny M A (forIn l b body) Q E s
 | [],_,s,h0,_,k=>by rw[KJ];exact HA (k s h0)
 |x::l,I,s,h0,st,k=>by
  rw[Il];refine GZ (Ip (st 0 x s rfl h0) (λ r s' h=>?_) λ _ _ e=>e);obtain⟨rfl,h1⟩:=h;exact pk l (λ i=>I (i+1)) s' h1 (λ i y s'' e=>st (i+1) y s'' (by rw[HE];exact e)) k
structure Sr where
 k:SK
 t:Addr
 a:Addr
 us:Array Value
abbrev eF(h:Heap)(T:Addr)(vs:List Value):Prop:=h.get? T=some {cls:= .type "tuple",data:= .seq vs.toArray}
structure Ap(z ti to:Addr)(S:List Sr):Prop where
 nd:(z::ti::to::S.map Sr.t).Nodup
 ap:∀x∈S,x.a∉z::ti::to::S.map Sr.t
 ne:S≠ []
theorem rW{P:Program}{w:World}{A:Around}{s:Shared}{E:Value->Shared->Prop}{z ti to:Addr}{n:Nat}{S:List Sr}{vs:List Value}{Q:Value->Shared->Prop}(hh:A.handled=none)(D:Ap z ti to S)
 (Z:IsZip s.heap z ti to .none) (pI:eF s.heap ti (S.map λ x=> .ref x.t)) (pO:eF s.heap to vs) (lv:vs.length=S.length) (l8:S.length<=8) (J:∀x∈S,gc x.k x.t x.a n s.heap/\d8 x.k s.heap x.a x.us)
 (q:∀g (xs:List Value),xs.length=S.length->(∀(j:Nat) (x:Sr),S[j]?=some x->∃u,xs[j]?=some u/\x.us[n]?=some u)->IsZip g z ti to (rawInt s.heap.objs.size)->eF g to xs->(∀x∈S,gc x.k x.t x.a (n+1) g)->eF g s.heap.objs.size xs->g.objs.size=s.heap.objs.size+1->
   (∀c o,c∉z::to::S.map Sr.t->s.heap.get? c=some o->g.get? c=some o)->Q (.ref s.heap.objs.size) {s with heap:=g})
 (qe:(∃x∈S,x.us[n]?=none)->∀g e,(∀c o,c∉z::to::S.map Sr.t->s.heap.get? c=some o->g.get? c=some o)->(∃o,g.get? e=some o/\o.cls= .type "StopIteration")->E (.ref e) {s with heap:=g}):
 wpAny (model P w) A (Builtin.«zip.__next__» ⟨[.ref z],[]⟩) (λ fin s'=>∃v,fin= .done (.ret v)/\Q v s') E s:=by
 have nd:=D.nd;rw[HY,HY,HY]at nd;obtain⟨nz,nti,nto,nt⟩:=nd;rw[G9,G9,IE,IE]at nz;rw[G9,IE]at nti;obtain⟨z1,z2,z3⟩:=nz;obtain⟨i1,i2⟩:=nti;show wpAny _ _ (field (.ref z) 2 >>= _) _ _ _;refine GZ (IG Z rfl (x:= .bool false) rfl ?_);show wpAny _ _ (field (.ref z) 3 >>= _) _ _ _;refine GZ (IG Z rfl (x:= .ref ti) rfl ?_);refine GZ (Jl pI rfl ?_)
 have ie:((S.map λ x=>Value.ref x.t).toArray).isEmpty=false:=by
  cases S with
  |nil=>exact absurd rfl D.ne
  |cons x S=>simp
 simp only[ie];show wpAny _ _ (Builtin.SmallTypes.ownedTupleIsFree (.ref z) >>= _) _ _ _;refine GZ ?_;unfold Builtin.SmallTypes.ownedTupleIsFree;refine GZ (IG Z rfl (x:= .none) rfl (HA ?_));simp only[if_true];refine GZ (wpAny_rule ?_);refine GZ (IG Z rfl (x:= .ref to) rfl ?_);refine GZ (Ji Z (by simp) λ k1 Z1 b1=>?_);replace Z1:IsZip k1 z ti to .ellipsis:=Z1;refine GZ ?_;refine pk _ (λ i s'=>∃(g:Heap) (xs:List Value),s'= {s with heap:=g}/\g.objs.size=s.heap.objs.size/\IsZip g z ti to .ellipsis/\eF g to xs/\xs.length=S.length/\(∀(j:Nat) (x:Sr),j<i->S[j]?=some x->∃u,xs[j]?=some u/\x.us[n]?=some u)/\(∀(j:Nat) (x:Sr),S[j]?=some x->gc x.k x.t x.a (if j<i then n+1 else n) g/\d8 x.k g x.a x.us)/\∀c o,c∉z::to::S.map Sr.t->s.heap.get? c=some o->g.get? c=some o) _ ?_ ?_ ?_
 . refine⟨k1,vs,rfl,b1.1,Z1,b1.extBut _ _ (HP z2) pO,lv,λ j x h=>absurd h (Nat.not_lt_zero _),λ j x hx=>?_,λ c o hc e=>b1.extBut _ _ (λ h=>hc (by rw[h];exact Hm)) e⟩;have hm:=Hk hx;rw[Hi (Nat.not_lt_zero _)];exact⟨eX (J x hm).1 λ o e=>b1.extBut _ _ (λ h=>z3 (by rw[<-h];exact HD hm)) e,(J x hm).2.kept λ o e=>b1.extBut _ _ (λ h=>D.ap x hm (by rw[h];exact Hm)) e⟩
 . rintro i ⟨it,kk⟩ s' hl ⟨g,xs,rfl,sz,Z2,pO2,lx,hd,hJ,kp⟩
   obtain⟨x,hx,rfl,rfl⟩:∃x,S[i]?=some x/\it= .ref x.t/\kk=i:=by
    rw[List.getElem?_zipIdx]at hl;simp at hl;obtain⟨x,hx,h1,h2⟩:=hl;exact⟨x,hx,h1.symm,h2.symm⟩
   have hm:=Hk hx;have hi:=(GW.mp hx).1;obtain⟨j1,l1⟩:=hJ kk x hx;rw[Hi (Iy _)]at j1;have tz:x.t≠z:=λ h=>z3 (by rw[<-h];exact HD hm);have tto:x.t≠to:=λ h=>nto (by rw[<-h];exact HD hm);have tin:∀c,c∉z::to::S.map Sr.t->c≠x.t:=λ c hc h=>hc (by rw[h];exact G7 _ (G7 _ (HD hm)));refine GZ (wpAny_onRaise ?_);show wpAny _ _ (Builtin.SmallTypes.nextOf (.ref x.t) >>= _) _ _ _;cases hv:x.us[n]? with
   |none=>
    refine GZ (yr hh j1 l1 hv λ g2 e b2 he=>?_);obtain⟨oe,he1,he2⟩:=he;have Z3:IsZip g2 z ti to .ellipsis:=b2 _ _ (HP tz) Z2;have hez:e≠z:=λ c=>by subst c;rw[Z3]at he1;cases he1;simp at he2
    exact Ji Z3 (by simp) λ g3 _ b3=>qe ⟨x,hm,hv⟩ g3 e (λ c o hc f=>b3.extBut _ _ (λ h=>hc (by rw[h];exact Hm)) (b2 _ _ (tin c hc) (kp c o hc f))) ⟨oe,b3.extBut _ _ hez he1,he2⟩
   |some u=>
    refine GZ (CJ j1 l1 hv λ g2 j2 b2=>HA ?_);have pO3:eF g2 to xs:=b2.extBut _ _ (HP tto) pO2;refine GZ (Jl pO3 rfl ?_);have sx:xs.toArray.size<=sizeLine:=by rw[Hf,lx];exact gJ (by omega)
    refine GZ (wpAny_updateSeq pO3 rfl ?_ sx (by rw[Array.size_setIfInBounds];omega));have b3:Heap.SameBut to g2 (g2.update to (Obj.mapSeq (·.setIfInBounds kk u))):=JU ..
    have pO4:eF (g2.update to (Obj.mapSeq (·.setIfInBounds kk u))) to (xs.set kk u):=by
     show Heap.get? _ _=_;rw[Jz _ pO3 rfl];simp[Obj.mapSeq]
    generalize g2.update to (Obj.mapSeq (·.setIfInBounds kk u))=g3 at b3 pO4⊢;refine GZ (wpAny_letGo (HA ⟨rfl,g3,xs.set kk u,rfl,by rw[b3.1,b2.1,sz],b3.extBut _ _ z2 (b2.extBut _ _ (HP tz) Z2),pO4,by rw[HZ];exact lx,λ j y hj hy=>?_,λ j y hy=>?_,λ c o hc f=>?_⟩))
    . by_cases h:kk=j
      . subst h;rw[hx]at hy;cases hy;exact⟨u,HJ (by omega),hv⟩
      . rw[HB h];exact hd j y (by omega) hy
    . obtain⟨j3,l3⟩:=hJ j y hy;have hy':=Hk hy;have yto:y.t≠to:=λ h=>nto (by rw[<-h];exact HD hy');have ya:=D.ap y hy';have keepA:∀o,g.get? y.a=some o->g3.get? y.a=some o:=λ o e=>b3.extBut _ _ (λ h=>ya (by rw[h];simp)) (b2.extBut _ _ (λ h=>ya (by rw[h];exact G7 _ (G7 _ (G7 _ (HD hm))))) e);refine⟨?_,l3.kept keepA⟩;by_cases h:j=kk
      . subst h;rw[hx]at hy;cases hy;rw[Hu (by omega)];exact eX j2 λ o e=>b3.extBut _ _ tto e
      . have hne:y.t≠x.t:=λ h2=>h (by
         have a1:(S.map Sr.t)[j]?=some y.t:=by rw[Hb,hy];rfl
         have a2:(S.map Sr.t)[kk]?=some y.t:=by rw[Hb,hx,h2];rfl
         obtain⟨g1,e1⟩:=GW.mp a1;obtain⟨g2,e2⟩:=GW.mp a2;exact(List.getElem_inj nt).mp (e1.trans e2.symm))
        have e:(if j<kk then n+1 else n)=(if j<kk+1 then n+1 else n):=by
         by_cases q:j<kk
         . rw[Hu q,Hu (by omega)]
         . rw[Hi q,Hi (by omega)]
        rw[<-e];exact eX j3 λ o e=>b3.extBut _ _ yto (b2.extBut _ _ hne e)
    . exact b3.extBut _ _ (λ h=>hc (by rw[h];simp)) (b2.extBut _ _ (tin c hc) (kp c o hc f))
 . rintro s' ⟨g,xs,rfl,sz,Z2,pO2,lx,hd,hJ,kp⟩;refine GZ (Jl pO2 rfl ?_);refine GZ (KO ?_ ?_)
   . show wpAny _ _ (Builtin.SmallTypes.ownedTupleHandOut (.ref z) (.ref g.objs.size) >>= _) _ _ _;refine GZ ?_;unfold Builtin.SmallTypes.ownedTupleHandOut;have ltz:z<g.objs.size:=Hg Z2;have Z6:IsZip (g.push {cls:= .type "tuple",data:= .seq xs.toArray}) z ti to .ellipsis:=GY _ Z2;refine GZ (Ji Z6 (by simp) λ g7 Z7 b7=>?_);replace Z7:IsZip g7 z ti to (rawInt g.objs.size):=Z7;refine Ji Z7 (by simp) λ g8 Z8 b8=>?_;replace Z8:IsZip g8 z ti to (rawInt g.objs.size):=Z8;have up:∀c o,c≠z->g.get? c=some o->g8.get? c=some o:=λ c o c1 e=>b8.extBut _ _ c1 (b7.extBut _ _ c1 (GY _ e));have pT:eF g8 g.objs.size xs:=b8.extBut _ _ (IX ltz) (b7.extBut _ _ (IX ltz) (Hq _ rfl));have sz8:g8.objs.size=g.objs.size+1:=by rw[b8.1,b7.1,Ik]
     rw[sz]at Z8 pT sz8;refine HA ⟨_,rfl,?_⟩;show Q (.ref g.objs.size) _;rw[sz];have ll:(((S.map λ x=>Value.ref x.t).toArray).toList.zipIdx).length=S.length:=by simp
     rw[ll]at hd hJ;refine q g8 xs lx (λ j x hx=>hd j x (GW.mp hx).1 hx) Z8 (up _ _ (HP z2) pO2) (λ x hx=>?_) pT sz8 λ c o hc e=>up c o (λ h=>hc (by rw[h];simp)) (kp c o hc e);obtain⟨j,hj⟩:=Hx.mp hx;have:=(hJ j x hj).1;rw[Hu (GW.mp hj).1]at this;exact eX this λ o e=>up _ o (λ h=>z3 (by rw[<-h];exact HD hx)) e
   . simp only[Hf,lx];exact gJ (by omega)
def Fi(K:PySem.W.Frag)(L:List (SK×Addr)):It:=
 ⟨λ i H=>∀p∈L,∃xs x,fB p.1 K H p.2 xs/\xs[i]?=some x,
  λ i H v H'=>∃T ys,H T=none/\v= .ref T/\H'=upd H T (.tup ys)/\ys.length=L.length/\∀(j:Nat) (p:SK×Addr),L[j]?=some p->∀xs,fB p.1 K H p.2 xs->∃x,xs[i]?=some x/\ys[j]?=some x,
  λ i H=>(∀p∈L,∃xs,fB p.1 K H p.2 xs)/\∃p∈L,∃xs,fB p.1 K H p.2 xs/\xs.length<=i⟩
abbrev Sx:=(SK×Addr)×Addr
def zu(z ti to:Addr)(L:List Sx)(i:Nat)(h:Heap):Prop:=IsZip h z ti to .none/\eF h ti (L.map λ x=> .ref x.2)/\(∃vs,vs.length=L.length/\eF h to vs)/\∀x∈L,gc x.1.1 x.2 x.1.2 i h
structure Az(z ti to:Addr)(L:List Sx):Prop where
 nd:(z::ti::to::L.map (·.2)).Nodup
 ap:∀x∈L,x.1.2∉z::ti::to::L.map (·.2)
 ne:L≠ []
 l8:L.length<=8
theorem qE{X:Cx}{pins:List (Addr×Obj)}{σ:L2.St}{H:Hp}{s:Shared}(I:Inv X pins σ H s){i:Nat}:∀ {L:List Sx},(∀x∈L,∃xs,fB x.1.1 X.K H x.1.2 xs)->(∀x∈L,gc x.1.1 x.2 x.1.2 i s.heap)->
 ∃S:List Sr,S.map (λ y=>((y.k,y.a),y.t))=L/\(∀y∈S,gc y.k y.t y.a i s.heap/\d8 y.k s.heap y.a y.us/\∀xs,fB y.k X.K H y.a xs->∃its:List Value,Vals xs its/\y.us=its.toArray)
 | [],_,_=>⟨[],rfl,λ y hy=>by cases hy⟩
 |x::L,h,hi=>by
  obtain⟨S,e,hS⟩:=qE I (L:=L) (λ y hy=>h y (G7 _ hy)) λ y hy=>hi y (G7 _ hy);obtain⟨xs,q⟩:=h x Hm;obtain⟨us,r,l⟩:=ja I q;refine⟨⟨x.1.1,x.2,x.1.2,us.toArray⟩::S,by rw[Hy,e],λ y hy=>?_⟩;rcases G9.mp hy with rfl|hy
  . exact⟨hi x Hm,l,λ xs' q'=>⟨us,by rw[oB I q' q];exact r,rfl⟩⟩
  . exact hS y hy
theorem Az.Fd{z ti to:Addr}{L:List Sx}{S:List Sr}(D:Az z ti to L)(e:S.map (λ y=>((y.k,y.a),y.t))=L):Ap z ti to S/\S.map Sr.t=L.map (·.2)/\S.length=L.length/\(S.map λ x=>Value.ref x.t)=L.map λ x=> .ref x.2:=by
 subst e;have e2:(S.map λ y=>((y.k,y.a),y.t)).map (·.2)=S.map Sr.t:=by rw[HC];rfl
 refine⟨⟨by have:=D.nd;rw[e2]at this;exact this,λ x hx=>?_,λ h=>D.ne (by rw[h];rfl)⟩,e2.symm,by rw[GV],by rw[HC];rfl⟩;have:=D.ap _ (HD (f:=λ y:Sr=>((y.k,y.a),y.t)) hx);rw[e2]at this;exact this
theorem ur{z ti to:Addr}{L:List Sx}{i:Nat}{h:Heap}(st:zu z ti to L i h){b:Addr}(hb:b∈z::ti::to::L.map (·.2)):∃o,h.get? b=some o/\∀v,o.data≠ .cell v:=by
 obtain⟨Z,pI,⟨vs,_,pO⟩,iT⟩:=st;simp only[G9,Hv]at hb;rcases hb with rfl|rfl|rfl|⟨x,hx,rfl⟩
 . exact⟨_,Z,λ v e=>by cases e⟩
 . exact⟨_,pI,λ v e=>by cases e⟩
 . exact⟨_,pO,λ v e=>by cases e⟩
 . exact kZ (iT x hx)
theorem tL:∀ {us:List Value} {P:Nat->V->Prop},(∀j u,us[j]?=some u->∃x,RelV x u/\P j x)->∃ys,Vals ys us/\∀j x,ys[j]?=some x->P j x
 | [],_,_=>⟨[],.nil,λ j x e=>by cases e⟩
 |u::us,P,h=>by
  obtain⟨x,r,p⟩:=h 0 u rfl;obtain⟨ys,rv,q⟩:=tL (us:=us) (P:=λ j=>P (j+1)) λ j v e=>h (j+1) v (by rw[HE];exact e);refine⟨x::ys,.cons r rv,λ j y e=>?_⟩;cases j with
  |zero=>cases e;exact p
  |succ j=>exact q j y (by rw[HE]at e;exact e)
theorem rR{P:Program}{w:World}{K:PySem.W.Frag}{elts:List Expr}{kx:Nat}{pos:Pos}{z ti to:Addr}{L:List Sx}(D:Az z ti to L):
 Turn P w K (.Tuple elts kx pos) (Fi K (L.map (·.1))) (z::ti::to::L.map (·.2)) z (zu z ti to L) where
 mem:=Hm
 obj:=λ i h st b hb=>ur st hb
 keep:=λ i h h' st k=>by
  obtain⟨Z,pI,⟨vs,lv,pO⟩,iT⟩:=st;exact⟨k z (by simp) _ Z,k ti (by simp) _ pI,⟨vs,lv,k to (by simp) _ pO⟩,λ x hx=>eX (iT x hx) (k x.2 (by simp only[G9,Hv];exact .inr (.inr (.inr ⟨x,hx,rfl⟩))))⟩
 item:=by
  intro X hP hw hK hc i pins s σ H E I hf st hg;subst hP hw hK;have st0:=st;obtain⟨Z,pI,⟨vs,lv,pO⟩,iT⟩:=st;obtain⟨S,eS,hS⟩:=qE I (L:=L) (λ x hx=>let⟨xs,_,q,_⟩:=hg _ (HD hx);⟨xs,q⟩) iT;obtain⟨D',e1,e2,e3⟩:=D.Fd eS
  have has:∀y∈S,∃xs x its v,fB y.k X.K H y.a xs/\xs[i]?=some x/\Vals xs its/\y.us=List.toArray its/\its[i]?=some v/\RelV x v:=λ y hy=>by
   obtain⟨_,_,h3⟩:=hS y hy;have hy':((y.k,y.a),y.t)∈L:=by rw[<-eS];exact HD (f:=λ y:Sr=>((y.k,y.a),y.t)) hy
   obtain⟨xs,x,q,ex⟩:=hg _ (HD hy');obtain⟨its,r,eu⟩:=h3 xs q;obtain⟨v,ev,rv⟩:=r.get ex;exact⟨xs,x,its,v,q,ex,r,eu,ev,rv⟩
  have tz:s.TypeIs (.ref z) "zip":=⟨_,Z,rfl⟩
  have kpA:∀ {g g':Heap},(∀c o,c∉z::to::S.map Sr.t->s.heap.get? c=some o->g.get? c=some o)->Heap.SameBut z g g'->∀b o,b∉z::ti::to::L.map (·.2)->s.heap.get? b=some o->g'.get? b=some o:=λ{g g'} kp b3 b o hb e=>by
   rw[<-e1]at hb;rw[G9,IE,G9,IE]at hb;exact b3.extBut _ _ hb.1 (kp b o (by rw[G9,IE];exact⟨hb.1,hb.2.2⟩) e)
  unfold pyNext;refine GZ (KU (Io (name:=Str.ofString "__next__") tz JP (Jb JP tz F.entry_zip_next (rW (I.ok.hd hc) D' Z (by rw[e3];exact pI) pO (by rw[e2];exact lv) (by rw[e2];exact D.l8) (λ y hy=>⟨(hS y hy).1,(hS y hy).2.1⟩) (λ g us lu hu Z2 pO2 j2 pT szk kp=>HA ⟨_,rfl,?_⟩) (λ⟨y,hy,hn⟩=>?_)) (F.args_zip_next_1 _))))
  . refine wpAny_letOwnedTupleGo_zip (s:={s with heap:=g}) Z2 λ g' Z3 b3=>?_;have hT:s.heap.objs.size≠z:=IX (Hg Z)
    obtain⟨ys,rv,hy⟩:=tL (us:=us) (P:=λ j x=>∀p,(L.map (·.1))[j]?=some p->∀xs,fB p.1 X.K H p.2 xs->xs[i]?=some x) λ j u eu=>by
     have hj:j<S.length:=by rw[<-lu];exact(GW.mp eu).1
     have ey:S[j]?=some S[j]:=G0 hj;generalize S[j]=y at ey;obtain⟨u',e1,e2⟩:=hu j y ey;rw[eu]at e1;cases e1;obtain⟨xs,x,its,v,q,ex,r,eus,ev,rv⟩:=has y (Hk ey);rw[eus]at e2;have e2:its[i]?=some u:=by simpa using e2
     rw[ev]at e2;cases e2;refine⟨x,rv,λ p hp xs' q'=>?_⟩;rw[<-eS,HC,Hb,ey]at hp;cases hp;rw[oB I q' q];exact ex
    have kp3:=kpA kp b3;have lys:ys.length=us.length:=rv.length;refine⟨.ref s.heap.objs.size,upd H s.heap.objs.size (.tup ys),ze (s:=s) (tk:=s.toks) I hf kp3 (G8 _) ?_,rfl,⟨s.heap.objs.size,ys,I.aF.fresh (G8 _),rfl,rfl,by rw[lys,lu,e2,GV],λ j p hp xs q'=>?_⟩,?_,λ b hb=>?_⟩
    . refine⟨by rw[lys,lu,e2];exact gJ (by have:=D.l8;omega),us,rv,?_⟩;exact⟨_,b3.extBut _ _ hT pT,rfl,_,rfl⟩
    . have hj:j<ys.length:=by
       have:=(GW.mp hp).1;rw[GV]at this;rw[lys,lu,e2];exact this
      exact⟨_,hy j _ (G0 hj) p hp xs q',G0 hj⟩
    . have nd:=D.nd;rw[HY,HY,G9,G9,G9,IE,IE,IE]at nd;refine⟨Z3,b3.extBut _ _ (HP nd.1.1) (kp _ _ (by rw[e1,G9,G9,IE,IE];exact⟨HP nd.1.1,nd.2.1.1,nd.2.1.2⟩) pI),⟨us,by rw[lu,e2],b3.extBut _ _ (HP nd.1.2.1) pO2⟩,λ x hx=>?_⟩;have hx2:=hx;rw[<-eS]at hx2;obtain⟨y,hy',rfl⟩:=Hv.mp hx2;exact eX (j2 y hy') λ o e=>b3.extBut _ _ (λ h=>nd.1.2.2 (by rw[<-h];exact HD (f:=λ x:Sx=>x.2) hx)) e
    . obtain⟨o,e,_⟩:=ur st0 hb;rw[aK (HK (Hg e))];exact(hf b hb).1
  . obtain⟨xs,x,its,v,q,ex,r,eus,ev,rv⟩:=has y hy;rw[eus]at hn;have:its[i]?=none:=by simpa using hn
    rw[ev]at this;cases this
 done:=by
  intro X hP hw hK hc i pins s σ H E I hf st hg;subst hP hw hK;obtain⟨Z,pI,⟨vs,lv,pO⟩,iT⟩:=st;obtain⟨h1,p,hp,xs,q,hl⟩:=hg;obtain⟨S,eS,hS⟩:=qE I (L:=L) (λ x hx=>h1 _ (HD hx)) iT;obtain⟨D',e1,e2,e3⟩:=D.Fd eS;have tz:s.TypeIs (.ref z) "zip":=⟨_,Z,rfl⟩
  obtain⟨y,hy,hn⟩:∃y∈S,y.us[i]?=none:=by
   rw[<-eS,HC]at hp;obtain⟨y,hy,rfl⟩:=Hv.mp hp;obtain⟨its,r,eu⟩:=(hS y hy).2.2 xs q;have:=r.length;exact⟨y,hy,by rw[eu];simp;omega⟩
  unfold pyNext;refine GZ (KU (Io (name:=Str.ofString "__next__") tz JP (Jb JP tz F.entry_zip_next (rW (I.ok.hd hc) D' Z (by rw[e3];exact pI) pO (by rw[e2];exact lv) (by rw[e2];exact D.l8) (λ y hy=>⟨(hS y hy).1,(hS y hy).2.1⟩) (λ g us lu hu Z2 pO2 j2 pT szk kp=>?_) (λ _ g e kp hx=>?_)) (F.args_zip_next_1 _))))
  . obtain⟨j,hj⟩:=Hx.mp hy;obtain⟨u,_,hu⟩:=hu j y hj;rw[hn]at hu;cases hu
  . obtain⟨o,ho,hc2⟩:=hx;refine GZ (wpAny_isInstance (T:="StopIteration") (b:=true) ⟨o,ho,hc2⟩ isSubtype_stop ?_);refine HA ⟨rfl,y6 (s:=s) (tk:=s.toks) I hf λ b o hb e=>?_⟩;rw[<-e1,G9,G9,IE,IE]at hb;exact kp b o (by rw[G9,IE];exact⟨hb.1,hb.2.2⟩) e
 self:=λ _ _ _ _ _ st h=>Kr st.1 h
theorem m6{P:Program}{w:World}{A:Around}{E:Value->Shared->Prop}:∀(L:List (SK×Addr)) (acc:Array Value) (s:Shared) (Q:Array Value->Shared->Prop),(∀p∈L,∃us,d8 p.1 s.heap p.2 us)->
 (∀g,g.objs.size=s.heap.objs.size+L.length->(∀(j:Nat) (p:SK×Addr),L[j]?=some p->g.get? (s.heap.objs.size+j)=some (C7 p.1 p.2))->(∀c o,s.heap.get? c=some o->g.get? c=some o)->Q (acc++((List.range L.length).map λ j=>Value.ref (s.heap.objs.size+j)).toArray) {s with heap:=g})->
 wpAny (model P w) A (forIn (L.map λ p=>Value.ref p.2) acc λ x its=>do let r <-holding its.toList (pyIter x);pure (ForInStep.yield (its.push r))) Q E s
 | [],acc,s,Q,_,q=>by
   have:=q s.heap rfl (λ j p e=>by cases e) λ c o e=>e;rw[Kn,KJ];exact HA (by simpa using this)
 |p::L,acc,s,Q,h,q=>by
  obtain⟨us,a⟩:=h p Hm;rw[Hy,Il];refine GZ (GZ (J8 (BP a (HA ?_))));refine m6 L _ _ Q (λ p' hp'=>let⟨us',a'⟩:=h p' (G7 _ hp');⟨us',a'.push _⟩) λ g sz gi kp=>?_;rw[Ik]at sz gi;have:=q g (by rw[sz,Hl];omega) (λ j p' e=>?_) λ c o e=>kp c o (GY _ e)
  . rw[Ik]
    have e:acc++((List.range (p::L).length).map λ j=>Value.ref (s.heap.objs.size+j)).toArray=acc.push (Value.ref s.heap.objs.size)++((List.range L.length).map λ j=>Value.ref (s.heap.objs.size+1+j)).toArray:=by
     apply Array.ext';rw[Hl,Ii];simp[Function.comp_def,Nat.add_comm,Nat.add_left_comm]
    rw[e]at this;exact this
  . cases j with
    |zero=>cases e;exact kp _ _ (Hq _ (by cases p.1<;>rfl))
    |succ j=>have:=gi j p' (by rw[HE]at e;exact e);rw[show s.heap.objs.size+(j+1)=s.heap.objs.size+1+j by omega];exact this
def v7(s:Shared)(N:Nat)(L:List (SK×Addr))(g:Heap):Prop:=IsZip g (s.heap.objs.size+N+2) (s.heap.objs.size+N) (s.heap.objs.size+N+1) .none/\eF g (s.heap.objs.size+N) ((List.range N).map λ j=> .ref (s.heap.objs.size+j))/\eF g (s.heap.objs.size+N+1) (List.replicate N .none)/\
 (∀(j:Nat) (p:SK×Addr),L[j]?=some p->gc p.1 (s.heap.objs.size+j) p.2 0 g)/\∀c o,s.heap.get? c=some o->g.get? c=some o
theorem xR{L:List (SK×Addr)}(l8:L.length<=8):Meets (Builtin.«zip.__new__» ⟨.type "zip"::L.map λ p=> .ref p.2,[]⟩) (λ _ R s=>(∀p∈L,∃us,d8 p.1 s.heap p.2 us)/\∀g,v7 s L.length L g->R (.ok (.ret (.ref (s.heap.objs.size+L.length+2)))) {s with heap:=g}):=
 .of_wp λ P w A R s h=>by
  obtain⟨hp,gs,d,tk,os⟩:=s;obtain⟨c,h⟩:=h;have hsub:=sub_zip;unfold Builtin.«zip.__new__» Builtin.SmallTypes.iterAll
  wp_walk using m6 L _ _ _ c
  intro g sz gi kp;dsimp only at sz gi kp h c⊢;refine HA ?_;rw[Array.empty_append];generalize hv:((List.range L.length).map λ j=>Value.ref (hp.objs.size+j))=vs;have lv:vs.length=L.length:=by rw[<-hv];simp
  have h8:vs.length<=sizeLine:=by rw[lv];exact gJ (by omega)
  refine GZ (KO ?_ (by simpa using h8));refine GZ (KO ?_ (by simpa using h8))
  wp_walk
  refine⟨_,rfl,?_⟩;have r1:(g.push {cls:= .type "tuple",data:= .seq vs.toArray}).objs.size=hp.objs.size+L.length+1:=by rw[Ik,sz]
  have r2:((g.push {cls:= .type "tuple",data:= .seq vs.toArray}).push {cls:= .type "tuple",data:= .seq (vs.map λ _=>Value.none).toArray}).objs.size=hp.objs.size+L.length+2:=by rw[Ik,r1]
  have e0:∀ {x y:Obj} {c:Addr} {o:Obj},g.get? c=some o->((g.push x).push y).get? c=some o:=λ e=>GY _ (GY _ e);simp only[List.toList_toArray];show R (.ok (.ret (.ref (Heap.objs _).size))) _;rw[r2,r1,sz];refine h _ ⟨?_,?_,?_,λ j p e=>Bm (h:=hp) (GY _ (e0 (gi j p e))),λ c o e=>GY _ (e0 (kp c o e))⟩
  . have:=Hq ((g.push {cls:= .type "tuple",data:= .seq vs.toArray}).push {cls:= .type "tuple",data:= .seq (vs.map λ _=>Value.none).toArray}) (o:={cls:= .type "zip",data:= .fields #[.none,.bool false,.bool false,.ref g.objs.size,.ref (hp.objs.size+L.length+1)]}) rfl;rw[r2,sz]at this;exact this
  . have:(g.push {cls:= .type "tuple",data:= .seq vs.toArray}).get? g.objs.size=some {cls:= .type "tuple",data:= .seq vs.toArray}:=Hq _ rfl;rw[sz]at this;rw[hv];exact GY _ (GY _ this)
  . have:=Hq (g.push {cls:= .type "tuple",data:= .seq vs.toArray}) (o:={cls:= .type "tuple",data:= .seq (vs.map λ _=>Value.none).toArray}) rfl;rw[r1]at this;have e2:(vs.map λ _=>Value.none)=List.replicate L.length .none:=by rw[List.map_const',lv]
    rw[e2]at this⊢;exact GY _ this
theorem rX{P:Program}{w:World}{A:Around}{s:Shared}{E:Value->Shared->Prop}{L:List (SK×Addr)}{Q:Value->Shared->Prop}(l8:L.length<=8)(h1:checkTypeCall "zip" ⟨L.map λ p=> .ref p.2,[]⟩=pure ())(h2:checkBuiltinCall "zip.__new__" ⟨.type "zip"::L.map λ p=> .ref p.2,[]⟩=pure ())(h3:∀ob:Value,argsOk "object.__init__" ⟨ob::L.map λ p=> .ref p.2,[]⟩)(c:∀p∈L,∃us,d8 p.1 s.heap p.2 us)
 (q:∀g,v7 s L.length L g->Q (.ref (s.heap.objs.size+L.length+2)) {s with heap:=g}):wpAny (model P w) A (call (.type "zip") (L.map λ p=> .ref p.2)) Q E s:=
 callType_new F.called_zip (by decide) h1 h2 h3 F.entry_zip_new (xR l8) ⟨c,λ g n=>⟨⟨_,n.1,rfl⟩,q g n⟩⟩
def pf:D->SK
 | .tup _=> .t
 |_=> .l
def za(k:SK)(G:Hp)(a:Addr)(vs:List V):Prop:=match k with
 | .l=>Rd G a (.lst vs)
 | .t=>G a=some (.tup vs)
theorem h9{K:PySem.W.Frag}{k:SK}{G F H:Hp}(P:a8 G F H){a:Addr}{vs:List V}(h:za k G a vs):fB k K H a vs:=by
 cases k
 . exact .inl (dG P h)
 . exact cZ.of (P.get h)
theorem jc{α:List (Option Addr)}{H:Hp}{st:af}{d:D}{v:V}{xs:List D}(S:aB α st H)(r:Rep α H d v)(e:items? st d=some xs):∃p vs,v= .ref p/\ao α H xs vs/\za (pf d) H p vs:=by
 cases d<;>try(cases e;done)
 . unfold items? at e;simp only at e;split at e
   . rename_i ys q;cases e;obtain⟨a,ea,vs,h1,h2⟩:=S.fi q;exact⟨a,vs,ee ea r,h2,Rd.of h1⟩
   . cases e
 . cases e;unfold Rep at r;obtain⟨a,vs,rfl,_,h1,h2⟩:=r;exact⟨a,vs,rfl,h2,h1⟩
 . cases e;unfold Rep at r;obtain⟨a,vs,rfl,_,h1,h2⟩:=r;exact⟨a,vs,rfl,h2,h1⟩
def fH(xs ys:List D):List D:=(xs.zip ys).map λ p=> .tup [p.1,p.2]
theorem fL{xs ys:List D}:(fH xs ys).length=min xs.length ys.length:=by unfold fH;simp
theorem jq{xs ys:List D}{n:Nat}{d:D}(e:(fH xs ys)[n]?=some d):∃x y,xs[n]?=some x/\ys[n]?=some y/\d= .tup [x,y]:=by
 unfold fH at e;rw[Hb]at e;cases q:(xs.zip ys)[n]? with
 |none=>rw[q]at e;cases e
 |some p=>
  rw[q]at e;cases e;rw[List.getElem?_zip_eq_some]at q;exact⟨p.1,p.2,q.1,q.2,rfl⟩
def eY(st:af):List D->Option (List (List D))
 | []=>some []
 |d::ds=>match items? st d,eY st ds with
  |some xs,some xss=>some (xs::xss)
  |_,_=>none
theorem s_{st:af}{d:D}{ds:List D}{xss:List (List D)}(h:eY st (d::ds)=some xss):∃xs r,items? st d=some xs/\eY st ds=some r/\xss=xs::r:=by
 unfold eY at h;split at h
 . rename_i xs r h1 h2;cases h;exact⟨xs,r,h1,h2,rfl⟩
 . cases h
structure Zp(xss:List (List D))(zs:List D):Prop where
 stop:∀n,zs.length<=n->∃xs∈xss,xs.length<=n
 get:∀(n:Nat) d,zs[n]?=some d->∃ys,d= .tup ys/\ys.length=xss.length/\∀(j:Nat) xs,xss[j]?=some xs->∃y,xs[n]?=some y/\ys[j]?=some y
theorem mJ{α:List (Option Addr)}{H:Hp}{st:af}(S:aB α st H):∀ {ds:List D} {vs:List V} {xss:List (List D)},ao α H ds vs->eY st ds=some xss->xss.length=ds.length/\∃L:List (SK×Addr),vs=L.map (λ p=> .ref p.2)/\L.map (·.1)=ds.map pf/\∀(j:Nat) p,L[j]?=some p->∃xs ws,xss[j]?=some xs/\ao α H xs ws/\za p.1 H p.2 ws
 | [],vs,xss,r,e=>by
   unfold ao at r;subst r;cases e;exact⟨rfl,[],rfl,rfl,λ j p h=>by cases h⟩
 |d::ds,vs,xss,r,e=>by
  unfold ao at r;obtain⟨v,vs,rfl,r1,r2⟩:=r;obtain⟨xs,xss,e1,e2,rfl⟩:=s_ e;obtain⟨p,ws,rfl,h1,h2⟩:=jc S r1 e1;obtain⟨ll,L,rfl,hk,h⟩:=mJ S r2 e2;refine⟨by rw[Hl,ll,Hl],(pf d,p)::L,rfl,by rw[Hy,hk];rfl,λ j q hq=>?_⟩;cases j with
  |zero=>cases hq;exact⟨xs,ws,rfl,h1,h2⟩
  |succ j=>rw[HE]at hq;rw[HE];exact h j q hq
theorem mG:∀ {L L':List (SK×Addr)},L.map (λ p=>V.ref p.2)=L'.map (λ p=>V.ref p.2)->L.map (·.1)=L'.map (·.1)->L=L'
 | [],[],_,_=>rfl
 | [],_::_,h,_=>by cases h
 |_::_,[],h,_=>by cases h
 |p::L,q::L',h,k=>by
  injection h with h1 h2;injection k with k1 k2;injection h1 with h1;rw[mG h2 k2,Prod.ext k1 h1]
theorem n9:∀ {L:List (SK×Addr)} {us:List Value},Vals (L.map λ p=>V.ref p.2) us->us=L.map λ p=> .ref p.2
 | [],_,.nil=>rfl
 |p::L,_,.cons r t=>by
  cases r;rw[n9 t];rfl
theorem se{α:List (Option Addr)}{H:Hp}:∀ {ds:List D} {vs:List V},ds.length=vs.length->(∀(j:Nat) d,ds[j]?=some d->∃v,vs[j]?=some v/\Rep α H d v)->ao α H ds vs
 | [],[],_,_=>by unfold ao;rfl
 | [],_::_,h,_=>by cases h
 |_::_,[],h,_=>by cases h
 |d::ds,v::vs,h,k=>by
  obtain⟨_,e,r⟩:=k 0 d rfl;cases e;unfold ao
  exact⟨v,vs,rfl,r,se (by simpa using h) λ j d' e=>by
   obtain⟨v',e',r'⟩:=k (j+1) d' (by rw[HE];exact e);rw[HE]at e';exact⟨v',e',r'⟩⟩
theorem vW{K:PySem.W.Frag}{L:List (SK×Addr)}{α:List (Option Addr)}{G:Hp}{ok:af->Prop}{xss:List (List D)}{zs:List D}(zp:Zp xss zs)(ll:xss.length=L.length)
 (h:∀α' G' F' H' st',Step α G α' G'->a8 G' F' H'->aB α' st' G'->ok st'->∀(j:Nat) p,L[j]?=some p->∃xs ws,xss[j]?=some xs/\ao α' G' xs ws/\fB p.1 K H' p.2 ws):mH (Fi K L) α G ok zs where
 stop:=λ n α' G' F' H' st' s P S o hn=>by
  have h:=h α' G' F' H' st' s P S o;obtain⟨xs,hx,hl⟩:=zp.stop n hn;obtain⟨j,hj⟩:=Hx.mp hx;have jl:=(GW.mp hj).1;refine⟨λ p hp=>?_,L[j]'(by omega),List.getElem_mem _,?_⟩
  . obtain⟨j,hj⟩:=Hx.mp hp;obtain⟨_,ws,_,_,q⟩:=h j p hj;exact⟨ws,q⟩
  . obtain⟨xs',ws,e,r,q⟩:=h j _ (G0 (by omega));rw[hj]at e;cases e;exact⟨ws,q,by rw[<-r.length];exact hl⟩
 go:=λ n d α' G' F' H' st' s P S o hn p hp=>by
  obtain⟨j,hj⟩:=Hx.mp hp;obtain⟨xs,ws,e,r,q⟩:=h α' G' F' H' st' s P S o j p hj;obtain⟨ys,_,_,hy⟩:=zp.get n d hn;obtain⟨y,ey,_⟩:=hy j xs e;obtain⟨v,ev,_⟩:=r.get ey;exact⟨ws,v,q,ev⟩
 ia:=λ n d α' G' F' H' st' x H'' s P S o hn y=>by
  obtain⟨T,us,hT,rfl,rfl,lu,hu⟩:=y;obtain⟨ys,rfl,ly,hy⟩:=zp.get n d hn;have hg:=(P.none hT).1;refine⟨upd G' T (.tup us),Step.laid hg,P.laid hT,S.laid hg,?_⟩;unfold Rep;refine⟨T,us,rfl,S.ip hg,a9,ao.step (Step.laid hg) (se (by omega) λ j d ed=>?_)⟩;have jl:=(GW.mp ed).1;have ep:=G0 (show j<L.length by omega);obtain⟨xs,ws,e,r,q⟩:=h α' G' F' H' st' s P S o j _ ep;obtain⟨y,ey,ey2⟩:=hy j xs e;rw[ed]at ey2;cases ey2;obtain⟨v,ev,rv⟩:=r.get ey;obtain⟨u,eu,eu2⟩:=hu j _ ep ws q;rw[ev]at eu;cases eu;exact⟨v,eu2,rv⟩
@[irreducible] def nF(n:Nat)(ds:List D)(st1:af)(K:List D->(af->Prop)->af->Prop):Prop:=ds.length=n/\∃xss zs,eY st1 ds=some xss/\Zp xss zs/\K zs (λ st'=>eY st' ds=some xss) st1
abbrev uJ:=nF 2
def yW(t:DA):DI:=λ σ st K=>t σ st λ ds st1=>uJ ds st1 K
theorem vV:∀(L:List (SK×Addr)) (k:Nat),((L.zipIdx k).map λ q=>q.1)=L
 | [],_=>rfl
 |p::L,k=>by rw[List.zipIdx_cons,Hy,vV L (k+1)]
theorem xl(n:Nat):∀(L:List (SK×Addr)) (k:Nat),((L.zipIdx k).map λ q=>n+q.2)=(List.range' k L.length).map λ j=>n+j
 | [],_=>rfl
 |p::L,k=>by rw[List.zipIdx_cons,Hy,xl n L (k+1)];rfl
theorem wO{n:Nat}{L:List (SK×Addr)}(h:∀p∈L,p.2<n)(l1:1<=L.length)(l8:L.length<=8):∃Lx:List Sx,Az (n+L.length+2) (n+L.length) (n+L.length+1) Lx/\Lx.map (·.1)=L/\(Lx.map λ x=>Value.ref x.2)=((List.range L.length).map λ j=>Value.ref (n+j))/\(∀x∈Lx,∃j:Nat,L[j]?=some x.1/\x.2=n+j)/\(∀b∈(n+L.length+2:Nat)::(n+L.length)::(n+L.length+1)::Lx.map (·.2),n<=b)/\Lx.length=L.length:=by
 have m1:(L.zipIdx.map λ q=>((q.1,n+q.2):Sx)).map (·.1)=L:=by rw[HC];exact vV L 0
 have m2:(L.zipIdx.map λ q=>((q.1,n+q.2):Sx)).map (·.2)=(List.range L.length).map λ j=>n+j:=by rw[HC,List.range_eq_range'];exact xl n L 0
 have hx:∀x∈(L.zipIdx.map λ q=>((q.1,n+q.2):Sx)),∃j:Nat,L[j]?=some x.1/\x.2=n+j:=λ x hx=>by
  obtain⟨q,hq,rfl⟩:=Hv.mp hx;exact⟨q.2,List.mem_zipIdx_iff_getElem?.mp hq,rfl⟩
 have lx:(L.zipIdx.map λ q=>((q.1,n+q.2):Sx)).length=L.length:=by rw[GV,List.length_zipIdx]
 have m3:((L.zipIdx.map λ q=>((q.1,n+q.2):Sx)).map λ x=>Value.ref x.2)=(List.range L.length).map λ j=>Value.ref (n+j):=by
  have h1:=H0 (List.map Value.ref) m2;rw[HC,HC]at h1;rw[HC];refine h1.trans ?_;rw[HC];rfl
 generalize(L.zipIdx.map λ q=>((q.1,n+q.2):Sx))=Lx at m1 m2 m3 hx lx
 have lo:∀c:Nat,c∈(List.range L.length).map (λ j=>n+j)->n<=c/\c<n+L.length:=λ c hc=>by
  obtain⟨j,hj,rfl⟩:=Hv.mp hc;have:=KH.mp hj;omega
 have nd:((List.range L.length).map λ j=>n+j).Nodup:=List.pairwise_map.mpr ((List.nodup_range (n:=L.length)).imp λ h z=>h (Nat.add_left_cancel z));generalize(List.range L.length).map (λ j=>n+j)=R at lo nd m2
 have big:∀b:Nat,b∈(n+L.length+2:Nat)::(n+L.length)::(n+L.length+1)::R->n<=b:=λ b hb=>by
  simp only[G9]at hb;rcases hb with rfl|rfl|rfl|hb
  . omega
  . omega
  . omega
  . exact(lo b hb).1
 refine⟨Lx,⟨?_,λ x hx' z=>?_,λ z=>?_,by rw[lx];exact l8⟩,m1,m3,hx,?_,lx⟩
 . rw[m2,HY,HY,HY];refine⟨λ z=>?_,λ z=>?_,λ z=>by have:=lo _ z;omega,nd⟩
   . simp only[G9]at z;rcases z with z|z|z
     . have z:n+L.length+2=n+L.length:=z;omega
     . have z:n+L.length+2=n+L.length+1:=z;omega
     . have:=lo _ z;omega
   . simp only[G9]at z;rcases z with z|z
     . have z:n+L.length=n+L.length+1:=z;omega
     . have:=lo _ z;omega
 . rw[m2]at z;obtain⟨j,hj,_⟩:=hx x hx';have a:=h x.1 (Hk hj);have b:=big _ z;exact absurd a (Nat.not_lt.mpr b)
 . rw[z]at lx;have:([]:List Sx).length=0:=rfl;omega
 . rw[m2];exact big
theorem Ds{X:Cx}{n:Nat}{a:Expr}{es:List Expr}{elts:List Expr}{kx:Nat}{tpos p pos:Pos}{t:DA}(n1:1<=n)(n8:n<=8)(hc:∀as:List Value,as.length=n->checkTypeCall "zip" ⟨as,[]⟩=pure ()/\checkBuiltinCall "zip.__new__" ⟨.type "zip"::as,[]⟩=pure ()/\∀ob,argsOk "object.__init__" ⟨ob::as,[]⟩)(hg:Gl X "zip")(hm:X.mg "zip"=none)(ha:PA X (a::es) (LA t))(hs:starEach (a::es) X.env=(false,eval a X.env)::starEach es X.env)(hs2:(backTo pos (starEach es X.env)).any (·.1)=false):
 PI X (.Tuple elts kx tpos) (.Call (.Name "zip" p) (a::es) [] pos) (LI λ σ st K=>t σ st λ ds st1=>nF n ds st1 K):=by
 intro pins s σ H R I h;obtain⟨α,σd,st,K,G,F,P,RS,S,t,k⟩:=h;refine Call_ (gY I hg hm boot_zip (Ih (a6 (ha pos pins s σ H (λ vs H1=>∃ds α1 G1 st1,Step α G α1 G1/\a8 G1 F H1/\aB α1 st1 G1/\ao α1 G1 ds vs/\nF n ds st1 K) I ⟨α,σd,st,_,G,F,P,RS,S,t,λ ds st1 q α1 G1 H1 vs s1 P1 S1 r1=>⟨ds,α1,G1,st1,s1,P1,S1,r1,q⟩⟩) λ us s1 ⟨vs,H1,I1,rv,ds,α1,G1,st1,w1,P1,S1,r1,q⟩=>?_) hs hs2));unfold nF at q;obtain⟨ln,xss,zs,ei,zp,q⟩:=q;obtain⟨lx,L,rfl,hk,hL⟩:=mJ S1 r1 ei;have lL:L.length=n:=by rw[<-ln,<-GV (f:=pf),<-hk,GV]
 rw[n9 rv];obtain⟨h1,h2,h3⟩:=hc (L.map λ p=> .ref p.2) (by rw[GV];exact lL)
 have at':∀p∈L,∃us,d8 p.1 s1.heap p.2 us:=λ p hp=>by
  obtain⟨j,hj⟩:=Hx.mp hp;obtain⟨_,ws,_,_,q⟩:=hL j p hj;obtain⟨its,_,l⟩:=ja I1 (h9 P1 q);exact⟨_,l⟩
 refine rX (by omega) h1 h2 h3 at' λ g ⟨Z,pI,pO,iT,kp⟩=>?_;refine Kr (s:={s1 with heap:=g}) Z ?_
 have lt:∀p∈L,p.2<s1.heap.objs.size:=λ p hp=>by
  obtain⟨us,l⟩:=at' p hp;obtain⟨o,eo⟩:=l.some;exact Hg eo
 obtain⟨Lx,az,m1,m2,hx,big,lLx⟩:=wO lt (by omega) (by omega);refine⟨s1.heap.objs.size+L.length+2,_,_,_,H1,rfl,I1.kept (t':=s1.toks) kp,rR az,⟨Z,by rw[m2];exact pI,⟨_,by rw[He];exact lLx.symm,pO⟩,λ x hx'=>?_⟩,λ b hb=>I1.kh (big b hb) (I1.aF.fresh (big b hb)),?_⟩
 . obtain⟨j,hj,e⟩:=hx x hx';rw[e];exact iT j x.1 hj
 . rw[m1];refine k _ _ st1 q _ α1 G1 H1 w1 P1 S1 (vW zp (by omega) λ α' G' F' H' st' s' P' S' o j p hp=>?_);obtain⟨_,L',e1,hk',hL'⟩:=mJ S' (r1.step s') o;have:=mG e1 (hk.trans hk'.symm);subst this;obtain⟨xs,ws,a,b,c⟩:=hL' j p hp;exact⟨xs,ws,a,b,h9 P' c⟩
theorem wI{xs ys:List D}:Zp [xs,ys] (fH xs ys):=⟨λ n h=>by
 rw[fL]at h;by_cases c:xs.length<=n
 . exact⟨xs,by simp,c⟩
 . exact⟨ys,by simp,by omega⟩,λ n d h=>by
 obtain⟨x,y,ex,ey,rfl⟩:=jq h
 exact⟨_,rfl,rfl,λ j zs hz=>by
  match j with
  |0=>cases hz;exact⟨x,ex,rfl⟩
  |1=>cases hz;exact⟨y,ey,rfl⟩
  |_+2=>cases hz⟩⟩
theorem wb{st:af}{x y:D}{xs ys:List D}{K:List D->(af->Prop)->af->Prop}(ex:items? st x=some xs)(ey:items? st y=some ys)(k:∀ok:af->Prop,(∀st',items? st' x=some xs->items? st' y=some ys->ok st')->K (fH xs ys) ok st):uJ [x,y] st K:=by
 unfold uJ nF;exact⟨rfl,_,_,by simp only[eY,ex,ey],wI,k _ λ st' h1 h2=>by simp only[eY,h1,h2]⟩
theorem zw{X:Cx}{a b:Expr}{elts:List Expr}{kx:Nat}{tpos p pos:Pos}{ar:DA}(hg:Gl X "zip")(hm:X.mg "zip"=none)(ha:JA X [a,b] ar)(hs:notStar a=true:=by rfl)(hs2:notStar b=true:=by rfl):JI X (.Tuple elts kx tpos) (.Call (.Name "zip" p) [a,b] [] pos) (yW ar):=by
 unfold JI;unfold JA at ha;exact Ds (by decide) (by decide) (λ as h=>by
  match as,h with
  | [u,v],_=>exact⟨F.typeCall_zip_2 _ _,F.newCall_zip_2 _ _,λ ob=>F.args_object_init_3 ob _ _⟩) hg hm ha (bB hs) (by rw[bB hs2];rfl)
section
variable {X:Cx}
end
theorem rQ{P:Program}{w:World}{K:PySem.W.Frag}{mg:Str->Option Value}{base:Heap}{k:Nat}{f:Addr}{fd:FuncData}{ps:List Str}{S:bC}(h:∀ds st K,¬S ds st K):cK P w K mg base fA k f fd ps (hX S):=
 ⟨λ vs H Q E q=>by obtain⟨α,ds,st,K,G,F,_,_,_,q,_⟩:=q;exact absurd q (h ds st K),λ A outer s H args us vs Q E _ _ _ _ q=>by obtain⟨α,ds,st,K,G,F,_,_,_,q,_⟩:=q;exact absurd q (h ds st K)⟩
section
variable {X:Cx}{pos:Pos}
end
end L3
namespace L3
open PySem L2 PySem.SeqAt
open PySem.Spec hiding items?
open PyProof.Rows hiding St
section
variable {X:Cx}{pins:List (Addr×Obj)}{σ:L2.St}{H:Hp}{s:Shared}{α:List (Option Addr)}
end
end L3
namespace L3
open PySem L2
open PySem.Spec hiding items?
open PyProof.Rows hiding St
section
variable {X:Cx}
end
theorem oY{tg:cQ}{body:DS}{E:gv}(n:Nat)(I:Nat->bc->af->Prop)(hend:∀σ st,I n σ st->E.nx σ st)
 (hstep:∀(j:Nat) σ st (rest:List D),j<n->I j σ st->(∀σ' st',I (j+1) σ' st'->dO tg body (λ _=>True) E rest σ' st')->∃σ1,tg (.int (j:Int)) σ=some σ1/\body {E with nx:=dO tg body (λ _=>True) E rest,ct:=dO tg body (λ _=>True) E rest,bk:=E.nx} σ1 st)
 {σ:bc} {st:af} (h0:I 0 σ st):dO tg body (λ _=>True) E (dq 0 n) σ st:=by
 refine nR (λ rest σ st=>∃j:Nat,j<=n/\rest=(List.range (n-j)).map (λ i=>D.int (((j+i:Nat):Int)))/\I j σ st) ?_ ?_ _ _ _ ⟨0,IS _,by unfold dq;simp,h0⟩
 . rintro σ st ⟨j,hj,hr,hI⟩
   have:n-j=0:=by
    cases q:n-j with
    |zero=>rfl
    |succ m=>rw[q,Ii]at hr;cases hr
   have hjn:j=n:=by omega
   subst hjn;exact⟨trivial,hend σ st hI⟩
 . rintro d rest σ st ⟨j,hj,hr,hI⟩ next
   cases q:n-j with
   |zero=>rw[q]at hr;cases hr
   |succ m=>
    rw[q,Ii,Hy,HC]at hr;simp only[List.cons.injEq]at hr;obtain⟨rfl,hrest⟩:=hr;refine⟨trivial,hstep j σ st rest (by omega) hI λ σ' st' h'=>next σ' st' ⟨j+1,by omega,?_,h'⟩⟩;have:n-(j+1)=m:=by omega
    rw[this,hrest];refine List.map_congr_left λ i _=>?_;show D.int (((j+(i+1):Nat):Int))=D.int (((j+1+i:Nat):Int));congr 2;omega
section
variable {X:Cx}
end
section
variable {X:Cx}{pos:Pos}
end
section
variable {X:Cx}
end
section
variable {st:af}{K:DK}{d:D}{b:Bool}
end
section
variable {X:Cx}
end
end L3
namespace L3
open PySem L2
open PySem.Spec hiding items?
open PyProof.Rows hiding St
open AutoSeq1 (wpAny_loadPart')
theorem z8{P:Program}{w:World}{A:Around}(hh:A.handled=none)(k:SK)(t a:Addr)(hne:a≠t)(us:Array Value):Draws P w A t [t,a] us.size (λ i v=>us[i]?=some v) (λ n g=>gc k t a n g/\d8 k g a us) where
 live:=λ i h z=>let⟨o,e,_⟩:=kZ z.1;⟨o,e⟩
 frame:=λ i h h' z kp=>⟨eX z.1 (kp t (by simp)),z.2.kept (kp a (by simp))⟩
 item:=λ i s Q E hi z q=>CJ z.1 z.2 (v:=us[i]) (by simp[hi]) λ g j sb=>q _ g s.toks (by simp[hi]) ⟨j,z.2.kept λ o e=>sb.extBut _ _ hne e⟩ sb
 done:=λ s Q E z q=>yr hh z.1 z.2 (by simp) q
theorem jv(l:Addr)(items:Array Value)(n:Nat)(dct:Option Addr)(sl:Array (Option Value)):
 Meets (Builtin.«enumerate.__new__» ⟨[.type "enumerate",.ref l],[]⟩) (λ _ R s=>s.heap.get? l=some {cls:= .type "tuple",dict:=dct,data:= .seq items n,slots:=sl}/\
  R (.ok (.ret (.ref (s.heap.push {cls:= .type "tuple_iterator",data:= .fields #[.ref l,.int 0 0]}).objs.size)))
   {s with heap:=(s.heap.push {cls:= .type "tuple_iterator",data:= .fields #[.ref l,.int 0 0]}).push {cls:= .type "enumerate",data:= .fields #[.none,.bool false,.ref s.heap.objs.size,rawInt 0,.none,.none]}}):=
 .of_wp λ prog w A R s h=>by
  obtain⟨hp,g,d,tk,os⟩:=s;obtain⟨hl,h⟩:=h;have hsub:=sub_enumerate;have hL:Heap.IsTuple (Shared.heap ⟨hp,g,d,tk,os⟩) l items:=⟨_,hl,rfl,n,rfl⟩
  wp_walk using wpAny_loadPart' hl
  refine wpAny_stack_any λ st=>HA ?_;split
  . rename_i c _ _ _ _ _;cases (c==Value.type "enumerate")
    . wp_walk using wpAny_loadPart' hl,IL hL
      exact⟨_,rfl,h⟩
    . wp_walk using wpAny_loadPart' hl,IL hL
      exact⟨_,rfl,h⟩
  . wp_walk using wpAny_loadPart' hl,IL hL
    exact⟨_,rfl,h⟩
theorem xF{P:Program}{w:World}{A:Around}{s:Shared}{E:Value->Shared->Prop}{k:SK}{a:Addr}{us:Array Value}{Q:Value->Shared->Prop}(c:d8 k s.heap a us)
 (q:∀g,IsEnum g (s.heap.objs.size+1) s.heap.objs.size 0 .none->gc k s.heap.objs.size a 0 g->(∀b o,s.heap.get? b=some o->g.get? b=some o)->Q (.ref (s.heap.objs.size+1)) {s with heap:=g}):
 wpAny (model P w) A (call (.type "enumerate") [.ref a]) Q E s:=by
 cases k
 . exact call_enumerate_list c λ g h1 h2 _ h4=>q g h1 h2 h4
 . obtain⟨⟨c,dct,dt,sl⟩,hl,hc,n,hd⟩:=c;replace hc:c= .type "tuple":=hc;replace hd:dt= .seq us n:=hd;subst hc hd
   refine callType_new F.called_enumerate (by decide) (F.typeCall_enumerate_1 _) (F.newCall_enumerate_1 _) (λ obj=>F.args_object_init_2 obj _) F.entry_enumerate_new
    (jv a us n dct sl) ⟨hl,?_⟩
   have hz:(s.heap.push {cls:= .type "tuple_iterator",data:= .fields #[.ref a,.int 0 0]}).objs.size=s.heap.objs.size+1:=Ik ..;show _/\_;rw[hz]
   have he:IsEnum ((s.heap.push {cls:= .type "tuple_iterator",data:= .fields #[.ref a,.int 0 0]}).push
    {cls:= .type "enumerate",data:= .fields #[.none,.bool false,.ref s.heap.objs.size,rawInt 0,.none,.none]}) (s.heap.objs.size+1) s.heap.objs.size 0 .none:=by
    have:=Hq (s.heap.push {cls:= .type "tuple_iterator",data:= .fields #[.ref a,.int 0 0]})
     (o:={cls:= .type "enumerate",data:= .fields #[.none,.bool false,.ref s.heap.objs.size,rawInt 0,.none,.none]}) rfl
    rw[hz]at this;exact this
   exact⟨⟨_,he,rfl⟩,q _ he ⟨_,GY _ (Hq _ rfl),rfl,rfl⟩ λ b o x=>GY _ (GY _ x)⟩
def Fo(K:PySem.W.Frag)(k:SK)(a:Addr):It:=
 ⟨λ i H=>∃xs x,fB k K H a xs/\xs[i]?=some x,
  λ i H v H'=>∃T x,H T=none/\v= .ref T/\H'=upd H T (.tup [.int (i:Int),x])/\∀xs,fB k K H a xs->xs[i]?=some x,
  λ i H=>∃xs,fB k K H a xs/\xs.length<=i⟩
def FD(e t a:Addr)(k:SK)(i:Nat)(h:Heap):Prop:=(∃old,IsEnum h e t i old)/\gc k t a i h
theorem xf{P:Program}{w:World}{K:PySem.W.Frag}{elts:List Expr}{kx:Nat}{pos:Pos}{e t a:Addr}(k:SK)(n1:e≠t)(n2:a≠e)(n3:a≠t):
 Turn P w K (.Tuple elts kx pos) (Fo K k a) [e,t] e (FD e t a k) where
 mem:=by simp
 obj:=λ i h st b hb=>by
  obtain⟨⟨old,he⟩,i1⟩:=st;simp only[G9,Ij,Kp]at hb;rcases hb with rfl|rfl
  . exact⟨_,he,λ v z=>by cases z⟩
  . exact kZ i1
 keep:=λ i h h' st kp=>by
  obtain⟨⟨old,he⟩,i1⟩:=st;exact⟨⟨old,kp e (by simp) _ he⟩,eX i1 (kp t (by simp))⟩
 item:=by
  intro X hP hw hK hc i pins s σ H E I hf st hg;subst hP hw hK;obtain⟨⟨old,he⟩,i1⟩:=st;obtain⟨xs,x,q1,ex⟩:=hg;obtain⟨us,r1,l1⟩:=ja I q1;obtain⟨u,eu,ru⟩:=r1.get ex
  have hlt:i<us.toArray.size:=by
   have:=(GW.mp eu).1;simpa using this
  refine wpAny_pyNext_enum_itemD (z8 (A:=X.A.in1) (show X.A.in1.handled=none from I.ok.hd hc) k t a n3 us.toArray) he ⟨i1,l1⟩ hlt n1 (by simp only[G9,Ij,Kp,IE];exact⟨n1,HP n2⟩) λ y h' tk py ho hs hT hsz kp=>⟨_,rfl,?_⟩
  have hy:y=u:=by
   have:us[i]?=some y:=by simpa using py
   rw[eu]at this;cases this;rfl
  subst hy;refine wpAny_letOwnedTupleGo_enum (s:={s with heap:=h',toks:=tk+1}) ho λ k' he' sb=>?_;have hTe:s.heap.objs.size≠e:=IX (Hg he)
  have kp3:∀b o,b∉[e,t]->s.heap.get? b=some o->k'.get? b=some o:=λ b o hb eb=>by
   simp only[G9,IE,Ij,not_false_eq_true,and_true]at hb;exact sb.extBut _ _ hb.1 (kp b o hb.1 hb.2 eb)
  refine⟨.ref s.heap.objs.size,upd H s.heap.objs.size (.tup [.int (i:Int),x]),ze (s:=s) (tk:=tk+1) I hf kp3 (G8 _) ?_,rfl,⟨s.heap.objs.size,x,I.aF.fresh (G8 _),rfl,rfl,?_⟩,?_,?_⟩
  . refine⟨G_ rfl,[.int (i:Int) tk,y],.cons ⟨tk,rfl⟩ (.cons ru .nil),?_⟩;exact⟨_,sb.extBut _ _ hTe hT,rfl,_,rfl⟩
  . intro xs' q';rw[oB I q' q1];exact ex
  . refine⟨⟨_,by simpa using he'⟩,eX hs.1 λ o eo=>sb.extBut _ _ (HP n1) eo⟩
  . intro b hb
    have:b≠s.heap.objs.size:=by
     obtain⟨o,eb⟩:∃o,s.heap.get? b=some o:=by
      simp only[G9,Ij,Kp]at hb;rcases hb with rfl|rfl
      . exact⟨_,he⟩
      . obtain⟨o,eo,_⟩:=kZ i1;exact⟨o,eo⟩
     exact HK (Hg eb)
    rw[aK this];exact(hf b hb).1
 done:=by
  intro X hP hw hK hc i pins s σ H E I hf st hg;subst hP hw hK;obtain⟨⟨old,he⟩,i1⟩:=st;obtain⟨xs,q1,hle⟩:=hg;obtain⟨us,r1,l1⟩:=ja I q1;have e1:=r1.length;have tz:s.TypeIs (.ref e) "enumerate":=⟨_,he,rfl⟩
  unfold pyNext;refine GZ (KU (Io (name:=Str.ofString "__next__") tz F.slot_enumerate_next (Jb F.slot_enumerate_next tz F.entry_enumerate_next ?_ (F.args_enumerate_next_1 _))));show wpAny _ _ (field (.ref e) 2 >>= _) _ _ _;refine GZ (IG he rfl (x:= .ref t) rfl ?_);refine GZ (yr (I.ok.hd hc) i1 l1 (by simp;omega) λ g x sb hx=>?_);obtain⟨o,ho,hc2⟩:=hx;refine GZ (wpAny_isInstance (T:="StopIteration") (b:=true) ⟨o,ho,hc2⟩ isSubtype_stop ?_);refine HA ⟨rfl,y6 (s:=s) (tk:=s.toks) I hf λ b o hb eb=>?_⟩;simp only[G9,IE,Ij,not_false_eq_true,and_true]at hb;exact sb b o hb.2 eb
 self:=λ _ _ _ _ _ st h=>wpAny_pyIter_enum st.1.choose_spec h
def eW:Nat->List D->List D
 |_,[]=>[]
 |i,x::xs=> .tup [.int (i:Int),x]::eW (i+1) xs
theorem kb:∀ {xs:List D} {i:Nat},(eW i xs).length=xs.length
 | [],_=>rfl
 |_::xs,i=>by unfold eW;rw[Hl,Hl,kb]
theorem kK:∀ {xs:List D} {i n:Nat} {d:D},(eW i xs)[n]?=some d->∃x,xs[n]?=some x/\d= .tup [.int ((i+n:Nat):Int),x]
 | [],_,_,_,e=>by unfold eW at e;cases e
 |x::xs,i,0,d,e=>by
  unfold eW at e;rw[List.getElem?_cons_zero]at e;cases e;exact⟨x,rfl,rfl⟩
 |x::xs,i,n+1,d,e=>by
  unfold eW at e;rw[HE]at e;obtain⟨y,h1,h2⟩:=kK e;refine⟨y,by rw[HE];exact h1,?_⟩;rw[h2,show i+1+n=i+(n+1) by omega]
theorem Ae{K:PySem.W.Frag}{k:SK}{a:Addr}{α:List (Option Addr)}{G:Hp}{ok:af->Prop}{xs:List D}
 (h:∀α' G' st',Step α G α' G'->aB α' st' G'->ok st'->∃vs,za k G' a vs/\ao α' G' xs vs):mH (Fo K k a) α G ok (eW 0 xs) where
 stop:=λ n α' G' F' H' st' s P S o hn=>by
  obtain⟨vs,h1,r1⟩:=h α' G' st' s S o;rw[kb]at hn;refine⟨vs,h9 P h1,?_⟩;have:=r1.length;omega
 go:=λ n d α' G' F' H' st' s P S o hn=>by
  obtain⟨vs,h1,r1⟩:=h α' G' st' s S o;obtain⟨x,ex,rfl⟩:=kK hn;obtain⟨v,ev,_⟩:=r1.get ex;exact⟨vs,v,h9 P h1,ev⟩
 ia:=λ n d α' G' F' H' st' x H'' s P S o hn y=>by
  obtain⟨vs,h1,r1⟩:=h α' G' st' s S o;obtain⟨c,ec,rfl⟩:=kK hn;obtain⟨T,v,hT,rfl,rfl,y1⟩:=y;obtain⟨v',ev,rv⟩:=r1.get ec;rw[y1 vs (h9 P h1)]at ev;cases ev;have hg:=(P.none hT).1;refine⟨upd G' T (.tup [.int (n:Int),v]),Step.laid hg,P.laid hT,S.laid hg,?_⟩;unfold Rep;refine⟨T,[.int (n:Int),v],rfl,S.ip hg,a9,?_⟩;unfold ao;refine⟨.int (n:Int),[v],rfl,?_,?_⟩
  . unfold Rep;rw[Nat.zero_add]
  unfold ao;exact⟨v,[],rfl,rv.step (Step.laid hg),by unfold ao;rfl⟩
def u0(ds:List D)(st1:af)(K:List D->(af->Prop)->af->Prop):Prop:=match ds with
 | [x]=>(match items? st1 x with
   |some xs=>K (eW 0 xs) (λ st'=>items? st' x=some xs) st1
   |_=>False)
 |_=>False
@[irreducible] def j_:List D->af->(List D->(af->Prop)->af->Prop)->Prop:=u0
def uU(t:DA):DI:=λ σ st K=>t σ st λ ds st1=>j_ ds st1 K
theorem vX:bootBuiltins "enumerate"=some (.type "enumerate"):=by decide+kernel
theorem A8{X:Cx}{a:Expr}{elts:List Expr}{kx:Nat}{tpos p pos:Pos}{t:DA}(hg:Gl X "enumerate")(hm:X.mg "enumerate"=none)(ha:PA X [a] (LA t))(hs:starEach [a] X.env=[(false,eval a X.env)]):
 PI X (.Tuple elts kx tpos) (.Call (.Name "enumerate" p) [a] [] pos) (LI (uU t)):=by
 intro pins s σ H R I h;obtain⟨α,σd,st,K,G,F,P,RS,S,t,k⟩:=h;refine Call_ (gY I hg hm vX (Ih (a6 (ha pos pins s σ H (λ vs H1=>∃ds α1 G1 st1,Step α G α1 G1/\a8 G1 F H1/\aB α1 st1 G1/\ao α1 G1 ds vs/\j_ ds st1 K) I ⟨α,σd,st,_,G,F,P,RS,S,t,λ ds st1 q α1 G1 H1 vs s1 P1 S1 r1=>⟨ds,α1,G1,st1,s1,P1,S1,r1,q⟩⟩) λ us s1 ⟨vs,H1,I1,rv,ds,α1,G1,st1,w1,P1,S1,r1,q⟩=>?_) (by rw[hs];rfl) (by rfl)));unfold j_ u0 at q;split at q
 . rename_i x;split at q
   . rename_i xs ex;obtain⟨v1,rfl,q1⟩:=da r1 rfl;obtain⟨p1,vs1,rfl,g1,c1⟩:=jc S1 q1 ex;obtain⟨u1,rfl,ru1⟩:=vals1 rv;cases ru1;obtain⟨its1,_,l1⟩:=ja I1 (h9 P1 c1);refine xF l1 λ g he i1 kp=>?_;obtain⟨o1,eo1⟩:=l1.some;have hp1:p1<s1.heap.objs.size:=Hg eo1;refine wpAny_pyIter_enum (s:={s1 with heap:=g}) he ?_;refine⟨s1.heap.objs.size+1,[s1.heap.objs.size+1,s1.heap.objs.size],_,_,H1,rfl,I1.kept (t':=s1.toks) kp,xf (pf x) (IX (Nat.lt_succ_self _)) (HK (Kc hp1)) (HK hp1),⟨⟨_,he⟩,i1⟩,λ b hb=>?_,?_⟩
     . have hb':s1.heap.objs.size<=b:=by
        simp only[G9,Ij,Kp]at hb;rcases hb with rfl|rfl
        . exact Nat.le_succ _
        . exact G8 _
       exact I1.kh hb' (I1.aF.fresh hb')
     . refine k _ _ st1 q _ α1 G1 H1 w1 P1 S1 (Ae λ α' G' st' s' S' o=>?_);obtain⟨p1',ws1,e1,f1,d1⟩:=jc S' (q1.step s') o;cases e1;exact⟨ws1,d1,f1⟩
   . exact q.elim
 . exact q.elim
theorem AA{st:af}{x:D}{xs:List D}{K:List D->(af->Prop)->af->Prop}(ex:items? st x=some xs)(k:∀ok:af->Prop,(∀st',items? st' x=some xs->ok st')->K (eW 0 xs) ok st):j_ [x] st K:=by
 unfold j_ u0;simp only[ex];exact k _ λ st' h1=>h1
theorem CT{X:Cx}{a:Expr}{elts:List Expr}{kx:Nat}{tpos p pos:Pos}{ar:DA}(hg:Gl X "enumerate")(hm:X.mg "enumerate"=none)(ha:JA X [a] ar)(hs:notStar a=true:=by rfl):JI X (.Tuple elts kx tpos) (.Call (.Name "enumerate" p) [a] [] pos) (uU ar):=by
 unfold JI;unfold JA at ha;exact A8 hg hm ha (bB hs)
end L3
namespace L3
open PySem L2
open PySem.Spec hiding items?
open PyProof.Rows hiding St
section
variable {prog:Program}{w:World}{A:Around}{E:Value->Shared->Prop}{s:Shared}
end
section
variable {X:Cx}{tg:Expr}
end
section
variable {X:Cx}
end
end L3
namespace L3
open PySem L2
open PySem.Spec hiding items?
open PyProof.Rows hiding St
open PySem PySem.Spec L2 PySem.SeqAt
section
variable {X:Cx}
end
end L3
namespace L3
open PySem L2
open PySem.Spec hiding items?
open PyProof.Rows hiding St
section
variable {X:Cx}
end
def fZ:DS:=λ _ _ _=>False
theorem eJ{X:Cx}{s:Stmt}:JS X s fZ:=by
 unfold JS;intro pins s σ H D I h;obtain⟨α,σd,st,DD,G,F,P,R,S,q,k⟩:=h;exact q.elim
section
variable {X:Cx}
end
end L3
namespace L3
open PySem L2
open PySem.Spec hiding items?
open PyProof.Rows hiding St
open Sem (wp)
section
variable {prog:Program}{w:World}{A:Around}{s:Shared}{E:Value->Shared->Prop}
end
section
variable {prog:Program}{w:World}{A:Around}{R:Result->Shared->Prop}{I:Addr}{fp wr:List Addr}{G:Array GenState->Array GenState->Prop}{n:Nat}{P:Nat->Value->Prop}{Sx:Nat->Shared->Prop}
end
section
variable {prog:Program}{w:World}{A:Around}{E:Value->Shared->Prop}{s:Shared}
end
section
variable {X:Cx}{pins:List (Addr×Obj)}{σ:L2.St}{H:Hp}{s:Shared}{α:List (Option Addr)}
end
end L3
namespace L3
open PySem L2
open PySem.Spec hiding items?
open PyProof.Rows hiding St
section
variable {X:Cx}
def pV:b9:=λ ds st K=>match ds with| [.lst xs]=>(match cS xs with|some bs=>K (.bl (bs.any id)) st|none=>False)|_=>False
theorem range_any{α:Type}(l:List α)(f:α->Bool)(tr:Nat->Bool)(h:∀i x,l[i]?=some x->tr i=f x):(List.range l.length).any tr=l.any f:=by
 induction l generalizing tr with
 |nil=>rfl
 |cons a l ih=>
  rw[Hl,Ii,Iz,Iz,List.any_map,h 0 a rfl];congr 1;exact ih (tr∘Nat.succ) λ i x e=>h (i+1) x (by simpa using e)
theorem EE(hc:X.calm=true):aN X (.builtin "any") (cJ pV):=λ pins s σ H xs us Q I rs ⟨α,ds,st,K,G,F',P,r,S,q,k⟩=>by
 unfold pV at q;split at q
 . rename_i ys;split at q
   . rename_i bs e;obtain⟨v,rfl,r1⟩:=da r rfl;unfold Rep at r1;obtain⟨a,vs,rfl,na,h1,h2⟩:=r1;obtain⟨u,rfl,ru⟩:=vals1 rs;cases ru;have hv:=jB h2 e;subst hv;obtain⟨z,its,n,rv,hl,eo⟩:=Inv.n6 I (dG P h1);have hits:=ji rv;subst hits;have isL:s.heap.IsList a (bs.map Value.bool).toArray:=⟨_,eo,rfl,n,rfl⟩
     refine call_any_walk (Jr isL ?_);have hne:a≠s.heap.objs.size:=HK (Hg eo);refine⟨s.heap.objs.size,_,_,_,_,_,λ i=>(bs[i]?).getD true,rfl,Walks.list (A:=X.A.in1) (I.ok.hd hc) _ a hne (bs.map Value.bool).toArray,⟨⟨_,Hq _ rfl,rfl,rfl⟩,⟨_,GY _ eo,rfl,n,rfl⟩⟩,?_,?_⟩
     . intro i w s' Q' E' hP hQ;rw[KL,Hb]at hP;cases zb:bs[i]? with
       |none=>rw[zb]at hP;cases hP
       |some b=>
        rw[zb]at hP;cases hP;simp only[zb]at hQ;exact Ib hQ
     . intro h' tk hk
       have kp:∀b o,s.heap.get? b=some o->h'.get? b=some o:=λ b o q=>hk b o (by
        intro hb;have:b=s.heap.objs.size:=by simpa using hb
        exact absurd (Hg q) (by rw[this];exact Iy _)) (GY _ q)
       have ea:(List.range (bs.map Value.bool).toArray.size).any (λ i=>(bs[i]?).getD true)=bs.any id:=by
        rw[Hf,GV];exact range_any bs id _ λ i x e=>by rw[e];rfl
       rw[ea];exact⟨.bl (bs.any id),H,I.kept (t':=tk) kp,rfl,k.here P q S (by unfold Rep;rfl)⟩
   . exact q.elim
 . exact q.elim
@[irreducible] def sj:b9:=pV
theorem E5(hc:X.calm=true):aN X (.builtin "any") (cJ sj):=by unfold sj;exact EE hc
end
theorem DV{st:af}{K:DK}{xs:List D}{bs:List Bool}(h:cS xs=some bs)(k:K (.bl (bs.any id)) st):sj [.lst xs] st K:=by unfold sj pV;simp only[h];exact k
section
variable {X:Cx}{C f g:Addr}{fd:FuncData}{k:Nat}{x m fl:Str}{e o value:Expr}{es:List Expr}{p pos pos' apos:Pos}{te to:DE}{t:DA}{S:bC}{ps:List Str}
end
section
variable {X:Cx}{tg:Expr}
end
section
variable {X:Cx}
end
section
variable {X:Cx}{e o i value:Expr}{es:List Expr}{te to ti:DE}{t:DA}{pos pos' tpos apos p:Pos}{C f:Addr}{fl m x:Str}{S:bC}{k:Nat}{fd:FuncData}{ps:List Str}
end
end L3
namespace L3
open PySem PySem.Spec L2
open PyProof.Rows hiding St
section
variable {prog:Program}{w:World}{A:Around}{E:Value->Shared->Prop}{s:Shared}{a₀:Array Keyed}
end
end L3
namespace L2
open PySem PySem.Spec PyProof.Rows
structure Entry(K:PySem.W.Frag)(ts:List (Addr×Addr))(a:Addr)(ns:List Int)(H:Hp):Prop where
 lst:fz K H a (ns.map V.int)
 tab:∀q∈ts,H q.2=some (.gN #[])/\q.2≠a
theorem pv:∀ {vs:List Value} {ns:List Int},IntsAre vs ns->Vals (ns.map V.int) vs
 |_,_,.nil=> .nil
 |_,_,.cons n t h=> .cons ⟨t,rfl⟩ (pv h)
structure BC(K:PySem.W.Frag)(ts:List (Addr×Addr))(h:Heap):Prop where
 hd:∀q∈ts,PySem.W.codeHdIn K q.1 q.2=true
 no:∀q∈ts,K.lookup q.2=none
 at':∀q∈ts,h.get? q.2=some (PySem.W.tabObj #[])
theorem wz{P:Program}{w:World}{K:PySem.W.Frag}{mg mb:Str->Option Value}{k:Nat}{fa a:Addr}{fd:FuncData}{x:Str}{sp:Sp}{s₁:Shared}{vs:List Value}{ns:List Int}{ts:List (Addr×Addr)}
 (KX:K.In s₁.heap) (hns:s₁.heap.Ns mainGlobals mg) (hb:s₁.heap.Ns builtinsNs mb) (hbb:∀x:Str,x≠"__name__"->mb x=bootBuiltins x) (hlim:s₁.heap.NoLimit) (hse:s₁.heap.NoSeer) (hgt:P.given.tree=none)
 (hbm:∃bm ob,mg "__builtins__"=some (.ref bm)/\bm≠builtinsNs/\s₁.heap.get? bm=some ob/\ob.cls= .type "module"/\ob.dict=some builtinsNs/\ob.data= .plain) (hT:BC K ts s₁.heap) (hg:s₁.gens= #[])
 (ha:s₁.heap.get? a=some {cls:= .type "list",data:= .seq vs.toArray}) (hi:IntsAre vs ns) (hl:ns.length<=sizeLine) (hr:bW k callerA)
 (F:∀base:Heap,K.In base->base.Ns mainGlobals mg->cK P w K mg base (λ _ _ _ _ _ _=>False) k fa fd [x] sp) (hbind:∀(s:Shared) (u:Value),BindsTo s fd ⟨[u],[]⟩ [(x,u)])
 (hsp:∀H:Hp,Entry K ts a ns H->sp [.ref a] H (λ v _=>v= .bl true) λ _ _ _=>False):
 codeAny (model P w) callerA (.call (.ref fa) ⟨[.ref a],[]⟩) (λ r s'=>r= .ok (.ret (.bool true))/\OldK s₁.heap s'.heap/\s'.os=s₁.os/\AllBare s'.gens) s₁:=by
 have rv:=pv hi;have lenV:=hi.length
 have nta:∀q∈ts,q.2≠a:=λ q hq z=>by
  have:=hT.at' q hq;rw[z,ha]at this;cases this
 let sc:Option HO:=match K.lookup a with
  |some _=>none
  |none=>some (.d7 {cls:= .type "list",data:= .seq vs.toArray} (.lst (ns.map V.int)))
 let H:Hp:=λ b=>if b=a then sc else if b∈ts.map (·.2)then some (.gN #[])else none
 have Ha:H a=sc:=Hu rfl
 have Ht:∀q∈ts,H q.2=some (.gN #[]):=λ q hq=>by
  show(if q.2=a then sc else if q.2∈ts.map (·.2)then some (HO.gN #[])else none)=_;rw[Hi (nta q hq),Hu (HD hq)]
 have Hs:∀b u,H b=some u->(b=a/\K.lookup a=none/\u= .d7 {cls:= .type "list",data:= .seq vs.toArray} (.lst (ns.map V.int)))\/(∃q∈ts,q.2=b/\u= .gN #[]):=λ b u e=>by
  have e':(if b=a then sc else if b∈ts.map (·.2)then some (HO.gN #[])else none)=some u:=e;by_cases hba:b=a
  . rw[Hu hba]at e'
    have e2:(match K.lookup a with
     |some _=>none
     |none=>some (HO.d7 {cls:= .type "list",data:= .seq vs.toArray} (.lst (ns.map V.int))))=some u:=e'
    cases q:K.lookup a with
    |some o=>rw[q]at e2;cases e2
    |none=>rw[q]at e2;cases e2;exact .inl ⟨hba,rfl,rfl⟩
  . rw[Hi hba]at e';by_cases hbt:b∈ts.map (·.2)
    . rw[Hu hbt]at e';cases e';obtain⟨q,hq,e⟩:=Hv.mp hbt;exact .inr ⟨q,hq,e,rfl⟩
    . rw[Hi hbt]at e';cases e'
 have aF:du P w H s₁.heap:=λ b u e=>by
  rcases Hs b u e with⟨rfl,_,rfl⟩|⟨q,hq,rfl,rfl⟩
  . exact⟨ha,by rw[GV];exact hl,vs,_,rv,ha⟩
  . exact hT.at' q hq
 have hE:Entry K ts a ns H:=by
  refine⟨?_,λ q hq=>⟨Ht q hq,nta q hq⟩⟩;cases q:K.lookup a with
  |some o=>
   have e:=KX a o q;rw[ha]at e;cases e;exact .inr ⟨_,vs.toArray,_,q,rfl,rfl,rfl,by rw[Hf,lenV];exact hl,by simpa using rv⟩
  |none=>
   refine .inl (.inr ⟨{cls:= .type "list",data:= .seq vs.toArray},?_⟩);rw[Ha]
   show(match K.lookup a with
    |some _=>none
    |none=>some (HO.d7 {cls:= .type "list",data:= .seq vs.toArray} (.lst (ns.map V.int))))=_
   rw[q]
 have dictNo:∀ {b:Addr} {o:Obj},s₁.heap.get? b=some o->(∀es ep,o.data≠ .seq es ep)->o.cls≠ .none->H b=none:=λ{b o} e d1 d2=>by
  cases q:H b with
  |none=>rfl
  |some u=>
   rcases Hs b u q with⟨rfl,_,_⟩|⟨t,ht,rfl,_⟩
   . rw[ha]at e;cases e;exact absurd rfl (d1 _ _)
   . rw[hT.at' t ht]at e;cases e;exact absurd rfl d2
 have nsK:∀ {b:Addr} {m:Str->Option Value},s₁.heap.Ns b m->(iH s₁.heap H).Ns b m:=λ{b m} ⟨o,es,ep,e,d,r⟩=>by
  refine⟨o,es,ep,jw e ?_,d,r⟩;cases q:H b with
  |none=>rfl
  |some u=>
   rcases Hs b u q with⟨rfl,_,_⟩|⟨t,ht,rfl,_⟩
   . rw[ha]at e;cases e;cases d
   . rw[hT.at' t ht]at e;cases e;cases d
 have hKb:K.In (iH s₁.heap H):=λ b o e=>jw (KX b o e) (by
  cases q:H b with
  |none=>rfl
  |some u=>
   rcases Hs b u q with⟨rfl,z,_⟩|⟨t,ht,rfl,_⟩
   . rw[z]at e;cases e
   . rw[hT.no t ht]at e;cases e)
 obtain⟨bm,ob,b1,b2,b3,b4,b5,b6⟩:=hbm;have hbmK:(iH s₁.heap H).get? bm=some ob:=jw b3 (dictNo b3 (λ es ep z=>by rw[b6]at z;cases z) (λ z=>by rw[b4]at z;cases z))
 have seK:(iH s₁.heap H).NoSeer:=by
  obtain⟨⟨m1,a1,a2⟩,⟨m2,c1,c2⟩,⟨m3,d1,d2⟩,⟨mg',bm',ob',e1,e2,e3,e4,e5⟩⟩:=hse;refine⟨⟨m1,nsK a1,a2⟩,⟨m2,nsK c1,c2⟩,⟨m3,nsK d1,d2⟩,⟨mg',bm',ob',nsK e1,e2,jw e3 ?_,e4,e5⟩⟩;cases q:H bm' with
  |none=>rfl
  |some u=>
   rcases Hs bm' u q with⟨rfl,_,_⟩|⟨t,ht,rfl,_⟩
   . rw[ha]at e3;cases e3;exact absurd (show Value.type "list"=Value.type "module" from e4) (by intro z;injection z with z;exact absurd z (by decide))
   . rw[hT.at' t ht]at e3;cases e3;cases e4
 have hM:Mod K mg (iH s₁.heap H):=⟨hKb,nsK hns,⟨mb,nsK hb,hbb⟩,let⟨mc,h1,h2⟩:=hlim;⟨mc,nsK h1,h2⟩,seK,⟨bm,ob,b1,b2,hbmK,b4,b5,b6⟩⟩
 have e0:uL P w K mg (iH s₁.heap H) callerA [] s₁ H:=⟨rfl,hM,λ b o e=>Br e,Nat.le_of_eq (vN _ _),trivial,λ b hb=>absurd (show b∈([]:List Addr)from hb) (by simp),aF,.of_eq hg,hgt⟩
 refine KY ((F _ hKb (nsK hns)).run callerA [] s₁ H ⟨[.ref a],[]⟩ [.ref a] [.ref a] _ _ hr e0 (hbind s₁ (.ref a)) (.cons rfl .nil) (hsp H hE)) λ r s' h=>?_;cases r with
 |error e=>exact False.elim h
 |ok fl=>
  cases fl with
  |next=>exact False.elim h
  |brk=>exact False.elim h
  |cont=>exact False.elim h
  |ret u=>
   obtain⟨v,H',os,bare,un,hok',r',q⟩:=h;have q':v= .bl true:=q;subst q';obtain rfl:u=Value.bool true:=r';have noF:∀b:Addr,b∉iY ([]:List Env):=λ b z=>absurd (show b∈([]:List Addr)from z) (by simp);refine⟨rfl,⟨λ b o e=>?_,λ b o e=>un.there b o e (by simp)⟩,os,bare⟩;cases q:H b with
   |none=>exact .inl (un.keep b o e q (noF b) (by simp))
   |some u=>
    rcases Hs b u q with⟨rfl,_,rfl⟩|⟨t,ht,rfl,rfl⟩
    . obtain⟨e2,_⟩:=hok' b _ (un.iQ b _ _ q);rw[ha]at e;cases e;exact .inl e2
    . obtain⟨more,e1⟩:=un.iu _ _ q;have e2:s'.heap.get? t.2=some {cls:= .none,data:= .fields (#[]++more)}:=hok' _ _ e1;have e3:=hT.at' t ht;rw[e3]at e;cases e;have C:PySem.W.CodeHd s₁.heap t.1 t.2:=PySem.W.codeHd_of_K KX (hT.hd t ht);exact .inr (.inl ⟨(C.tab e3).isCodeTable,rfl,#[],more,rfl,e2⟩)
theorem D5{l:PySem.W.OpenLaw}{n k:Nat}{q:Program}{loose:List Str}{XP:(Str->Option Value)->Heap->Prop}{YP:World->Heap->Prop}{d:DefRec}{K:Params->PySem.W.Frag}{sp:World->Sp}{x:Str}{ts:List (Addr×Addr)}
 (hn:l.most=some n) (hn2:n<=sizeLine) (hdf:d.params.defaults=[]) (hr:bW k callerA) (hq:importsNone q=true) (hgt:l.prog.given.tree=none)
 (hY:∀(w:World) (h:Heap),YP w h->(K w.params).In h/\BC (K w.params) ts h)
 (F:∀(w:World) (mg:Str->Option Value) (fa:Addr) (h:Heap),(K w.params).In h->h.Ns mainGlobals mg->mg d.name=some (.ref fa)->
   ∃fd:FuncData,(∀(s:Shared) (u:Value),BindsTo s fd ⟨[u],[]⟩ [(x,u)])/\
    ∀base:Heap,(K w.params).In base->base.Ns mainGlobals mg->cK l.prog w (K w.params) mg base (λ _ _ _ _ _ _=>False) k fa fd [x] (sp w))
 (hsp:∀(w:World) (H:Hp) (a:Addr) (ns:List Int),ns.length<=n->Entry (K w.params) ts a ns H->sp w [.ref a] H (λ v _=>v= .bl true) λ _ _ _=>False):
 PySem.W.WalkO q loose XP YP l.row.toRowW d [] (λ f vs=>PySem.call f vs):=by
 refine Att.sR hn hdf λ w s₀ s₁ mg mb fa o pm cd doc a vs ns G Y ho hd hcd hmg hobj hints hlen hg=>?_;obtain⟨KX,hT⟩:=hY w _ Y;obtain⟨fd,hb,hF⟩:=F w mg fa _ KX G.T.g hmg;exact wz KX G.T.g G.T.b G.T.builtins G.T.nolimit (G.T.seer hq) hgt G.T.bmain hT hg hobj hints (HX hlen hn2) hr hF hb λ H hE=>hsp w H a ns hlen hE
end L2
namespace L3
open PySem PySem.Spec L2
open PyProof.Rows hiding St
section
variable {X:Cx}{pins:List (Addr×Obj)}{σ:L2.St}{H:Hp}{s:Shared}{p:Addr}{o o':Obj}{h':Heap}
end
section
variable {X:Cx}{pins:List (Addr×Obj)}{σ:L2.St}{R:Hp->Prop}{s:Shared}{A:Around}{E:Value->Shared->Prop}{a kS:Addr}{e1 e:Nat}{keys:Array Value}{P:PySem.Fin->Shared->Prop}
end
section
variable {X:Cx}{scope:Scope}{Nc:List Str}{fr:List (Option Nat)}{p qual:Str}{f c:Addr}{pins:List (Addr×Obj)}{σ:L2.St}{H:Hp}{s:Shared}
end
section
variable {X:Cx}{scope:Scope}{Nc:List Str}{fr:List (Option Nat)}{p x qual:Str}{params:Arguments}{e body:Expr}{te tb:DE}{lpos kpos pos ppos:Pos}{c0 T:Addr}{n0:Nat}
end
end L3
namespace L3
open PySem L2
open PySem.Spec hiding items?
open PyProof.Rows hiding St
def vI(sc:Scope)(N gl:List Str):Bool:=
 N.all (λ x=>(sc.names.lookup x==some .local||sc.names.lookup x==some .cell)&&x != "__debug__"&&x != "__classdict__")&&gl.all (λ x=>sc.names.lookup x==some .globalImplicit&&x != "__debug__")
structure VS(sc:Scope)(N gl:List Str):Prop where
 ok:vI sc N gl=true
theorem VS.at_{sc:Scope}{N gl:List Str}(V:VS sc N gl){i:Nat}{x:Str}(h:N[i]?=some x):Loc sc x/\(x==("__debug__":Str))=false/\(x==("__classdict__":Str))=false:=by
 have o:=V.ok;unfold vI at o;have:=HH.mp (JQ.mp o).1 x (Hk h);simp only[Ho,JN,KR,KQ,ne_eq]at this;exact⟨this.1.1,Kx this.1.2,Kx this.2⟩
theorem VS.Fm{sc:Scope}{N gl:List Str}(V:VS sc N gl){i:Nat}{x:Str}(h:gl[i]?=some x):sc.names.lookup x=some .globalImplicit/\(x==("__debug__":Str))=false:=by
 have o:=V.ok;unfold vI at o;have:=HH.mp (JQ.mp o).2 x (Hk h);simp only[Ho,KR,KQ,ne_eq]at this;exact⟨this.1,Kx this.2⟩
section
variable {X:Cx}{sc:Scope}{N gl:List Str}{x:Str}{pos:Pos}
theorem VS.nm(V:VS X.env.scope X.N gl)(i:Nat)(h:X.N[i]?=some x:=by rfl):JE X (.Name x pos) (ab i):=
 let q:=V.at_ h
 xm q.2.1 q.2.2 (q.1.elim .inl λ z=> .inr (.inl z)) h
theorem VS.l(V:VS sc N gl)(i:Nat)(h:N[i]?=some x:=by rfl):Loc sc x:=(V.at_ h).1
theorem VS.g(V:VS sc N gl)(i:Nat)(h:gl[i]?=some x:=by rfl):sc.names.lookup x=some .globalImplicit:=(V.Fm h).1
theorem VS.d(V:VS sc N gl)(i:Nat)(h:gl[i]?=some x:=by rfl):(x==("__debug__":Str))=false:=(V.Fm h).2
theorem bY{n:Nat}(hN:X.N[n]?=some x:=by rfl)(hd:((x==("__debug__":Str))||(x==("__classdict__":Str)))=false:=by decide+kernel)
 (hv:qA X.env.scope x:=by first|exact Or.inl rfl|exact Or.inr (Or.inl rfl)|exact Or.inr (Or.inr rfl)):JE X (.Name x pos) (ab n):=
 xm (Bool.or_eq_false_iff.mp hd).1 (Bool.or_eq_false_iff.mp hd).2 hv hN
end
def v9(tl:List (Addr×Pos×Str)):bC:=λ ds st K=>∃ns:List Int,ds=[.lst (ns.map .int)]/\ns.length<=63/\st=tl.map (λ q=> .tab q.1 q.2.1 q.2.2 false)/\∀st',K (.bl true) st'
def wY(K:PySem.W.Frag)(ts:List (Addr×Addr)):Sp:=λ vs H Q _=>∃(a:Addr) (ns:List Int),vs=[.ref a]/\Entry K ts a ns H/\ns.length<=63/\∀H',Q (.bl true) H'
theorem vZ{K:PySem.W.Frag}{ts:List (Addr×Addr)}{tl:List (Addr×Pos×Str)}(nl:vP K=true)(hts:ts.map (·.2)=tl.map (·.1))(nd:(tl.map (·.1)).Nodup){vs:List V}{H:Hp}{Q:VK}{E:XK}(h:wY K ts vs H Q E):hX (v9 tl) vs H Q E:=by
 obtain⟨a,ns,rfl,hE,hl,q⟩:=h
 have tabs:∀q∈tl,H q.1=some (.gN #[])/\q.1≠a:=λ q hq=>by
  have h1:q.1∈ts.map (·.2):=by rw[hts];exact HD hq
  obtain⟨t,ht,e⟩:=Hv.mp h1;rw[<-e];exact hE.tab t ht
 have at_:∀(i:Nat) (x:Addr),(tl.map λ q=>some q.1)[i]?=some (some x)->∃q,tl[i]?=some q/\q.1=x:=λ i x e=>by
  rw[Hb]at e;cases z:tl[i]? with
  |none=>rw[z]at e;cases e
  |some w=>rw[z]at e;simp at e;exact⟨w,rfl,e⟩
 have nota:some a∉tl.map λ q=>some q.1:=λ z=>by
  obtain⟨w,hw,e⟩:=Hv.mp z;exact(tabs w hw).2 (HS e)
 rcases hE.lst with hS|⟨o,its,n,e,hc,_⟩
 . refine⟨tl.map λ q=>some q.1,[.lst (ns.map .int)],tl.map (λ q=> .tab q.1 q.2.1 q.2.2 false),λ d _=>d= .bl true,H,λ _=>none,⟨λ b=>by cases H b<;>rfl,λ _ _ _=>rfl⟩,?_,⟨by simp,λ i j x e1 e2=>?_,λ n c e=>?_⟩,⟨ns,rfl,hl,rfl,λ _=>rfl⟩,?_⟩
   . unfold ao;refine⟨.ref a,[],rfl,?_,by unfold ao;rfl⟩;unfold Rep;exact⟨a,ns.map V.int,rfl,nota,hS,pA ns⟩
   . obtain⟨p,hp,e3⟩:=at_ i x e1;obtain⟨r,hr,e4⟩:=at_ j x e2;have k1:(tl.map (·.1))[i]?=some x:=by rw[Hb,hp,<-e3];rfl
     have k2:(tl.map (·.1))[j]?=some x:=by rw[Hb,hr,<-e4];rfl
     have hi:=(GW.mp k1).1;exact(List.getElem?_inj hi nd).mp (k1.trans k2.symm)
   . rw[Hb]at e;cases z:tl[n]? with
     |none=>rw[z]at e;cases e
     |some w=>
      rw[z]at e;have e':Cell.tab w.1 w.2.1 w.2.2 false=c:=HS e;subst e';refine .inr ⟨w.1,by rw[Hb,z];rfl,rfl,#[],(tabs w (Hk z)).1,trivial,.inl ⟨rfl,rfl⟩⟩
   . rintro d st' rfl α' G' H' v _ _ _ r;unfold Rep at r;subst r;exact q H'
 . exact absurd hc (pM nl e)
section
variable {K:PySem.W.Frag}{x qual p1 p2 p3 p4 p5:Str}{st:Stmt}{f:Addr}{fd:FuncData}
abbrev lO(x qual:Str)(st:Stmt)(kV doc pm:Value)(an:Option Addr)(cdv ct:Value):FuncData:=PySem.W.fnOf x qual (fG st) (dD st) (aA st) .none kV doc pm an cdv ct
theorem c6{α:Type}{n:Nat}{us:List α}(h:us.length=n+1):∃a r,us=a::r/\r.length=n:=by
 cases us with
 |nil=>cases h
 |cons a r=>exact⟨a,r,rfl,Nat.succ.inj h⟩
theorem i_{α:Type}{us:List α}(h:us.length=0):us=[]:=Ie.mp h
theorem Gk(F:h_ K x qual st f fd)(h:∀kV doc pm an cdv ct a,bindArgs (lO x qual st kV doc pm an cdv ct) ⟨[a],[]⟩=pure [(p1,a)]):Binds K fd [p1] []:=
 F.binds λ kV doc pm an cdv ct us hl=>by
  obtain⟨a,r1,rfl,h1⟩:=c6 hl;cases i_ h1;exact h kV doc pm an cdv ct a
theorem Gz(F:h_ K x qual st f fd)(h:∀kV doc pm an cdv ct a b,bindArgs (lO x qual st kV doc pm an cdv ct) ⟨[a,b],[]⟩=pure [(p1,a),(p2,b)]):Binds K fd [p1,p2] []:=
 F.binds λ kV doc pm an cdv ct us hl=>by
  obtain⟨a,r1,rfl,h1⟩:=c6 hl;obtain⟨b,r2,rfl,h2⟩:=c6 h1;cases i_ h2;exact h kV doc pm an cdv ct a b
theorem GL(F:h_ K x qual st f fd)(h:∀kV doc pm an cdv ct a b c,bindArgs (lO x qual st kV doc pm an cdv ct) ⟨[a,b,c],[]⟩=pure [(p1,a),(p2,b),(p3,c)]):Binds K fd [p1,p2,p3] []:=
 F.binds λ kV doc pm an cdv ct us hl=>by
  obtain⟨a,r1,rfl,h1⟩:=c6 hl;obtain⟨b,r2,rfl,h2⟩:=c6 h1;obtain⟨c,r3,rfl,h3⟩:=c6 h2;cases i_ h3;exact h kV doc pm an cdv ct a b c
theorem GD(F:h_ K x qual st f fd)(h:∀kV doc pm an cdv ct a b c d,bindArgs (lO x qual st kV doc pm an cdv ct) ⟨[a,b,c,d],[]⟩=pure [(p1,a),(p2,b),(p3,c),(p4,d)]):Binds K fd [p1,p2,p3,p4] []:=
 F.binds λ kV doc pm an cdv ct us hl=>by
  obtain⟨a,r1,rfl,h1⟩:=c6 hl;obtain⟨b,r2,rfl,h2⟩:=c6 h1;obtain⟨c,r3,rfl,h3⟩:=c6 h2;obtain⟨d,r4,rfl,h4⟩:=c6 h3;cases i_ h4;exact h kV doc pm an cdv ct a b c d
end
section
variable {X:Cx}
end
mutual
theorem ub{α:List (Option Addr)}{G:Hp}:∀(n:Nat) {d:D} {v:V},pl n d=true->Rep α G d v->Rep [] G d v
 |_,.aH,_,_,h=>by unfold Rep at h⊢;exact h
 |_,.bl _,_,_,h=>by unfold Rep at h⊢;exact h
 |_,.int _,_,_,h=>by unfold Rep at h⊢;exact h
 |_,.str _,_,_,h=>by unfold Rep at h⊢;exact h
 |_,.ty _,_,p,_=>by unfold pl at p;cases p
 |_,.fx _,_,p,_=>by unfold pl at p;cases p
 |_,.ref _,_,p,_=>by unfold pl at p;cases p
 |0,.lst _,_,p,_=>by unfold pl at p;cases p
 |0,.tup _,_,p,_=>by unfold pl at p;cases p
 |n+1,.lst xs,_,p,h=>by
  unfold pl at p;unfold Rep at h⊢;obtain⟨a,vs,e,_,r,q⟩:=h;exact⟨a,vs,e,by simp,r,mx n p q⟩
 |n+1,.tup xs,_,p,h=>by
  unfold pl at p;unfold Rep at h⊢;obtain⟨a,vs,e,_,r,q⟩:=h;exact⟨a,vs,e,by simp,r,mx n p q⟩
theorem mx{α:List (Option Addr)}{G:Hp}:∀(n:Nat) {ds:List D} {vs:List V},ds.all (pl n)=true->ao α G ds vs->ao [] G ds vs
 |_,[],_,_,h=>by unfold ao at h⊢;exact h
 |n,d::ds,_,p,h=>by
  rw[Im,Ho]at p;unfold ao at h⊢;obtain⟨v,r,e,h1,h2⟩:=h;exact⟨v,r,e,ub n p.1 h1,mx n p.2 h2⟩
end
section
variable {X:Cx}
def oX(X:Cx):Cx:={X with xe:=λ _ _=>False}
end
variable {st:af}{K:D->af->Prop}{i j:Int}
section
variable {X:Cx}{pos:Pos}
end
end L3
namespace L3
open PySem L2
end L3
namespace Hd
open PySem PySem.W L2 L3
open PySem.Spec hiding items?
open PyProof.Rows hiding St
section
variable {K:Frag}{mg:Str->Option Value}{h:Heap}{x q:Str}{st:Stmt}{f c C:Addr}{pm:Value}{p1 p2 p3 p4 p5 p6:Str}
abbrev Ed(K:Frag)(x:Str)(st:Stmt)(f:Addr)(pm:Value)(c:Addr):Prop:=(nsIn K mainGlobals x,K.lookup f,codeIn K (.ref c) x,keepIn K (.ref f))=(some (some (.ref f)),some (fq st x x pm c),true,true)
theorem Ed.fn(e:Ed K x st f pm c):h_ K x x st f (fd st x x pm c)/\nsIn K mainGlobals x=some (some (.ref f)):=by
 obtain⟨e1,e2,e3,e4⟩:_/\_/\_/\_:=by simpa only[Prod.mk.injEq]using e
 exact⟨Df (st:=st) e2 e3 e4,e1⟩
theorem GI(X:K.In h)(G:h.Ns mainGlobals mg)(e:Ed K x st f pm c)(b:∀kV doc pm an cdv ct a,bindArgs (lO x x st kV doc pm an cdv ct) ⟨[a],[]⟩=pure [(p1,a)]):dX K mg x x st [p1] f (fd st x x pm c):=⟨e.fn.1,mg_of X G e.fn.2,Gk e.fn.1 b⟩
theorem BD(X:K.In h)(G:h.Ns mainGlobals mg)(e:Ed K x st f pm c)(b:∀kV doc pm an cdv ct a1 a2,bindArgs (lO x x st kV doc pm an cdv ct) ⟨[a1,a2],[]⟩=pure [(p1,a1),(p2,a2)]):dX K mg x x st [p1,p2] f (fd st x x pm c):=⟨e.fn.1,mg_of X G e.fn.2,Gz e.fn.1 b⟩
theorem Gn(X:K.In h)(G:h.Ns mainGlobals mg)(e:Ed K x st f pm c)(b:∀kV doc pm an cdv ct a1 a2 a3,bindArgs (lO x x st kV doc pm an cdv ct) ⟨[a1,a2,a3],[]⟩=pure [(p1,a1),(p2,a2),(p3,a3)]):dX K mg x x st [p1,p2,p3] f (fd st x x pm c):=⟨e.fn.1,mg_of X G e.fn.2,GL e.fn.1 b⟩
theorem GJ(X:K.In h)(G:h.Ns mainGlobals mg)(e:Ed K x st f pm c)(b:∀kV doc pm an cdv ct a1 a2 a3 a4,bindArgs (lO x x st kV doc pm an cdv ct) ⟨[a1,a2,a3,a4],[]⟩=pure [(p1,a1),(p2,a2),(p3,a3),(p4,a4)]):dX K mg x x st [p1,p2,p3,p4] f (fd st x x pm c):=⟨e.fn.1,mg_of X G e.fn.2,GD e.fn.1 b⟩
end
end Hd
namespace L3
open PySem L2
open PySem.Spec hiding items?
open PyProof.Rows hiding St
section
variable {X:Cx}{pos:Pos}
end
end L3
namespace L3
open PySem L2
open PySem.Spec hiding items?
end L3
namespace L3
open PySem PySem.Spec L2
open PyProof.Rows hiding St
section
variable {X:Cx}{pos:Pos}
end
end L3
namespace L3
open PySem L2
open PySem.Spec hiding items?
open PyProof.Rows hiding St
section
variable {X:Cx}
end
section
variable {X:Cx}{pos:Pos}
end
section
variable {X:Cx}
end
namespace RF
end RF
section
variable {prog:Program}{w:World}{A:Around}{E:Value->Shared->Prop}{s:Shared}
end
section
variable {X:Cx}{tg:Expr}
end
section
variable {X:Cx}
end
end L3
namespace L3
open PySem L2
open PySem.Spec hiding items?
open PyProof.Rows hiding St
section
variable {X:Cx}
end
section
variable {X:Cx}{pos:Pos}
end
section
variable {X:Cx}
end
def vf:b9:=λ ds st K=>match ds with| [.int i]=>i.natAbs.log2<1920/\K (.str (toString i)) st|_=>False
theorem Ep{X:Cx}:aN X (.type "str") (cJ vf):=aN.imp r8 λ xs H Q ⟨α,ds,st,K,G,F',P,r,S,q,k⟩=>by
 unfold vf at q;split at q
 . obtain⟨v,rfl,r1⟩:=da r rfl;unfold Rep at r1;subst r1;exact⟨_,rfl,q.1,k.here P q.2 S (by unfold Rep;rfl)⟩
 . exact q.elim
@[irreducible] def jN:b9:=vf
theorem uX{X:Cx}:aN X (.type "str") (cJ jN):=by unfold jN;exact Ep
theorem BJ{i:Int}{st:af}{K:DK}(h:i.natAbs.log2<1920)(k:K (.str (toString i)) st):jN [.int i] st K:=by unfold jN;exact⟨h,k⟩
section
variable {X:Cx}{sc:Scope}{N gl:List Str}{x:Str}{pos:Pos}
theorem VS.lM(V:VS sc N gl)(h:N.contains x=true:=by decide+kernel):Loc sc x:=by
 obtain⟨i,hi,e⟩:=I_.mp (KP.mp h);exact V.l i (by rw[G0 hi,e])
theorem VS.gM(V:VS sc N gl)(h:gl.contains x=true:=by decide+kernel):sc.names.lookup x=some .globalImplicit:=by
 obtain⟨i,hi,e⟩:=I_.mp (KP.mp h);exact V.g i (by rw[G0 hi,e])
def CV(N P:List Str)(sc:Scope):Bool:=(sc.kind== .function)&& !sc.isCoroutine&& !sc.isGenerator&&decide N.Nodup&&(N.take P.length==P)&&P.all (λ x=>sc.names.lookup x==some .local||sc.names.lookup x==some .cell)&&sc.names.all λ y=>y.2 != .free
structure VF(s:Stmt)(N P gl:List Str):Prop where
 v:VS (aA s) N gl
 sc:gE N P (aA s)
theorem VF.of{s:Stmt}{N P gl:List Str}(h:(vI (aA s) N gl&&CV N P (aA s))=true):VF s N P gl:=by
 obtain⟨h1,h2⟩:=JQ.mp h;unfold CV at h2;simp only[Ho,KR,Bool.not_eq_true',Ig,HH,JN,KQ,ne_eq]at h2;obtain⟨⟨⟨⟨⟨⟨a,b⟩,c⟩,d⟩,e⟩,f⟩,g⟩:=h2;exact⟨⟨h1⟩,a,b,c,d,e,f,g⟩
variable {scope:Scope}{elt tg iter:Expr}{ifs:List Expr}{src:DI}{fr:List (Option Nat)}{dtg:cQ}{t:DT}{te:DE}{pos' p:Pos}
variable {X0:Cx}{scope0:Scope}{Nc:List Str}{C:Addr}{s:Shared}{H:Hp}{ex:List Addr}
theorem VS.loc(V:VS sc N gl)(h:sc.names.lookup x=some .local:=by decide+kernel):sc.names.lookup x=some .local:=h
end
end L3
namespace L2
open PySem PySem.Spec PyProof.Rows PySem.W
end L2
namespace L3
open PySem L2
open PySem.Spec hiding items?
open PyProof.Rows hiding St
section
variable {X:Cx}
end
mutual
inductive qX(st:af):D->D->Prop
 |own {n:Nat} {d:D} (h:pl n d=true):qX st d d
 |ref {c:Nat} {xs ys:List D} (e:st[c]?=some (.lst xs)) (t:ka st xs ys):qX st (.ref c) (.lst ys)
 |lst {xs ys:List D} (t:ka st xs ys):qX st (.lst xs) (.lst ys)
 |tup {xs ys:List D} (t:ka st xs ys):qX st (.tup xs) (.tup ys)
inductive ka(st:af):List D->List D->Prop
 |nil:ka st [] []
 |cons {x y:D} {xs ys:List D} (h:qX st x y) (t:ka st xs ys):ka st (x::xs) (y::ys)
end
mutual
theorem qX.rep{α:List (Option Addr)}{G:Hp}{st:af}(S:aB α st G):∀ {d e:D} {v:V},qX st d e->Rep α G d v->Rep [] G e v
 |_,_,_,.own h,r=>ub _ h r
 |_,_,_,.ref e t,r=>by
  obtain⟨a,ea,ws,g1,g2⟩:=S.fi e;have:=ee ea r;subst this;unfold Rep;exact⟨a,ws,rfl,by simp,.inl g1,t.rep S g2⟩
 |_,_,_,.lst t,r=>by
  unfold Rep at r⊢;obtain⟨a,vs,e,_,q,z⟩:=r;exact⟨a,vs,e,by simp,q,t.rep S z⟩
 |_,_,_,.tup t,r=>by
  unfold Rep at r⊢;obtain⟨a,vs,e,_,q,z⟩:=r;exact⟨a,vs,e,by simp,q,t.rep S z⟩
theorem ka.rep{α:List (Option Addr)}{G:Hp}{st:af}(S:aB α st G):∀ {ds es:List D} {vs:List V},ka st ds es->ao α G ds vs->ao [] G es vs
 |_,_,_,.nil,r=>by unfold ao at r⊢;exact r
 |_,_,_,.cons h t,r=>by
  unfold ao at r⊢;obtain⟨v,w,e,h1,h2⟩:=r;exact⟨v,w,e,h.rep S h1,t.rep S h2⟩
end
end L3
namespace L3
open PySem L2 PySem.SeqAt
open PySem.Spec hiding items?
open PyProof.Rows hiding St
open AutoSeq1 (wpAny_loadPart')
open MeetsSeq MeetsSeq2 MeetsSeq3
section
variable {X:Cx}{pins:List (Addr×Obj)}{σ:L2.St}{H:Hp}{s:Shared}{α:List (Option Addr)}
end
end L3
namespace L3
open PySem L2
open PySem.Spec hiding items?
open PyProof.Rows hiding St
section
variable {X:Cx}{x:Str}{C f:Addr}{k:Nat}{fd:FuncData}{ps:List Str}{S:bC}{pos p:Pos}
end
section
variable {K:PySem.W.Frag}{x qual:Str}{st:Stmt}{f:Addr}{fd:FuncData}{p1 p2 p3 p4 p5 p6 p7:Str}
end
end L3
namespace Hd
open PySem PySem.W L2 L3
open PySem.Spec hiding items?
open PyProof.Rows hiding St
section
variable {K:Frag}{mg:Str->Option Value}{h:Heap}{x q:Str}{st:Stmt}{f c C:Addr}{pm:Value}{p1 p2 p3 p4 p5 p6 p7:Str}
end
end Hd
namespace Tx
open PySem PySem.StrLaws PySem.Builtin PySem.Builtin.Str
def one(c:Nat):Str:=⟨#[c]⟩
def ix(c:Nat):Nat->List Nat->List Nat
 |_,[]=>[]
 |a,y::l=>if y=c then a::ix c (a+1) l else ix c (a+1) l
def bb(c:Nat):List Nat->List (List Nat)
 | []=>[[]]
 |a::l=>if a=c then []::bb c l else match bb c l with
  |p::r=>(a::p)::r
  | []=>[[a]]
theorem fY(c:Nat):∀l,∃p r,bb c l=p::r
 | []=>⟨_,_,rfl⟩
 |a::l=>by
  unfold bb;split
  . exact⟨_,_,rfl⟩
  . obtain⟨p,r,e⟩:=fY c l;rw[e];exact⟨_,_,rfl⟩
theorem sub_one{x:Str}{c a y:Nat}{l:List Nat}(h:x.cps.toList.drop a=y::l):subAt x (one c) a=decide (y=c):=by
 rw[subAt_eq];show((x.cps.toList.drop a).take 1== [c])=_;rw[h];show([y]== [c])=_;by_cases e:y=c
 . subst e;simp
 . simp[e]
theorem mw{x:Str}{c:Nat}:∀(L:List Nat) (a:Nat) (st:Array Nat×Nat),x.cps.toList.drop a=L->a+L.length=x.length->st.2<=a->st.1.size<=a->
 (forIn (List.range' a (L.length+1)) st (occBody x (one c) x.length (x.length+1))).run.fst.toList=st.1.toList++ix c a L
 | [],a,st,h,hl,h1,h2=>by
   rw[show List.range' a (([]:List Nat).length+1)=a::[]from rfl,Il];unfold occBody;have:(one c).length=1:=rfl;have hl':a=x.length:=hl;rw[Hi (λ z=>by have:=z.1.2;omega)];show st.1.toList=st.1.toList++[];simp
 |y::l,a,st,h,hl,h1,h2=>by
  have hd:x.cps.toList.drop (a+1)=l:=by rw[<-JZ,h];rfl
  have hl':a+1+l.length=x.length:=by simp at hl;omega
  rw[show List.range' a ((y::l).length+1)=a::List.range' (a+1) (l.length+1)from rfl,Il];have e1:(one c).length=1:=rfl;have e2:=sub_one (c:=c) h;by_cases e:y=c
  . have hc:((st.1.size<x.length+1/\st.2<=a)/\a+(one c).length<=x.length)/\subAt x (one c) a=true:=⟨⟨⟨by omega,h1⟩,by rw[e1];omega⟩,by rw[e2];simp[e]⟩
    have:=mw (c:=c) l (a+1) (st.1.push a,a+1) hd hl' (G8 _) (by simp;omega);unfold occBody at this⊢;rw[Hu hc];refine this.trans ?_;simp[ix,e]
  . have hc:¬(subAt x (one c) a=true):=by rw[e2];simp[e]
    have:=mw (c:=c) l (a+1) st hd hl' (by omega) (by omega);unfold occBody at this⊢;rw[Hi (λ z=>hc z.2)];refine this.trans ?_;simp[ix,e]
theorem ui(x:Str)(c:Nat):occurrences x (one c) 0 x.length (x.length+1)=ix c 0 x.cps.toList:=by
 rw[occ_eq];have hn:x.cps.toList.length=x.length:=by simp[Str.length]
 have:=mw (x:=x) (c:=c) x.cps.toList 0 (#[],0) rfl (by rw[hn];omega) (G8 _) (G8 _);rw[hn]at this;simpa using this
theorem jt{x:Str}{c:Nat}:∀(L:List Nat) (a b:Nat) (P:List Nat),x.cps.toList.drop b=P++L->a=b+P.length->a+L.length=x.length->
 ∀p r,bb c L=p::r->(partsFrom x 1 b (ix c a L)).map (λ s=>s.cps.toList)=(P++p)::r
 | [],a,b,P,h,ha,hl,p,r,e=>by
   cases e;show [(strSub x b x.length).cps.toList]=_;rw[Jv,h,HL,IT (by simp at hl;omega)]
 |y::l,a,b,P,h,ha,hl,p,r,e=>by
  have hl':a+1+l.length=x.length:=by simp at hl;omega
  obtain⟨q,t,e'⟩:=fY c l;unfold bb at e;unfold ix;by_cases hy:y=c
  . rw[Hu hy]at e⊢;cases e;show(strSub x b a).cps.toList::(partsFrom x 1 (a+1) (ix c (a+1) l)).map _=_
    have hd:x.cps.toList.drop (a+1)=[]++l:=by
     have:a+1=b+(P.length+1):=by omega
     rw[this,<-JZ,h];simp
    rw[jt l (a+1) (a+1) [] hd rfl hl' q t e',Jv,h,ha,Nat.add_sub_cancel_left];simp[e']
  . rw[Hi hy,e']at e;rw[Hi hy];injection e with e3 e4;subst e3 e4;have:=jt l (a+1) b (P++[y]) (by rw[h];simp) (by simp;omega) hl' q t e';rw[this];simp
theorem oQ(x:Str)(c:Nat):(partsBetween x (occurrences x (one c) 0 x.length (x.length+1)) (one c).length).map (λ s=>s.cps.toList)=bb c x.cps.toList:=by
 rw[partsBetween_eq,ui];obtain⟨p,r,e⟩:=fY c x.cps.toList;have hn:x.cps.toList.length=x.length:=by simp[Str.length]
 rw[e];exact jt x.cps.toList 0 0 [] rfl rfl (by rw[hn];omega) p r e
theorem rB{x sub:Str}{hi lim:Nat}:∀(l:List Nat) (st:Array Nat×Nat),lim<=st.1.size->(forIn l st (occBody x sub hi lim)).run.fst=st.1
 | [],_,_=>rfl
 |a::l,st,h=>by
  rw[Il];unfold occBody;rw[Hi (λ z=>by have:=z.1.1.1;omega)];exact rB l st h
theorem pC{x:Str}{c:Nat}:∀(L:List Nat) (a:Nat) (f:Nat),x.cps.toList.drop a=L->a+L.length=x.length->f<=a->
 (forIn (List.range' a (L.length+1)) ((#[]:Array Nat),f) (occBody x (one c) x.length 1)).run.fst.toList=(ix c a L).take 1
 | [],a,f,h,hl,h1=>by
   rw[show List.range' a (([]:List Nat).length+1)=a::[]from rfl,Il];unfold occBody;have:(one c).length=1:=rfl;have hl':a=x.length:=hl;rw[Hi (λ z=>by have:=z.1.2;omega)];rfl
 |y::l,a,f,h,hl,h1=>by
  have hd:x.cps.toList.drop (a+1)=l:=by rw[<-JZ,h];rfl
  have hl':a+1+l.length=x.length:=by simp at hl;omega
  rw[show List.range' a ((y::l).length+1)=a::List.range' (a+1) (l.length+1)from rfl,Il];have e1:(one c).length=1:=rfl;have e2:=sub_one (c:=c) h;by_cases e:y=c
  . have hc:(((#[]:Array Nat),f).1.size<1/\((#[]:Array Nat),f).2<=a)/\a+(one c).length<=x.length:=⟨⟨by simp,h1⟩,by rw[e1];omega⟩
    have:=rB (x:=x) (sub:=one c) (hi:=x.length) (lim:=1) (List.range' (a+1) (l.length+1)) (#[a],a+1) (by simp);unfold occBody at this⊢;rw[Hu ⟨hc,by rw[e2];simp[e]⟩];refine(H0 Array.toList this).trans ?_;simp[ix,e]
  . have hc:¬(subAt x (one c) a=true):=by rw[e2];simp[e]
    have:=pC (c:=c) l (a+1) f hd hl' (by omega);unfold occBody at this⊢;rw[Hi (λ z=>hc z.2)];refine this.trans ?_;simp[ix,e]
theorem mE(x:Str)(c:Nat):occurrences x (one c) 0 x.length 1=(ix c 0 x.cps.toList).take 1:=by
 rw[occ_eq];have hn:x.cps.toList.length=x.length:=by simp[Str.length]
 have:=pC (x:=x) (c:=c) x.cps.toList 0 0 rfl (by rw[hn];omega) (G8 _);rw[hn]at this;simpa using this
theorem uh{c:Nat}:∀(p:List Nat) (a:Nat) (r:List Nat),c∉p->(ix c a (p++c::r)).take 1=[a+p.length]
 | [],a,r,_=>by simp[ix]
 |y::p,a,r,h=>by
  have h1:y≠c:=λ z=>h (by simp[z]);have h2:c∉p:=λ z=>h (G7 _ z);have:=uh p (a+1) r h2;simp only[HR,ix,Hi h1];rw[this];simp;omega
theorem tN{c:Nat}:∀(p:List Nat) (a:Nat),c∉p->ix c a p=[]
 | [],_,_=>rfl
 |y::p,a,h=>by
  have h1:y≠c:=λ z=>h (by simp[z]);simp only[ix,Hi h1];exact tN p (a+1) λ z=>h (G7 _ z)
theorem Bc{x:Str}{c:Nat}{p r:List Nat}(h:x.cps.toList=p++c::r)(hp:c∉p):occurrences x (one c) 0 x.length 1=[p.length]/\(strSub x 0 p.length).cps.toList=p/\(strSub x (p.length+(one c).length) x.length).cps.toList=r:=by
 have hn:x.cps.toList.length=x.length:=by simp[Str.length]
 refine⟨by rw[mE,h,uh p 0 r hp,Nat.zero_add],by rw[Jv,h];simp,?_⟩;have e1:(one c).length=1:=rfl;rw[Jv,e1,h];have e2:(p++c::r).drop (p.length+1)=r:=by rw[<-JZ];simp
 rw[e2];exact IT (by rw[<-hn,h];simp;omega)
theorem xD{x:Str}{c:Nat}(h:c∉x.cps.toList):occurrences x (one c) 0 x.length 1=[]:=by rw[mE,tN _ 0 h];rfl
theorem eN{c:Nat}:∀(l:List Nat),c∉l->bb c l=[l]
 | [],_=>rfl
 |y::l,h=>by
  have h1:y≠c:=λ z=>h (by simp[z]);unfold bb;rw[Hi h1,eN l λ z=>h (G7 _ z)]
theorem iS{c:Nat}:∀(p r:List Nat),c∉p->bb c (p++c::r)=p::bb c r
 | [],r,_=>by show(if c=c then []::bb c r else _)=_;rw[Hu rfl]
 |y::p,r,h=>by
  have h1:y≠c:=λ z=>h (by simp[z]);have ih:=iS p r λ z=>h (G7 _ z);rw[HR,bb,Hi h1,ih]
end Tx
namespace Tx
open PySem PySem.NumText PyProof.Rows
def fg(m:Nat):List Nat:=(Nat.toDigits 10 m).map Char.toNat
def sg(n:Int):List Nat:=if n<0 then 45::fg n.natAbs else fg n.natAbs
theorem hV(m:Nat):AllDigits (fg m):=by
 intro c hc;obtain⟨ch,hch,e⟩:=Hv.mp hc;have r:=digit_range (Nat.isDigit_of_mem_toDigits (by decide) (by decide) hch);rw[<-e];exact r
theorem mZ(m:Nat):fg m≠ []:=by
 intro e;have h:=toDigits_len_ge 10 m;rw[List.map_eq_nil_iff.mp e]at h;exact absurd h (by decide)
theorem Ay(n:Int):(Str.ofString (toString n)).cps.toList=sg n:=by
 unfold sg;rcases Int.lt_or_le n 0 with h|h
 . rw[Hu h];obtain⟨m,e⟩:=Int.eq_negSucc_of_lt_zero h;subst e;rw[signs_ofString];show("-"++Nat.repr (m+1)).toList.map Char.toNat=_;rw[String.toList_append,Iw,Nat.toList_repr];rfl
 . rw[Hi (by omega)];obtain⟨m,rfl⟩:=Int.eq_ofNat_of_zero_le h;rw[PySem.W.KIN.signs_num];rfl
theorem wy{m k:Nat}(hk:0<k)(h:m<10^k):(fg m).length<=k:=by
 unfold fg;rw[GV];exact(Nat.length_toDigits_le_iff (by decide) hk).mpr h
theorem AS(m:Nat):0<m->∀c l,fg m=c::l->c≠48:=by
 induction m using Nat.strongRecOn with
 |_ m ih=>
  intro hm c l e;by_cases h:m<10
  . unfold fg at e;rw[Nat.toDigits_of_lt_base h]at e;have:∀d:Nat,d<10->0<d->(Nat.digitChar d).toNat≠48:=by decide
    cases e;exact this m h hm
  . have hm':m%10<10:=Nat.mod_lt m (by decide);have t:Nat.toDigits 10 (m/10)++Nat.toDigits 10 (m%10)=Nat.toDigits 10 (10*(m/10)+m%10):=Nat.toDigits_append_toDigits (by decide) (by omega) hm';rw[Nat.div_add_mod]at t;have e2:fg m=fg (m/10)++fg (m%10):=by unfold fg;rw[<-t,Iw]
    cases e3:fg (m/10)with
    |nil=>exact absurd e3 (mZ _)
    |cons d r=>
     rw[e2,e3]at e;injection e with e4 _;subst e4;exact ih (m/10) (by omega) (by omega) _ r e3
theorem AK:fg 0=[48]:=by decide
theorem xX{x:Str}{n:Int}(hx:x.cps.toList=sg n)(hl:x.length<=4300):intText? x=some n:=by
 unfold sg at hx;by_cases h:n<0
 . rw[Hu h]at hx;rw[intText_neg hx (hV _) (mZ _) hl];have:digitsVal (fg n.natAbs)=n.natAbs:=PySem.W.KIN.val_back _;rw[this];congr 1;omega
 . rw[Hi h]at hx;rw[intText_digits (by rw[hx];exact hV _) (by rw[hx];exact mZ _) hl,hx];have:digitsVal (fg n.natAbs)=n.natAbs:=PySem.W.KIN.val_back _;rw[this];congr 1;omega
end Tx
namespace Tx
open PySem PySem.StrLaws PySem.Builtin PySem.Builtin.Str
def gk(goes:Nat->Bool)(L:List Nat):List Nat:=((L.dropWhile goes).reverse.dropWhile goes).reverse
theorem fI(p:Nat->Bool):∀l:List Nat,l.drop (l.takeWhile p).length=l.dropWhile p
 | []=>rfl
 |a::l=>by
  rw[List.takeWhile_cons,Jg];split
  . exact fI p l
  . rfl
theorem sG(goes:Nat->Bool)(x:Str):
 (strSub x (x.cps.toList.takeWhile goes).length (x.length-((x.cps.toList.drop (x.cps.toList.takeWhile goes).length).reverse.takeWhile goes).length)).cps.toList=gk goes x.cps.toList:=by
 have hn:x.cps.toList.length=x.length:=by simp[Str.length]
 rw[Jv,fI];unfold gk
 have e:∀M:List Nat,(M.reverse.dropWhile goes).reverse=M.take (M.length-(M.reverse.takeWhile goes).length):=λ M=>by
  rw[<-fI,List.reverse_drop,Jc,List.length_reverse]
 rw[e]
 have h2:(x.cps.toList.takeWhile goes).length+(x.cps.toList.dropWhile goes).length=x.length:=by
  rw[<-hn,<-GX,II]
 congr 1;omega
theorem dm{c:Nat}{goes:Nat->Bool}(hc:goes c=true)(M:List Nat):∀k,(List.replicate k c++M).dropWhile goes=M.dropWhile goes
 |0=>rfl
 |k+1=>by
  rw[HG,HR,Jg,Hu hc];exact dm hc M k
theorem jb{goes:Nat->Bool}{M:List Nat}(h:∀c l,M=c::l->goes c=false):M.dropWhile goes=M:=by
 cases M with
 |nil=>rfl
 |cons c l=>rw[Jg,Hi (by rw[h c l rfl];exact Hj)]
theorem rD{c:Nat}{goes:Nat->Bool}(hc:goes c=true){M:List Nat}(h1:∀d l,M=d::l->goes d=false)(h2:∀d l,M=l++[d]->goes d=false)(a b:Nat):
 gk goes (List.replicate a c++M++List.replicate b c)=M:=by
 unfold gk;cases M with
 |nil=>
  rw[HL,dm hc];have:=dm hc [] b;rw[HL]at this;rw[this];rfl
 |cons d l=>
  rw[Hn,dm hc,jb (M:=(d::l)++List.replicate b c) (λ e m q=>by cases q;exact h1 d l rfl),List.reverse_append,KG,dm hc]
  rw[jb (M:=(d::l).reverse) (λ e m q=>by
   refine h2 e m.reverse ?_;have:=H0 List.reverse q;rw[Jc,List.reverse_cons]at this;exact this),Jc]
theorem x8(c d:Nat):(one c).cps.contains d=decide (d=c):=by
 show(#[c]:Array Nat).contains d=_;by_cases h:d=c
 . subst h;simp
 . simp[h]
def words(c:Nat)(L:List Nat):List (List Nat):=(bb c L).filter λ p=>decide (p≠ [])
theorem fS{c:Nat}(M:List Nat):∀k,words c (List.replicate k c++M)=words c M
 |0=>rfl
 |k+1=>by
  have ih:=fS (c:=c) M k;unfold words at ih⊢;rw[HG,HR,bb,Hu rfl,Ic,Hi (by simp)];exact ih
theorem uR{c:Nat}{p:List Nat}(hp:c∉p)(hn:p≠ [])(k:Nat)(M:List Nat):words c (p++List.replicate (k+1) c++M)=p::words c M:=by
 have:=fS (c:=c) M k;unfold words at this⊢;rw[HG,Hn,HR,iS p _ hp,Ic,Hu (by simpa using hn),this]
theorem jm{c:Nat}{p:List Nat}(hp:c∉p)(hn:p≠ []):words c p=[p]:=by
 unfold words;rw[eN p hp,Ic,Hu (by simpa using hn)];rfl
theorem il(c k:Nat):words c (List.replicate k c)=[]:=by
 have:=fS (c:=c) [] k;rw[HL]at this;rw[this];rfl
end Tx
namespace Tx
open PySem PySem.NumText
def bare(L:List Nat):List Nat:=if L.head?=some 45 then L.drop 1 else L
theorem nE{n:Int}{c:Nat}(h:c≠45)(h2:c<48\/57<c):c∉sg n:=by
 unfold sg;intro z;have hf:c∈fg n.natAbs->False:=λ y=>by have:=hV n.natAbs c y;omega
 split at z
 . rcases G9.mp z with e|e
   . exact h e
   . exact hf e
 . exact hf z
theorem zg(n:Int):sg n≠ []:=by
 unfold sg;split
 . exact List.cons_ne_nil _ _
 . exact mZ _
theorem i8{n:Int}(h:n.natAbs<10^12):(sg n).length<=13:=by
 have:=wy (m:=n.natAbs) (k:=12) (by decide) h;unfold sg;split<;>simp<;>omega
end Tx
namespace Tx
open PySem
theorem t8{c:Nat}:∀(A B:List Nat),bb c (A++c::B)=bb c A++bb c B
 | [],B=>by show(if c=c then []::bb c B else _)=_;rw[Hu rfl];rfl
 |y::A,B=>by
  have ih:=t8 (c:=c) A B;rw[HR,bb];by_cases h:y=c
  . rw[Hu h,ih,bb,Hu h];rfl
  . rw[Hi h,ih,bb,Hi h];obtain⟨p,r,e⟩:=fY c A;rw[e];rfl
theorem kD{c:Nat}(A B:List Nat):words c (A++c::B)=words c A++words c B:=by
 unfold words;rw[t8,List.filter_append]
theorem l6{c:Nat}(M:List Nat):∀k,words c (M++List.replicate k c)=words c M
 |0=>by rw[List.replicate_zero,HL]
 |k+1=>by rw[HG,kD,il,HL]
theorem dM{c:Nat}(M:List Nat)(a b:Nat):words c (List.replicate a c++M++List.replicate b c)=words c M:=by
 rw[l6,fS]
theorem uN{c:Nat}{acc p:List Nat}{k:Nat}(ha:acc=[]\/∃A,acc=A++[c])(hp:c∉p)(hn:p≠ []):words c (acc++p++List.replicate (k+1) c)=words c acc++[p]:=by
 have h1:words c (p++List.replicate (k+1) c)=[p]:=by rw[l6,jm hp hn]
 rw[Hn];rcases ha with rfl|⟨A,rfl⟩
 . rw[JK,h1];rfl
 . rw[Hn];show words c (A++c::(p++List.replicate (k+1) c))=words c (A++c::[])++[p];rw[kD,kD,h1];show _=(words c A++words c [])++[p];have:words c []=[]:=il c 0;rw[this,HL]
theorem gq{c:Nat}:∀L:List Nat,∃k,L.takeWhile (λ d=>decide (d=c))=List.replicate k c
 | []=>⟨0,rfl⟩
 |y::L=>by
  rw[List.takeWhile_cons];by_cases h:y=c
  . obtain⟨k,e⟩:=gq (c:=c) L;rw[Hu (Hr h),e,h];exact⟨k+1,rfl⟩
  . rw[Hi (by simpa using h)];exact⟨0,rfl⟩
theorem jQ(c:Nat)(L:List Nat):∃a b,L=List.replicate a c++gk (λ d=>decide (d=c)) L++List.replicate b c:=by
 obtain⟨a,ea⟩:=gq (c:=c) L;obtain⟨b,eb⟩:=gq (c:=c) (L.dropWhile λ d=>decide (d=c)).reverse;refine⟨a,b,?_⟩
 have h1:L=List.replicate a c++L.dropWhile λ d=>decide (d=c):=by
  rw[<-ea,II]
 have h2:(L.dropWhile λ d=>decide (d=c))=gk (λ d=>decide (d=c)) L++List.replicate b c:=by
  unfold gk;have h3:=II (p:=λ d=>decide (d=c)) (l:=(L.dropWhile λ d=>decide (d=c)).reverse);rw[eb]at h3;have h4:=H0 List.reverse h3;rw[Jc,List.reverse_append,KG]at h4;exact h4.symm
 rw[Hn,<-h2];exact h1
theorem u5(c:Nat)(L:List Nat):words c (gk (λ d=>decide (d=c)) L)=words c L:=by
 obtain⟨a,b,e⟩:=jQ c L;have:=dM (c:=c) (gk (λ d=>decide (d=c)) L) a b;rw[<-e]at this;exact this.symm
theorem yG{c d:Nat}{L:List Nat}(h:d∈gk (λ d=>decide (d=c)) L):d∈L:=by
 obtain⟨a,b,e⟩:=jQ c L;rw[e];exact JF _ (HM _ h)
def bq(sep:List Nat):List (List Nat)->List Nat
 | []=>[]
 | [p]=>p
 |p::q::r=>p++sep++bq sep (q::r)
theorem mN{c b:Nat}{i j:Nat}(hcb:b≠c):∀(ps:List (List Nat)),ps≠ []->(∀p∈ps,c∉p)->∃qs:List (List Nat),bb c (bq (List.replicate i b++c::List.replicate j b) ps)=qs/\qs.length=ps.length/\
 ∀(n:Nat) (p:List Nat),ps[n]?=some p->∃x y,qs[n]?=some (List.replicate x b++p++List.replicate y b)
 | [],h,_=>absurd rfl h
 | [p],_,hc=>⟨_,rfl,by show(bb c p).length=1;rw[eN p (hc p (by simp))];rfl,λ n q e=>by
    show∃x y,(bb c p)[n]?=_;rw[eN p (hc p (by simp))];cases n with
    |zero=>cases e;exact⟨0,0,by simp⟩
    |succ n=>simp at e⟩
 |p::q::r,_,hc=>by
  have hr:∀k,c∉List.replicate k b:=λ k z=>hcb (H_ z).symm;obtain⟨qs,e1,e2,e3⟩:=mN (i:=i) (j:=j) hcb (q::r) (by simp) λ z hz=>hc z (G7 _ hz)
  have e4:bq (List.replicate i b++c::List.replicate j b) (p::q::r)=(p++List.replicate i b)++c::(List.replicate j b++bq (List.replicate i b++c::List.replicate j b) (q::r)):=by
   show p++(List.replicate i b++c::List.replicate j b)++_=_;simp
  have hp1:c∉p++List.replicate i b:=λ z=>by
   rcases Hz.mp z with z|z
   . exact hc p (by simp) z
   . exact hr i z
  have hb:∀(k:Nat) (M:List Nat),∃h t,bb c M=h::t/\bb c (List.replicate k b++M)=(List.replicate k b++h)::t:=by
   intro k M;obtain⟨h,t,e⟩:=fY c M;refine⟨h,t,e,?_⟩;induction k with
   |zero=>exact e
   |succ k ih=>rw[HG,HR,bb,Hi hcb,ih];rfl
  obtain⟨h,t,e5,e6⟩:=hb j (bq (List.replicate i b++c::List.replicate j b) (q::r));refine⟨_,rfl,?_,λ n w e=>?_⟩
  . rw[e4,iS _ _ hp1,e6];rw[e1]at e5;rw[e5]at e2;simp at e2⊢;omega
  . rw[e4,iS _ _ hp1,e6];rw[e1]at e5;cases n with
    |zero=>cases e;exact⟨0,i,by simp⟩
    |succ n=>
     have e7:(q::r)[n]?=some w:=by simpa using e
     obtain⟨x,y,e8⟩:=e3 n w e7;rw[e5]at e8;cases n with
     |zero=>
      have e9:h=List.replicate x b++w++List.replicate y b:=by simpa using e8
      refine⟨j+x,y,?_⟩;rw[e9];show some (List.replicate j b++(List.replicate x b++w++List.replicate y b))=some (List.replicate (j+x) b++w++List.replicate y b);rw[<-JD,Hn,Hn,Hn]
     |succ n=>exact⟨x,y,by simpa using e8⟩
end Tx
namespace L2
open PySem PySem.Spec PyProof.Rows PySem.W
section
variable {X:Cx}
theorem vR:sA X "str.startswith" (λ x vs H Q=>∃a b,x= .str a/\vs=[.str b]/\Q (.bl (Txt.startswith a b)) H):=by
 intro pins s σ H x xs v us Q I rx rs h;obtain⟨a,b,rfl,rfl,q⟩:=h;obtain⟨t,rfl⟩:=rx;obtain⟨w,rfl,u,rfl⟩:=Vals.one rs;exact SC.startswith ⟨.bl _,H,I,rfl,q⟩
theorem md:sA X "str.strip" (λ x vs H Q=>∃a b,x= .str a/\vs=[.str b]/\a.length<=sizeLine/\Q (.str (Txt.stripChars a b)) H):=by
 intro pins s σ H x xs v us Q I rx rs h;obtain⟨a,b,rfl,rfl,hz,q⟩:=h;obtain⟨t,rfl⟩:=rx;obtain⟨w,rfl,u,rfl⟩:=Vals.one rs;exact SC.stripChars (λ t' k=>⟨.str _,H,I.tok _,⟨_,rfl⟩,q⟩) hz
theorem pd:∀l:List (Str×Tok),Vals ((l.map (·.1)).map V.str) (strValues l)
 | []=> .nil
 |p::l=> .cons ⟨p.2,rfl⟩ (pd l)
theorem uw{prog:Program}{w:World}{A:Around}{E:Value->Shared->Prop}{s:Shared}{x y:Str}{t u:Tok}{Q:Value->Shared->Prop}(hy:(y.length==0)=false)
 (hq:∀(l:List (Str×Tok)) (k:Nat),l.map (·.1)=Txt.split x y->Q (.ref s.heap.objs.size) {s with toks:=k,heap:=s.heap.push {cls:= .type "list",data:= .seq (strValues l).toArray}})
 (hsz:x.length<=sizeLine) (hsz2:(Builtin.Str.partsBetween x (Builtin.Str.occurrences x y 0 x.length (x.length+1)) y.length).length<=sizeLine):
 wpAny (model prog w) A (call (.builtin "str.split") [.str x t,.str y u]) Q E s:=by
 cases h1:(decide (x.length<y.length)||decide (PySem.Builtin.Str.strKind x<PySem.Builtin.Str.strKind y))
 . cases hf:(Builtin.Str.occurrences x y 0 x.length (x.length+1)).isEmpty
   . refine Ir Ks (Jk _ _ _) Kf (J5 _ _) (meets_str_split_sep x y t u h1 hy hf hsz hsz2) ?_;show wants Q E _ {s with toks:=_,heap:=s.heap.push {cls:= .type "list",data:= .seq (strsFrom s.toks (Builtin.Str.partsBetween x (Builtin.Str.occurrences x y 0 x.length (x.length+1)) y.length)).toArray}};rw[strsFrom_eq];exact hq (numbered s.toks _) _ ((numbered_texts _ _).trans ((Hi (JV h1)).trans (Hi (JV hf))).symm)
   . exact Ir Ks (Jk _ _ _) Kf (J5 _ _) (meets_str_split_not_found x y t u h1 hy hf)
      (hq [(x,t)] s.toks ((Hi (JV h1)).trans (Hu hf)).symm)
 . exact Ir Ks (Jk _ _ _) Kf (J5 _ _) (meets_str_split_cannot_occur x y t u h1)
    (hq [(x,t)] s.toks (Hu h1).symm)
theorem jP:sA X "str.split" (λ x vs H Q=>∃a b,x= .str a/\vs=[.str b]/\(b.length==0)=false/\a.length<=sizeLine/\(Builtin.Str.partsBetween a (Builtin.Str.occurrences a b 0 a.length (a.length+1)) b.length).length<=sizeLine/\(Txt.split a b).length<=sizeLine/\∀l,H l=none->Q (.ref l) (upd H l (.lst ((Txt.split a b).map V.str)))):=by
 intro pins s σ H x xs v us Q I rx rs h;obtain⟨a,b,rfl,rfl,hb,hz,hz2,hz3,q⟩:=h;obtain⟨t,rfl⟩:=rx;obtain⟨w,rfl,u,rfl⟩:=Vals.one rs;refine uw hb (λ l k e=>?_) hz hz2;have hv:=pd l;rw[e]at hv;refine⟨.ref s.heap.objs.size,_,I.laid (t':=k) (λ b o e=>GY _ e) (G8 _) (show bL X.prog X.w _ _ _ (.lst ((Txt.split a b).map V.str))from⟨by rw[GV];exact hz3,_,_,hv,Hq _ rfl⟩),rfl,q _ (I.aF.fresh (G8 _))⟩
theorem uj:sA X "str.partition" (λ x vs H Q=>∃a b,x= .str a/\vs=[.str b]/\(b.length==0)=false/\a.length<=sizeLine/\∀l,H l=none->Q (.ref l) (upd H l (.tup [.str (Txt.partition a b).1,.str (Txt.partition a b).2.1,.str (Txt.partition a b).2.2]))):=by
 intro pins s σ H x xs v us Q I rx rs h;obtain⟨a,b,rfl,rfl,hb,hz,q⟩:=h;obtain⟨t,rfl⟩:=rx;obtain⟨w,rfl,u,rfl⟩:=Vals.one rs
 have fin:∀(x1 x2 x3:Str) (ta tb tc k:Nat),(x1,x2,x3)=Txt.partition a b->EP X pins σ Q (.ref s.heap.objs.size) {s with toks:=k,heap:=s.heap.push {cls:= .type "tuple",data:= .seq [.str x1 ta,.str x2 tb,.str x3 tc].toArray}}:=λ x1 x2 x3 ta tb tc k e=>by
  have q':=q;rw[<-e]at q';exact⟨.ref s.heap.objs.size,_,I.laid (t':=k) (λ b o e=>GY _ e) (G8 _) (show bL X.prog X.w _ _ _ (.tup [.str x1,.str x2,.str x3])from⟨by show 3<=sizeLine;rw[Ky];decide,_,.cons ⟨_,rfl⟩ (.cons ⟨_,rfl⟩ (.cons ⟨_,rfl⟩ .nil)),IsTup.new _ _⟩),rfl,q' _ (I.aF.fresh (G8 _))⟩
 refine Ir F.slot_str_partition (Jk _ _ _) F.entry_str_partition (F.args_str_partition_2 _ _) (meets_str_partition a b t u hb hz) ?_;unfold Txt.partition at fin;revert fin;cases Builtin.Str.occurrences a b 0 a.length 1 with
 |nil=>intro fin;exact fin _ _ _ _ _ _ _ rfl
 |cons i r=>intro fin;exact fin _ _ _ _ _ _ _ rfl
theorem tS:∀ {l:List Str} {us:List Value},Vals (l.map V.str) us->∃p:List (Str×Tok),us=strValues p/\p.map (·.1)=l
 | [],_,.nil=>⟨[],rfl,rfl⟩
 |x::l,_,.cons h t=>by
  obtain⟨k,rfl⟩:=h;obtain⟨p,rfl,e⟩:=tS t;exact⟨(x,k)::p,rfl,by rw[Hy,e]⟩
theorem kU:sA X "str.join" (λ x vs H Q=>∃a l ts,x= .str a/\vs=[.ref l]/\fz X.K H l (ts.map V.str)/\JoinOk a ts=true/\Q (.str (Txt.join a ts)) H):=by
 intro pins s σ H x xs v us Q I rx rs h;obtain⟨a,l,ts,rfl,rfl,hl,hz,q⟩:=h;obtain⟨t,rfl⟩:=rx;obtain⟨w,rfl,rfl⟩:=Vals.one rs;obtain⟨its,r',pl,_⟩:=I.list hl;obtain⟨p,rfl,e⟩:=tS r';exact SC.join pl.isList e hz λ t' k=>⟨.str _,H,I.tok _,⟨_,rfl⟩,q⟩
theorem pN:aN X (.type "int") (λ xs H Q=>∃a n,xs=[.str a]/\PySem.intText? a=some n/\a.length<=640/\Q (.int n) H):=by
 intro pins s σ H xs us Q I rs h;obtain⟨a,n,rfl,h1,h2,q⟩:=h;obtain⟨u,rfl,t,rfl⟩:=vals1 rs;exact KIN.call_text h1 h2 ⟨.int n,H,I.tok _,⟨_,rfl⟩,q⟩
theorem vo:aQ X (binaryOp .Mult) (λ x y H Q=>∃a n,x= .str a/\y= .int n/\MulOk a n/\Q (.str (Txt.mul a n)) H):=by
 intro pins s σ H x y v u Q I rx ry h;obtain⟨a,n,rfl,rfl,hz,q⟩:=h;obtain⟨t,rfl⟩:=rx;obtain⟨t2,rfl⟩:=ry;exact SB.mul hz λ t' k=>⟨.str _,H,I.tok _,⟨_,rfl⟩,q⟩
end
end L2
namespace L3
open PySem L2
open PySem.Spec hiding items?
open PyProof.Rows hiding St
abbrev tx(L:List Nat):D:= .str ⟨L.toArray⟩
abbrev jS:=Str->D->af->DK->Prop
@[irreducible] def dr(r:jS)(to te:DE):DE:=λ σ st K=>to σ st λ x st1=>match x with
 | .str s=>te σ st1 λ y st2=>r s y st2 K
 |_=>False
def jh(K:PySem.W.Frag)(r:jS)(rM:V->List V->Hp->VK->Prop):Prop:=∀(α:List (Option Addr)) (G F H:Hp) (st:af) (K:DK) (Q:VK) (s:Str) (y:D) (w:V),a8 G F H->aB α st G->Rep α G y w->r s y st K->LK α G F K Q->rM (.str s) [w] H Q
section
variable {X:Cx}
theorem LE.tm{r:jS}{rM:V->List V->Hp->VK->Prop}(L:jh X.K r rM){to te:DE}{σ:L2.St}{H:Hp}{Q:VK}(h:LE (dr r to te) σ H Q):Ca X.K "str" rM (LE to) (LA (aa te ag)) σ H Q:=by
 obtain⟨α,σd,st,K,G,F,P,R,S,t,k⟩:=h;unfold dr at t;refine⟨α,σd,st,_,G,F,P,R,S,t,λ x st1 q α1 G1 H1 v s1 P1 S1 r1=>?_⟩;cases x<;>try exact q.elim
 rename_i s;simp only at q;unfold Rep at r1;subst r1;refine⟨rfl,α1,σd,st1,(λ ds st2=>match ds with| [y]=>r s y st2 K|_=>False),G1,F,P1,R.step s1,S1,q,?_⟩;intro ds st2 q2 α2 G2 H2 ws s2 P2 S2 r2;split at q2
 . obtain⟨w,rfl,rw'⟩:=da r2 rfl;exact L α2 G2 F H2 st2 K Q s _ w P2 S2 rw' q2 ((k.at s1).at s2)
 . exact q2.elim
theorem fh{r:jS}{rM:V->List V->Hp->VK->Prop}{name:Str}{id:String}{o e:Expr}{to te:DE}{apos cpos:Pos}(L:jh X.K r rM)(slot:Slot "str" name id)(hty:typeOf (.builtin id)=pure (.type "method_descriptor"))(hm:sA X id rM)(ho:JE X o to)(he:JE X e te)(hbase:attributeBase o name X.env (eval o X.env)=eval o X.env:=by rfl)(hline:(apos.endLine==cpos.line)=true:=by rfl)(hs:notStar e=true:=by rfl):JE X (.Call (.Attribute o name apos) [e] [] cpos) (dr r to te):=by
 unfold JE at*;refine PE.imp (zH PySem.F.plainAttrs_str slot hty hm ho (oj he rF (bB hs)) hbase ?_ hline (bB hs) rfl) λ _ _ _ h=>LE.tm L h;rw[bB hs];rfl
def kR:jS:=λ s y st K=>match y with| .str z=>K (.bl (Txt.startswith s z)) st|_=>False
theorem sV:jh X.K kR (λ x vs H Q=>∃a b,x= .str a/\vs=[.str b]/\Q (.bl (Txt.startswith a b)) H):=by
 intro α G F H st K Q s y w P S r q k;unfold kR at q;split at q
 . unfold Rep at r;subst r;exact⟨_,_,rfl,rfl,k.here P q S (by unfold Rep;rfl)⟩
 . exact q.elim
def gd:jS:=λ s y st K=>match y with| .str z=>s.length<=sizeLine/\K (.str (Txt.stripChars s z)) st|_=>False
theorem jO:jh X.K gd (λ x vs H Q=>∃a b,x= .str a/\vs=[.str b]/\a.length<=sizeLine/\Q (.str (Txt.stripChars a b)) H):=by
 intro α G F H st K Q s y w P S r q k;unfold gd at q;split at q
 . unfold Rep at r;subst r;exact⟨_,_,rfl,rfl,q.1,k.here P q.2 S (by unfold Rep;rfl)⟩
 . exact q.elim
theorem hZ{α:List (Option Addr)}{H:Hp}:∀l:List Str,ao α H (l.map D.str) (l.map V.str)
 | []=>by unfold ao;rfl
 |x::l=>by
  rw[Hy];unfold ao;exact⟨.str x,l.map V.str,rfl,by unfold Rep;rfl,hZ l⟩
def f_:jS:=λ s y st K=>match y with| .str z=>((z.length==0)=false/\s.length<=sizeLine/\(Builtin.Str.partsBetween s (Builtin.Str.occurrences s z 0 s.length (s.length+1)) z.length).length<=sizeLine/\(Txt.split s z).length<=sizeLine)/\K (.lst ((Txt.split s z).map D.str)) st|_=>False
theorem gz:jh X.K f_ (λ x vs H Q=>∃a b,x= .str a/\vs=[.str b]/\(b.length==0)=false/\a.length<=sizeLine/\(Builtin.Str.partsBetween a (Builtin.Str.occurrences a b 0 a.length (a.length+1)) b.length).length<=sizeLine/\(Txt.split a b).length<=sizeLine/\∀l,H l=none->Q (.ref l) (upd H l (.lst ((Txt.split a b).map V.str)))):=by
 intro α G F H st K Q s y w P S r q k;unfold f_ at q;split at q
 . unfold Rep at r;subst r;exact⟨_,_,rfl,rfl,q.1.1,q.1.2.1,q.1.2.2.1,q.1.2.2.2,λ p hp=>k.lst P q.2 S (hZ _) hp⟩
 . exact q.elim
def kY:jS:=λ s y st K=>match y with| .str z=>((z.length==0)=false/\s.length<=sizeLine)/\K (.tup [.str (Txt.partition s z).1,.str (Txt.partition s z).2.1,.str (Txt.partition s z).2.2]) st|_=>False
theorem oW:jh X.K kY (λ x vs H Q=>∃a b,x= .str a/\vs=[.str b]/\(b.length==0)=false/\a.length<=sizeLine/\∀l,H l=none->Q (.ref l) (upd H l (.tup [.str (Txt.partition a b).1,.str (Txt.partition a b).2.1,.str (Txt.partition a b).2.2]))):=by
 intro α G F H st K Q s y w P S r q k;unfold kY at q;split at q
 . unfold Rep at r;subst r;exact⟨_,_,rfl,rfl,q.1.1,q.1.2,λ p hp=>k.tup P q.2 S (hZ [_,_,_]) hp⟩
 . exact q.elim
def strs?:List D->Option (List Str)
 | []=>some []
 | .str x::ds=>(strs? ds).map (x:: ·)
 |_::_=>none
theorem j9{α:List (Option Addr)}{H:Hp}:∀ {ds:List D} {vs:List V} {l:List Str},ao α H ds vs->strs? ds=some l->vs=l.map V.str
 | [],vs,l,r,e=>by
   unfold ao at r;cases e;exact r
 |d::ds,vs,l,r,e=>by
  unfold ao at r;obtain⟨v,vs,rfl,r1,r2⟩:=r;cases d<;>try(cases e;done)
  unfold strs? at e;obtain⟨l',e',rfl⟩:=HN.mp e;unfold Rep at r1;rw[r1,j9 r2 e'];rfl
def rJoin:jS:=λ s y st K=>match pf y,items? st y with
 | .l,some xs=>(match strs? xs with|some l=>JoinOk s l=true/\K (.str (Txt.join s l)) st|none=>False)
 |_,_=>False
theorem g9:jh X.K rJoin (λ x vs H Q=>∃a l ts,x= .str a/\vs=[.ref l]/\fz X.K H l (ts.map V.str)/\JoinOk a ts=true/\Q (.str (Txt.join a ts)) H):=by
 intro α G F H st K Q s y w P S r q k;unfold rJoin at q;split at q
 . rename_i xs ek ei;split at q
   . rename_i l el;obtain⟨p,vs,rfl,h1,h2⟩:=jc S r ei;rw[ek]at h2;have h3:=h9 (K:=X.K) P h2;rw[j9 h1 el]at h3;exact⟨_,p,l,rfl,rfl,h3,q.1,k.here P q.2 S (by unfold Rep;rfl)⟩
   . exact q.elim
 . exact q.elim
def nI:b9:=λ ds st K=>match ds with| [.str a]=>(match PySem.intText? a with|some n=>a.length<=640/\K (.int n) st|none=>False)|_=>False
theorem CY:aN X (.type "int") (cJ nI):=aN.imp pN λ xs H Q ⟨α,ds,st,K,G,F',P,r,S,q,k⟩=>by
 unfold nI at q;split at q
 . split at q
   . rename_i n en;obtain⟨v,rfl,r1⟩:=da r rfl;unfold Rep at r1;subst r1;exact⟨_,n,rfl,en,q.1,k.here P q.2 S (by unfold Rep;rfl)⟩
   . exact q.elim
 . exact q.elim
@[irreducible] def nN:b9:=nI
theorem CF:aN X (.type "int") (cJ nN):=by unfold nN;exact CY
def xr:bx:=λ x y st K=>match x,y with| .str a,.int n=>MulOk a n/\K (.str (Txt.mul a n)) st|_,_=>False
theorem C5:aQ X (binaryOp .Mult) (LR xr):=λ pins s σ H x y v u Q I rx ry ⟨α,d,e,st,K,G,F',P,r1,r2,S,q,k⟩=>by
 cases d<;>cases e<;>try exact q.elim
 unfold Rep at r1 r2;exact vo pins s σ H x y v u Q I rx ry ⟨_,_,r1,r2,q.1,k.here P q.2 S (by unfold Rep;rfl)⟩
@[irreducible] def eC:bx:=xr
theorem iR:aQ X (binaryOp .Mult) (LR eC):=by unfold eC;exact C5
def BH:bx:=λ x y st K=>match x,y with| .str a,.str b=>K (.bl (!(Builtin.Str.occurrences b a 0 b.length 1).isEmpty)) st|_,_=>False
theorem EC:aQ X (compareOp .In) (LR BH):=λ pins s σ H x y v u Q I rx ry ⟨α,d,e,st,K,G,F',P,r1,r2,S,q,k⟩=>by
 cases d<;>cases e<;>try exact q.elim
 unfold Rep at r1 r2;exact v_ pins s σ H x y v u Q I rx ry ⟨_,_,r1,r2,k.here P q S (by unfold Rep;rfl)⟩
@[irreducible] def nX:bx:=BH
theorem ET:aQ X (compareOp .In) (LR nX):=by unfold nX;exact EC
end
end L3
namespace L2
open PySem PySem.Spec PyProof.Rows PySem.W
def Fy(x:Str):It:=⟨λ i _=>i<x.cps.size,λ i H v H'=>H'=H/\∃c,x.cps[i]?=some c/\v= .str ⟨#[c]⟩,λ i _=>x.cps.size<=i⟩
theorem xZ{P:Program}{w:World}{K:PySem.W.Frag}{tg:Expr}(x:Str)(t:Tok)(it:Addr):Turn P w K tg (Fy x) [it] it (λ i h=>h.IsStrIter it "str_ascii_iterator" x t i) where
 mem:=by simp
 obj:=λ i h st b hb=>by
  have e:b=it:=by simpa using hb
  subst e;obtain⟨o,e,c,d⟩:=st;exact⟨o,e,λ v z=>by rw[d]at z;cases z⟩
 keep:=λ i h h' st k=>by
  obtain⟨o,e,r⟩:=st;exact⟨o,k it (by simp) o e,r⟩
 item:=by
  intro X hP hw hK hc i pins s σ H E I hf st hg;subst hP hw hK;obtain⟨f0,f1,f2,f3,f4,f5⟩:=hf it (by simp);have hx:x.cps[i]?=some x.cps[i]:=Array.getElem?_eq_getElem hg;refine wpAny_pyNext_ascii_item st hx λ h' st' sb=>?_;have I1:Inv X pins σ H {s with heap:=h',toks:=s.toks+1}:=I.turned (t':=s.toks+1) (λ b o hb e=>(sb.2 b hb).trans e) f0 f1 f3 f4 f5;obtain⟨o,e,c,d⟩:=id st';exact⟨_,rfl,pS (s:={s with heap:=h',toks:=s.toks+1}) e c d (by decide) ⟨.str ⟨#[x.cps[i]]⟩,H,I1,⟨_,rfl⟩,⟨rfl,_,hx,rfl⟩,st',λ b hb=>(hf b hb).1⟩⟩
 done:=by
  intro X hP hw hK hc i pins s σ H E I hf st hg;subst hP hw hK;obtain⟨f0,f1,f2,f3,f4,f5⟩:=hf it (by simp);exact wpAny_pyNext_ascii_end (I.ok.hd hc) st (Array.getElem?_eq_none hg) λ h' eb=>⟨rfl,I.turned (t':=s.toks) (λ b o hb e=>eb b o hb e) f0 f1 f3 f4 f5⟩
 self:=λ _ _ _ _ _ st h=>wpAny_pyIter_striter_ascii st h
end L2
namespace L3
open PySem L2
open PySem.Spec hiding items?
open PyProof.Rows hiding St
def vk(d:D)(st1:af)(K:List D->(af->Prop)->af->Prop):Prop:=match d with
 | .str x=>x.cps.all (· <128)=true/\K (x.cps.toList.map λ c=>D.str ⟨#[c]⟩) (λ _=>True) st1
 |_=>False
@[irreducible] def mT:D->af->(List D->(af->Prop)->af->Prop)->Prop:=vk
def sv(t:DE):DI:=λ σ st K=>t σ st λ d st1=>mT d st1 K
theorem BM{x:Str}{α:List (Option Addr)}{G:Hp}{ok:af->Prop}:mH (Fy x) α G ok (x.cps.toList.map λ c=>D.str ⟨#[c]⟩) where
 stop:=λ n α' G' F' H' st' s P S o hn=>by
  rw[GV,Jf]at hn;exact hn
 go:=λ n d α' G' F' H' st' s P S o hn=>by
  have:=(GW.mp hn).1;rw[GV,Jf]at this;exact this
 ia:=λ n d α' G' F' H' st' y H'' s P S o hn q=>by
  obtain⟨rfl,c,hc,rfl⟩:=q;rw[Hb,Array.getElem?_toList,hc]at hn;cases hn;exact⟨G',Step.refl,P,S,by unfold Rep;rfl⟩
theorem Dv{X:Cx}{l tg:Expr}{tl:DE}(hl:JE X l tl):JI X tg l (sv tl):=by
 unfold JI;unfold JE at hl;intro pins s σ H R I h;obtain⟨α,σd,st,K,G,F,P,RS,S,t,k⟩:=h;refine a6 (hl pins s σ H (λ x H1=>∃d α1 G1 st1,Step α G α1 G1/\a8 G1 F H1/\aB α1 st1 G1/\Rep α1 G1 d x/\mT d st1 K) I ⟨α,σd,st,_,G,F,P,RS,S,t,λ d st1 q α1 G1 H1 v s1 P1 S1 r1=>⟨d,α1,G1,st1,s1,P1,S1,r1,q⟩⟩) λ v s1 ⟨x,H1,I1,rx,d,α1,G1,st1,s1',P1,S1,r1,q⟩=>?_;unfold mT vk at q;split at q
 . rename_i z;unfold Rep at r1;subst r1;obtain⟨t',rfl⟩:=rx;refine wpAny_pyIter_ascii q.1 ?_;refine⟨s1.heap.objs.size,[s1.heap.objs.size],_,_,H1,rfl,I1.kept (t':=s1.toks) λ b o e=>GY _ e,xZ z t' _,⟨_,Hq _ rfl,rfl,rfl⟩,λ b hb=>?_,k _ _ st1 q.2 _ α1 G1 H1 s1' P1 S1 BM⟩;have e:b=s1.heap.objs.size:=by simpa using hb
   subst e;exact I1.kh (G8 _) (I1.aF.fresh (G8 _))
 . exact q.elim
def qi:bx:=λ x y st K=>match x,y with| .str a,.int i=>(match cR a.cps.toList i with|some c=>a.length<=sizeLine/\K (.str ⟨#[c]⟩) st|none=>False)|_,_=>False
theorem Ej{X:Cx}:oP X (LR qi):=by
 intro value slice pins s σ H x y v u Q I rx ry ⟨α,d,e,st,K,G,F',P,r1,r2,S,q,k⟩ hs;unfold qi at q;split at q
 . split at q
   . rename_i c hc;unfold Rep at r1 r2;subst r1 r2;exact CH value slice pins s σ H _ _ v u Q I rx ry ⟨_,_,c,rfl,rfl,q.1,hc,k.here P q.2 S (by unfold Rep;rfl)⟩ hs
   . exact q.elim
 . exact q.elim
@[irreducible] def oJ:bx:=qi
theorem E8{X:Cx}{a b:Expr}{ta tb:DE}{pos:Pos}(ha:JE X a ta)(hb:JE X b tb)(hs:gC b:=by intro _ _;rfl):JE X (.Subscript a b pos) (aj oJ ta tb):=by
 unfold JE at*;unfold oJ;exact PE.imp (uQ Ej ha hb hs) λ _ _ _ h=>LE.op h
end L3
namespace L2
open PySem PySem.Spec PyProof.Rows PySem.W
theorem uy(x:Str){i:Nat}(h:i<=x.length):(Txt.slice x (some (i:Int)) none).cps.toList=x.cps.toList.drop i:=by
 have e:Builtin.Str.strSliceIndices (some (i:Int)) none 1 x.length=Builtin.Str.strSliceIndices (some (i:Int)) (some (x.length:Int)) 1 x.length:=by
  have h2:¬((x.length:Int)<0):=by omega
  simp only[Builtin.Str.strSliceIndices,sliceRange,h2,if_false];simp
 have h1:=StrLaws.sliced_plain x h (G8 _);have hl:x.cps.toList.length=x.length:=by simp[Str.length]
 have h3:(x.cps.toList.drop i).take (x.length-i)=x.cps.toList.drop i:=IT (by rw[List.length_drop];omega);unfold Txt.slice;rw[e];split
 . rename_i hc
   have:i=0\/x.length=0:=by
    rw[StrLaws.strSliceIndices_plain h (G8 _)]at hc;simp at hc;omega
   rcases this with rfl|z
   . simp
   . have:x.cps.toList=[]:=List.eq_nil_of_length_eq_zero (by omega);rw[this];simp
 . show(Builtin.Str.strSliceIndices _ _ _ _).filterMap _=_;rw[h1,h3]
theorem A5{X:Cx}:CA X (λ x lo hi H Q=>∃z i,x= .str z/\lo=some ((i:Nat):Int)/\hi=none/\i<=z.length/\z.length<=sizeLine/\Q (.str ⟨(z.cps.toList.drop i).toArray⟩) H):=by
 intro pins s σ H x v vl vu lo hi sl Q I rx hs pl pu h;obtain⟨z,i,rfl,rfl,rfl,hi,hz,q⟩:=h;obtain⟨t,rfl⟩:=rx;cases pl;cases pu;rename_i ti;refine⟨"str",_,F.slot_str_getitem.lookup,Jk _ _ _,wpAny_getItem_str_slice (l:=some ((i:Int),ti)) (u:=none) (st:=none) hs rfl (post_val_or_str ⟨HX (Txt.slice_le z _ _) hz,λ t' k=>?_⟩)⟩
 have e:Txt.slice z (some (i:Int)) none=⟨(z.cps.toList.drop i).toArray⟩:=by
  have:=uy z hi;cases h:Txt.slice z (some (i:Int)) none with
  |mk a=>rw[h]at this;rw[<-this]
 have q':=q;rw[<-e]at q';exact⟨.str _,H,I.tok _,⟨_,rfl⟩,q'⟩
end L2
namespace L3
open PySem L2
open PySem.Spec hiding items?
open PyProof.Rows hiding St
def n4(d:D)(lo hi:Option Int)(st:af)(K:DK):Prop:=match d,lo,hi with
 | .str z,some (.ofNat i),none=>(i<=z.length/\z.length<=sizeLine)/\K (.str ⟨(z.cps.toList.drop i).toArray⟩) st
 |_,_,_=>False
@[irreducible] def iZ:D->Option Int->Option Int->af->DK->Prop:=n4
def uo(t:DE)(lo hi:DO):DE:=λ σ st K=>t σ st λ d st1=>lo σ st1 λ l st2=>hi σ st2 λ u st3=>iZ d l u st3 K
def FV(x:V)(lo hi:Option Int)(H:Hp)(Q:VK):Prop:=∃α d st K G F,a8 G F H/\Rep α G d x/\aB α st G/\iZ d lo hi st K/\LK α G F K Q
section
variable {X:Cx}
theorem A0:CA X FV:=by
 intro pins s σ H x v vl vu lo hi sl Q I rx hs pl pu ⟨α,d,st,K,G,F',P,r1,S,q,k⟩;unfold iZ n4 at q;split at q
 . rename_i z i;unfold Rep at r1;exact A5 pins s σ H x v vl vu _ _ sl Q I rx hs pl pu ⟨z,i,r1,rfl,rfl,q.1.1,q.1.2,k.here P q.2 S (by unfold Rep;rfl)⟩
 . exact q.elim
theorem yX{e:Expr}{lo hi:Option Expr}{te:DE}{tl th:DO}{p2 pos:Pos}(he:JE X e te)(hl:JO X lo tl)(hh:JO X hi th):JE X (.Subscript e (.Slice lo hi none p2) pos) (uo te tl th):=by
 unfold JE at*;unfold JO at*
 exact PE.imp (yp A0 he hl hh) λ σ H Q ⟨α,σd,st,K,G,F,P,R,S,t,k⟩=>by
  refine⟨α,σd,st,_,G,F,P,R,S,t,λ d st1 q α1 G1 H1 v s1 P1 S1 r1=>?_⟩;refine⟨α1,σd,st1,_,G1,F,P1,R.step s1,S1,q,λ l st2 q2 α2 G2 H2 s2 P2 S2=>?_⟩;refine⟨α2,σd,st2,_,G2,F,P2,(R.step s1).step s2,S2,q2,λ u st3 q3 α3 G3 H3 s3 P3 S3=>?_⟩;exact⟨α3,d,st3,K,G3,F,P3,(r1.step s2).step s3,S3,q3,((k.at s1).at s2).at s3⟩
theorem Dw{x:Str}{i:Str}{t:Tok}{pos:Pos}(hg:Gl X x)(hm:X.mg x=some (.str i t))(hd:(x==("__debug__":Str))=false:=by decide):JE X (.Name x pos) (dC (.str i)):=by
 unfold JE;exact gD (λ _ _ _ H _ I h=>jf I hg hm ⟨.str i,H,I,⟨_,rfl⟩,h⟩ hd) λ _ _=>by unfold Rep;rfl
theorem e_{x:Str}{a:Addr}{pos:Pos}(hg:Gl X x)(hm:X.mg x=some (.ref a))(hd:(x==("__debug__":Str))=false:=by decide):JE X (.Name x pos) (dC (.fx a)):=by
 unfold JE;exact gD (λ _ _ _ H _ I h=>jf I hg hm ⟨.ref a,H,I,rfl,h⟩ hd) λ _ _=>by unfold Rep;rfl
def wJ(iv:Nat)(ok:Addr->Prop)(S:Addr->bC)(t:DA):DE:=λ σ st K=>∃f,σ[iv]?=some (some (.fx f))/\ok f/\ax (S f) t σ st K
theorem Bj{iv:Nat}{x:Str}{ok:Addr->Prop}{S:Addr->bC}{p pos:Pos}{e:Expr}{es:List Expr}{t:DA}(hF:∀f,ok f->∃k fd ps,cK X.prog X.w X.K X.mg X.base fA k f fd ps (hX (S f))/\bW k X.A/\PySem.W.keepIn X.K (.ref f)=true/\Binds X.K fd ps [])
 (hv:X.N[iv]?=some x) (lv:qA X.env.scope x) (ha:JA X (e::es) t) (hdb:(x==("__debug__":Str))=false:=by decide) (hcd:(x==("__classdict__":Str))=false:=by decide) (he:notStar e=true:=by rfl) (hpl:(backTo pos (starEach es X.env)).any (·.1)=false:=by rfl):
 JE X (.Call (.Name x p) (e::es) [] pos) (wJ iv ok S t):=by
 unfold JE;unfold JA at ha;intro pins s σ H Q I ⟨α,σd,st,K,G,F,P,R,S0,⟨f,hσ,hf,h⟩,k⟩;obtain⟨v,ev,rv⟩:=R.at' iv _ hσ;unfold Rep at rv;subst rv;obtain⟨kk,fd,ps,Fn,hr,hk,hb⟩:=hF f hf;have h:=LE.call (S:=S f) (t:=t) ⟨α,σd,st,K,G,F,P,R,S0,h,k⟩;refine IJ (a6 (wC (pos:=p) hv lv hdb hcd pins s σ H (λ v H'=>v= .ref f/\H'=H) I ⟨_,ev,rfl,rfl⟩) λ u s0 ⟨v,H',I',r,hv',hH⟩=>?_);subst hv' hH;cases r;refine PySem.W.callWith_K (h₀:=X.base) I'.ok.mod.zB hk (a6 (ha pos pins s0 σ _ _ I' h) λ us s1 ⟨vs,H1,I1,r,q⟩=>⟨I1.er,?_⟩) (bB he) hpl;exact sE Fn hr hb .nil u7 I1 r q
end
end L3
namespace L2
open PySem PySem.Spec PyProof.Rows PySem.W
def fu(P:Program)(w:World)(K:PySem.W.Frag)(a:Addr)(kvs:List (Str×Value)):Prop:=(a==sysModules)=false/\∃o,K.lookup a=some o/\o.IsDictOf (PySem.strKind P w) kvs
theorem t7{P:Program}{w:World}{K:PySem.W.Frag}{a:Addr}{n:Nat}{l:List (Str×Nat×Value)}(hk:K.lookup a=some (Hd.no w.params n l))(ha:(a==sysModules)=false)(nd:(l.map (·.1)).Nodup):fu P w K a (l.map λ e=>(e.1,e.2.2)):=by
 refine⟨ha,_,hk,(l.map λ e=>(⟨PyData.keyHash w.params e.1,.str e.1 e.2.1,e.2.2⟩:DictEntry)).toArray,n,⟨rfl,rfl,rfl⟩,rfl,?_,?_,by rw[HC];exact nd⟩
 . intro e he;rw[List.mem_toArray]at he;obtain⟨q,hq,rfl⟩:=Hv.mp he;exact⟨q.1,Kl P w q.1 q.2.1,rfl⟩
 . rw[show((l.map λ e=>(⟨PyData.keyHash w.params e.1,.str e.1 e.2.1,e.2.2⟩:DictEntry)).toArray).toList=l.map λ e=>(⟨PyData.keyHash w.params e.1,.str e.1 e.2.1,e.2.2⟩:DictEntry)from rfl];clear nd hk;induction l with
   |nil=>exact .nil
   |cons e l ih=>exact .cons (Kl P w e.1 e.2.1) rfl ih
section
variable {X:Cx}
theorem fu.at{pins:List (Addr×Obj)}{σ:St}{H:Hp}{s:Shared}{a:Addr}{kvs:List (Str×Value)}(I:Inv X pins σ H s)(h:fu X.prog X.w X.K a kvs):s.heap.DictOf (PySem.strKind X.prog X.w) a kvs:=by
 obtain⟨_,o,hk,hd⟩:=h;exact Heap.dictOf_iff.mpr ⟨o,I.er a o hk,hd⟩
theorem vQ{kv:Addr->Option (List (Str×Value))}(hkv:∀a kvs,kv a=some kvs->fu X.prog X.w X.K a kvs):aQ X (compareOp .In) (λ x y H Q=>∃z a kvs,x= .str z/\y= .ref a/\kv a=some kvs/\Q (.bl (valueAt kvs z).isSome) H):=by
 intro pins s σ H x y v u Q I rx ry h;obtain⟨z,a,kvs,rfl,rfl,hk,q⟩:=h;obtain⟨t,rfl⟩:=rx;cases ry;have hd:=hkv a kvs hk;exact wpAny_in_of (Kl X.prog X.w z t) hd.1 (hd.at I).mapOf ⟨.bl _,H,I.tok _,rfl,q⟩
theorem sh{kv:Addr->Option (List (Str×Value))}(hkv:∀a kvs,kv a=some kvs->fu X.prog X.w X.K a kvs):aQ X (compareOp .NotIn) (λ x y H Q=>∃z a kvs,x= .str z/\y= .ref a/\kv a=some kvs/\Q (.bl (!(valueAt kvs z).isSome)) H):=by
 intro pins s σ H x y v u Q I rx ry h;obtain⟨z,a,kvs,rfl,rfl,hk,q⟩:=h;obtain⟨t,rfl⟩:=rx;cases ry;have hd:=hkv a kvs hk;exact wpAny_notIn_of (Kl X.prog X.w z t) hd.1 (hd.at I).mapOf ⟨.bl _,H,I.tok _,rfl,q⟩
theorem BK{kv:Addr->Option (List (Str×Value))}(hkv:∀a kvs,kv a=some kvs->fu X.prog X.w X.K a kvs):oP X (λ x y H Q=>∃a z kvs v w,x= .ref a/\y= .str z/\kv a=some kvs/\valueAt kvs z=some v/\RelV w v/\Q w H):=by
 intro value slice pins s σ H x y v u Q I rx ry h hs;obtain⟨a,z,kvs,v',w,rfl,rfl,hk,hv,rw',q⟩:=h;cases rx;obtain⟨t,rfl⟩:=ry;have hd:=hkv a kvs hk;exact tail_any (hd.at I).typeIs slot_dict_getitem.lookup (wpAny_getItem_of (Kl X.prog X.w z t) (hd.at I).mapOf hv ⟨w,H,I.tok _,rw',q⟩) hs
end
end L2
namespace L3
open PySem L2
open PySem.Spec hiding items?
open PyProof.Rows hiding St
def zL:Value->Option D
 | .int i _=>some (.int i)
 | .ref a=>some (.fx a)
 |_=>none
abbrev kJ:=Addr->Option (List (Str×Value))
section
variable {X:Cx}{kv:kJ}
def vg(kv:kJ):bx:=λ x y st K=>match x,y with| .str z,.fx a=>(match kv a with|some kvs=>K (.bl (valueAt kvs z).isSome) st|none=>False)|_,_=>False
theorem D8(hkv:∀a kvs,kv a=some kvs->fu X.prog X.w X.K a kvs):aQ X (compareOp .In) (LR (vg kv)):=λ pins s σ H x y v u Q I rx ry ⟨α,d,e,st,K,G,F',P,r1,r2,S,q,k⟩=>by
 unfold vg at q;split at q
 . split at q
   . rename_i kvs ek;unfold Rep at r1 r2;exact vQ hkv pins s σ H x y v u Q I rx ry ⟨_,_,kvs,r1,r2,ek,k.here P q S (by unfold Rep;rfl)⟩
   . exact q.elim
 . exact q.elim
@[irreducible] def mr(kv:kJ):bx:=vg kv
theorem uC(hkv:∀a kvs,kv a=some kvs->fu X.prog X.w X.K a kvs):aQ X (compareOp .In) (LR (mr kv)):=by unfold mr;exact D8 hkv
def k_(kv:kJ):bx:=λ x y st K=>match x,y with| .str z,.fx a=>(match kv a with|some kvs=>K (.bl (!(valueAt kvs z).isSome)) st|none=>False)|_,_=>False
theorem xS(hkv:∀a kvs,kv a=some kvs->fu X.prog X.w X.K a kvs):aQ X (compareOp .NotIn) (LR (k_ kv)):=λ pins s σ H x y v u Q I rx ry ⟨α,d,e,st,K,G,F',P,r1,r2,S,q,k⟩=>by
 unfold k_ at q;split at q
 . split at q
   . rename_i kvs ek;unfold Rep at r1 r2;exact sh hkv pins s σ H x y v u Q I rx ry ⟨_,_,kvs,r1,r2,ek,k.here P q S (by unfold Rep;rfl)⟩
   . exact q.elim
 . exact q.elim
@[irreducible] def i9(kv:kJ):bx:=k_ kv
theorem yv(hkv:∀a kvs,kv a=some kvs->fu X.prog X.w X.K a kvs):aQ X (compareOp .NotIn) (LR (i9 kv)):=by unfold i9;exact xS hkv
def vc(kv:kJ):bx:=λ x y st K=>match x,y with| .fx a,.str z=>(match kv a with|some kvs=>(match(valueAt kvs z).bind zL with|some d=>K d st|none=>False)|none=>False)|_,_=>False
theorem EK(hkv:∀a kvs,kv a=some kvs->fu X.prog X.w X.K a kvs):oP X (LR (vc kv)):=by
 intro value slice pins s σ H x y v u Q I rx ry ⟨α,d,e,st,K,G,F',P,r1,r2,S,q,k⟩ hs;unfold vc at q;split at q
 . split at q
   . rename_i kvs ek;split at q
     . rename_i d ed;unfold Rep at r1 r2;obtain⟨v',ev,ed'⟩:=Jo.mp ed
       have fin:∃w,Rep α G d w/\RelV w v':=by
        unfold zL at ed';split at ed'<;>cases ed'
        . exact⟨.int _,by unfold Rep;rfl,_,rfl⟩
        . exact⟨.ref _,by unfold Rep;rfl,rfl⟩
       obtain⟨w,rd,rw'⟩:=fin;exact BK hkv value slice pins s σ H x y v u Q I rx ry ⟨_,_,kvs,v',w,r1,r2,ek,ev,rw',k.here P q S rd⟩ hs
     . exact q.elim
   . exact q.elim
 . exact q.elim
@[irreducible] def mI(kv:kJ):bx:=vc kv
theorem vm(hkv:∀a kvs,kv a=some kvs->fu X.prog X.w X.K a kvs){a b:Expr}{ta tb:DE}{pos:Pos}(ha:JE X a ta)(hb:JE X b tb)(hs:gC b:=by intro _ _;rfl):JE X (.Subscript a b pos) (aj (mI kv) ta tb):=by
 unfold JE at*;unfold mI;exact PE.imp (uQ (EK hkv) ha hb hs) λ _ _ _ h=>LE.op h
end
abbrev jW:=Addr->Option (List Str)
def qh(ft:jW):b9:=λ ds st K=>match ds with| [.fx c]=>(match ft c with|some ts=>K (.int ts.length) st|none=>False)|_=>False
theorem BG{X:Cx}{ft:jW}(hft:∀c ts,ft c=some ts->∀H,cZ X.K H c (ts.map V.str)):aN X (.builtin "len") (cJ (qh ft)):=λ pins s σ H xs us Q I rs ⟨α,ds,st,K,G,F',P,r,S,q,k⟩=>by
 unfold qh at q;split at q
 . split at q
   . rename_i c _ ts ec;obtain⟨v,rfl,r1⟩:=da r rfl;unfold Rep at r1;subst r1;exact kg pins s σ H _ us Q I rs ⟨c,ts.map V.str,rfl,.inr (hft c ts ec H),by rw[GV];exact k.here P q S (by unfold Rep;rfl)⟩
   . exact q.elim
 . exact q.elim
@[irreducible] def nO(ft:jW):b9:=qh ft
theorem C2{X:Cx}{ft:jW}(hft:∀c ts,ft c=some ts->∀H,cZ X.K H c (ts.map V.str)):aN X (.builtin "len") (cJ (nO ft)):=by unfold nO;exact BG hft
def itemF(ft:jW)(st:af):D->Option (List D)
 | .fx c=>(ft c).map λ ts=>ts.map D.str
 |d=>items? st d
def vG:D->SK
 | .fx _=> .t
 |d=>pf d
theorem A4{X:Cx}{ft:jW}(hft:∀c ts,ft c=some ts->∀H,cZ X.K H c (ts.map V.str)){α:List (Option Addr)}{G F H:Hp}{st:af}{d:D}{v:V}{xs:List D}(P:a8 G F H)(S:aB α st G)(r:Rep α G d v)(e:itemF ft st d=some xs):∃p vs,v= .ref p/\ao α G xs vs/\fB (vG d) X.K H p vs:=by
 cases d
 case fx c=>
  obtain⟨ts,et,rfl⟩:=HN.mp e;unfold Rep at r;exact⟨c,ts.map V.str,r,hZ ts,hft c ts et H⟩
 all_goals
  obtain⟨p,vs,h1,h2,h3⟩:=jc S r e;exact⟨p,vs,h1,h2,h9 P h3⟩
def fm(ft:Addr->Option (List Str))(st:af):List D->Option (List (List D))
 | []=>some []
 |d::ds=>match itemF ft st d,fm ft st ds with
  |some xs,some xss=>some (xs::xss)
  |_,_=>none
theorem tu{ft:Addr->Option (List Str)}{st:af}{d:D}{ds:List D}{xss:List (List D)}(h:fm ft st (d::ds)=some xss):∃xs r,itemF ft st d=some xs/\fm ft st ds=some r/\xss=xs::r:=by
 unfold fm at h;split at h
 . rename_i xs r h1 h2;cases h;exact⟨xs,r,h1,h2,rfl⟩
 . cases h
theorem l9{X:Cx}{ft:Addr->Option (List Str)}(hft:∀c ts,ft c=some ts->∀H,cZ X.K H c (ts.map V.str)){α:List (Option Addr)}{G F H:Hp}{st:af}(P:a8 G F H)(S:aB α st G):∀ {ds:List D} {vs:List V} {xss:List (List D)},ao α G ds vs->fm ft st ds=some xss->xss.length=ds.length/\∃L:List (SK×Addr),vs=L.map (λ p=> .ref p.2)/\L.map (·.1)=ds.map vG/\∀(j:Nat) p,L[j]?=some p->∃xs ws,xss[j]?=some xs/\ao α G xs ws/\fB p.1 X.K H p.2 ws
 | [],vs,xss,r,e=>by
   unfold ao at r;subst r;cases e;exact⟨rfl,[],rfl,rfl,λ j p h=>by cases h⟩
 |d::ds,vs,xss,r,e=>by
  unfold ao at r;obtain⟨v,vs,rfl,r1,r2⟩:=r;obtain⟨xs,xss,e1,e2,rfl⟩:=tu e;obtain⟨p,ws,rfl,h1,h2⟩:=A4 hft P S r1 e1;obtain⟨ll,L,rfl,hk,h⟩:=l9 hft P S r2 e2;refine⟨by rw[Hl,ll,Hl],(vG d,p)::L,rfl,by rw[Hy,hk];rfl,λ j q hq=>?_⟩;cases j with
  |zero=>cases hq;exact⟨xs,ws,rfl,h1,h2⟩
  |succ j=>rw[HE]at hq;rw[HE];exact h j q hq
@[irreducible] def kX(ft:jW)(n:Nat)(ds:List D)(st1:af)(K:List D->(af->Prop)->af->Prop):Prop:=ds.length=n/\∃xss zs,fm ft st1 ds=some xss/\Zp xss zs/\K zs (λ st'=>fm ft st' ds=some xss) st1
def qo(ft:jW)(t:DA):DI:=λ σ st K=>t σ st λ ds st1=>kX ft 2 ds st1 K
theorem z_{X:Cx}{ft:Addr->Option (List Str)}(hft:∀c ts,ft c=some ts->∀H,cZ X.K H c (ts.map V.str)){n:Nat}{a:Expr}{es:List Expr}{elts:List Expr}{kx:Nat}{tpos p pos:Pos}{t:DA}(n1:1<=n)(n8:n<=8)(hc:∀as:List Value,as.length=n->checkTypeCall "zip" ⟨as,[]⟩=pure ()/\checkBuiltinCall "zip.__new__" ⟨.type "zip"::as,[]⟩=pure ()/\∀ob,argsOk "object.__init__" ⟨ob::as,[]⟩)(hg:Gl X "zip")(hm:X.mg "zip"=none)(ha:PA X (a::es) (LA t))(hs:starEach (a::es) X.env=(false,eval a X.env)::starEach es X.env)(hs2:(backTo pos (starEach es X.env)).any (·.1)=false):
 PI X (.Tuple elts kx tpos) (.Call (.Name "zip" p) (a::es) [] pos) (LI λ σ st K=>t σ st λ ds st1=>kX ft n ds st1 K):=by
 intro pins s σ H R I h;obtain⟨α,σd,st,K,G,F,P,RS,S,t,k⟩:=h;refine Call_ (gY I hg hm boot_zip (Ih (a6 (ha pos pins s σ H (λ vs H1=>∃ds α1 G1 st1,Step α G α1 G1/\a8 G1 F H1/\aB α1 st1 G1/\ao α1 G1 ds vs/\kX ft n ds st1 K) I ⟨α,σd,st,_,G,F,P,RS,S,t,λ ds st1 q α1 G1 H1 vs s1 P1 S1 r1=>⟨ds,α1,G1,st1,s1,P1,S1,r1,q⟩⟩) λ us s1 ⟨vs,H1,I1,rv,ds,α1,G1,st1,w1,P1,S1,r1,q⟩=>?_) hs hs2));unfold kX at q;obtain⟨ln,xss,zs,ei,zp,q⟩:=q;obtain⟨lx,L,rfl,hk,hL⟩:=l9 (X:=X) hft P1 S1 r1 ei;have lL:L.length=n:=by rw[<-ln,<-GV (f:=vG),<-hk,GV]
 rw[n9 rv];obtain⟨h1,h2,h3⟩:=hc (L.map λ p=> .ref p.2) (by rw[GV];exact lL)
 have at':∀p∈L,∃us,d8 p.1 s1.heap p.2 us:=λ p hp=>by
  obtain⟨j,hj⟩:=Hx.mp hp;obtain⟨_,ws,_,_,q⟩:=hL j p hj;obtain⟨its,_,l⟩:=ja I1 q;exact⟨_,l⟩
 refine rX (by omega) h1 h2 h3 at' λ g ⟨Z,pI,pO,iT,kp⟩=>?_;refine Kr (s:={s1 with heap:=g}) Z ?_
 have lt:∀p∈L,p.2<s1.heap.objs.size:=λ p hp=>by
  obtain⟨us,l⟩:=at' p hp;obtain⟨o,eo⟩:=l.some;exact Hg eo
 obtain⟨Lx,az,m1,m2,hx,big,lLx⟩:=wO lt (by omega) (by omega);refine⟨s1.heap.objs.size+L.length+2,_,_,_,H1,rfl,I1.kept (t':=s1.toks) kp,rR az,⟨Z,by rw[m2];exact pI,⟨_,by rw[He];exact lLx.symm,pO⟩,λ x hx'=>?_⟩,λ b hb=>I1.kh (big b hb) (I1.aF.fresh (big b hb)),?_⟩
 . obtain⟨j,hj,e⟩:=hx x hx';rw[e];exact iT j x.1 hj
 . rw[m1];refine k _ _ st1 q _ α1 G1 H1 w1 P1 S1 (vW zp (by omega) λ α' G' F' H' st' s' P' S' o j p hp=>?_);obtain⟨_,L',e1,hk',hL'⟩:=l9 (X:=X) hft P' S' (r1.step s') o;have:=mG e1 (hk.trans hk'.symm);subst this;exact hL' j p hp
theorem ox{ft:jW}{st:af}{x y:D}{xs ys:List D}{K:List D->(af->Prop)->af->Prop}(ex:itemF ft st x=some xs)(ey:itemF ft st y=some ys)(k:∀ok:af->Prop,(∀st',itemF ft st' x=some xs->itemF ft st' y=some ys->ok st')->K (fH xs ys) ok st):kX ft 2 [x,y] st K:=by
 unfold kX;exact⟨rfl,_,_,by simp only[fm,ex,ey],wI,k _ λ st' h1 h2=>by simp only[fm,h1,h2]⟩
theorem qV{X:Cx}{ft:jW}(hft:∀c ts,ft c=some ts->∀H,cZ X.K H c (ts.map V.str)){a b:Expr}{elts:List Expr}{kx:Nat}{tpos p pos:Pos}{ar:DA}(hg:Gl X "zip")(hm:X.mg "zip"=none)(ha:JA X [a,b] ar)(hs:notStar a=true:=by rfl)(hs2:notStar b=true:=by rfl):JI X (.Tuple elts kx tpos) (.Call (.Name "zip" p) [a,b] [] pos) (qo ft ar):=by
 unfold JI;unfold JA at ha;exact z_ hft (by decide) (by decide) (λ as h=>by
  match as,h with
  | [u,v],_=>exact⟨F.typeCall_zip_2 _ _,F.newCall_zip_2 _ _,λ ob=>F.args_object_init_3 ob _ _⟩) hg hm ha (bB hs) (by rw[bB hs2];rfl)
section
variable {X:Cx}
theorem ug{z:Str}:∀l:List Str,zt (.str z) (l.map V.str)=l.any λ y=>y==z
 | []=>rfl
 |y::l=>by
  have:=ug (z:=z) l;unfold zt at this⊢;rw[Hy,Iz,Iz,this];rfl
theorem oU:∀l:List Str,(l.map V.str).all gx=true
 | []=>rfl
 |_::l=>by rw[Hy,Im,oU l];rfl
def qb:bx:=λ x y st K=>match x,y with
 | .str z,.tup xs=>(match strs? xs with|some l=>K (.bl (l.any λ y=>y==z)) st|none=>False)
 |_,_=>False
theorem Dc:aQ X (compareOp .In) (LR qb):=λ pins s σ H x y v u Q I rx ry ⟨α,d,e,st,K,G,F',P,r1,r2,S,q,kk⟩=>by
 unfold qb at q;split at q
 . split at q
   . rename_i l el;unfold Rep at r1;subst r1;unfold Rep at r2;obtain⟨a,vs,rfl,na,ha,ra⟩:=r2;have hw:=j9 ra el;subst hw;refine xw pins s σ H _ (.ref a) v u Q I rx ry ⟨a,_,rfl,.inr (.of (P.get ha)),rfl,oU l,?_⟩;rw[Hi Hj,ug];exact kk.here P q S (by unfold Rep;rfl)
   . exact q.elim
 . exact q.elim
@[irreducible] def nq:bx:=qb
theorem Bz:aQ X (compareOp .In) (LR nq):=by unfold nq;exact Dc
end
theorem um{X:Cx}{x:Str}{i:Int}{t:Tok}{pos:Pos}(hm:X.mg x=some (.int i t))(hd:(x==("__debug__":Str))=false)(hg:Gl X x):JE X (.Name x pos) (dC (.int i)):=by
 unfold JE;exact PE.imp (A2 hg hm (v:= .int i) ⟨t,rfl⟩ hd) λ σ H Q ⟨α,σd,st,K,G,F,P,R,S,t,k⟩=>k.here P t S (by unfold Rep;rfl)
theorem En{X:Cx}{p pos:Pos}{x qual:Str}{st:Stmt}{ps:List Str}{f:Addr}{fd:FuncData}{k:Nat}{S:bC}(A:dX X.K X.mg x qual st ps f fd)(F:cK X.prog X.w X.K X.mg X.base fA k f fd ps (hX S))(hr:bW k X.A)(hdb:(x==("__debug__":Str))=false)(hg:Gl X x):JE X (.Call (.Name x p) [] [] pos) (ax S ag):=by
 unfold JE;refine PE.imp (xT F hr hg A.mg A.fn.kp A.bd .nil u7 hdb) λ σ H Q h=>?_;obtain⟨α,σd,st,K,G,F,P,R,S,t,k⟩:=LE.call h;exact k [] st t α G H [] Step.refl P S (by unfold ao;rfl)
theorem GQ{K:PySem.W.Frag}{x qual:Str}{st:Stmt}{f:Addr}{fd:FuncData}(F:h_ K x qual st f fd)(h:∀kV doc pm an cdv ct,bindArgs (lO x qual st kV doc pm an cdv ct) ⟨[],[]⟩=pure []):Binds K fd [] []:=
 F.binds λ kV doc pm an cdv ct us hl=>by
  cases i_ hl;exact h kV doc pm an cdv ct
end L3
namespace Hd
open PySem PySem.W L2 L3
open PySem.Spec hiding items?
open PyProof.Rows hiding St
theorem GF{K:Frag}{mg:Str->Option Value}{h:Heap}{x:Str}{st:Stmt}{f c:Addr}{pm:Value}(X:K.In h)(G:h.Ns mainGlobals mg)(e:Ed K x st f pm c)(b:∀kV doc pm an cdv ct,bindArgs (lO x x st kV doc pm an cdv ct) ⟨[],[]⟩=pure []):dX K mg x x st [] f (fd st x x pm c):=⟨e.fn.1,mg_of X G e.fn.2,GQ e.fn.1 b⟩
end Hd
namespace Mx
def S:Nat->(Nat->Int)->Int
 |0,_=>0
 |n+1,f=>S n f+f n
def dl(i j:Nat):Int:=if i=j then 1 else 0
abbrev Row:=List Int
abbrev Rows:=List (List Int)
def g(A:Rows)(i j:Nat):Int:=(A.getD i []).getD j 0
theorem zW{α:Type}{l:List α}{i:Nat}{d:α}(h:i<l.length):l.getD i d=l[i]:=by
 rw[IA,G0 h];rfl
theorem Am{α:Type}{l:List α}{i:Nat}{d:α}(h:l.length<=i):l.getD i d=d:=by
 rw[IA,KN h];rfl
theorem ee(n j:Nat):(List.replicate n (0:Int)).getD j 0=0:=by
 by_cases h:j<n
 . rw[zW (by simpa using h)];simp
 . rw[Am (by simp;omega)]
def A9(n i:Nat):Row:=(List.range n).map λ k=>dl k i
def units(n:Nat):Rows:=(List.range n).map λ i=>A9 n i
end Mx
namespace Prog
open PySem L2 L3
open PySem.Spec hiding items?
open PyProof.Rows hiding St
theorem cD{i j:Int}(h1: -(2^64)<i)(h2:i<2^64):IntMulOk i j:= .of_left (intBits_le_64 h1 h2)
theorem Bp{i j:Int}(h1: -(2^64)<j)(h2:j<2^64):IntMulOk i j:= .of_right (intBits_le_64 h1 h2)
theorem ph{a b:Nat}(h:a<=b)(hb:b.log2<9000)(ha:a≠0):a.log2<9000:=by
 have hb0:b≠0:=by omega
 exact(J1 ha).mpr (Nat.lt_of_le_of_lt h ((J1 hb0).mp hb))
def isInt:D->Bool
 | .int _=>true
 |_=>false
abbrev k9(r:List Int):List D:=r.map D.int
abbrev df(r:List Int):D:= .tup (k9 r)
abbrev dQ(A:List (List Int)):D:= .tup (A.map df)
theorem fD{d:D}{ds:List D}:cR (d::ds) 0=some d:=la (j:=0) rfl
abbrev dB:Addr:=95
abbrev bR:Addr:=102
def lZ:kJ:=λ a=>match a with
 |68=>some [("rows",(.int (8) 270)),("few rows",(.int (5) 272))]
 |69=>some [("standing",(.ref 70)),("inside",(.ref 71)),("dividing",(.ref 72)),("rests",(.ref 73)),("short",(.ref 74)),("nearest",(.ref 75)),("shortest",(.ref 76)),("near",(.ref 77)),("answers",(.ref 78)),("small",(.ref 79)),("together",(.ref 80)),("shared",(.ref 81)),("plan",(.ref 82)),("under",(.ref 83))]
 |_=>none
def ig:jW:=λ c=>match c with
 |70=>some ["rows"]
 |71=>some ["rows","row"]
 |72=>some ["rows"]
 |73=>some ["rows"]
 |74=>some ["rows"]
 |75=>some ["few rows","point"]
 |76=>some ["few rows"]
 |77=>some ["few rows","point","square"]
 |78=>some ["rows","due"]
 |79=>some ["rows","due","row","row"]
 |80=>some ["rows","rows"]
 |81=>some ["rows","rows"]
 |82=>some ["row","rows","due","row","row"]
 |83=>some ["row","rows","due","row","row"]
 |_=>none
def mm:bC:=λ ds st K=>∃a b,ds=[.int a,.int b]/\K (.int ((Nat.gcd a.natAbs b.natAbs:Nat):Int)) st
def so:List Str:=["one","other","great","small","rest"]
def x9:DS:=(aw (aP 2 (aU iz (aa (ab 0) ag)))
 (aw (aP 3 (aU iz (aa (ab 1) ag)))
 (aw (m5 (aG (aj fv (ab 3) (dC (.int 0)))) (aw (aP 4 (aj gm (ab 2) (ab 3)))
 (aw (aP 2 (ab 3))
 (aP 3 (ab 4)))))
 (aX (ab 2)))))
theorem qP(a b:Nat):(a:Int).fmod (b:Int)=((a%b:Nat):Int):=by
 rw[Int.fmod_eq_emod_of_nonneg _ (Int.natCast_nonneg b)];exact(Int.natCast_emod a b).symm
abbrev GU(S:bC)(n:Nat)(P:DS)(N:List Str):Prop:=∀ds st K,S ds st K->ds.length=n/\P {nx:=λ _ st'=>K .aH st',rt:=K} (aY N ds) st
theorem vS:GU mm 2 x9 so:=by
 rintro ds st K ⟨a,b,rfl,k⟩;refine⟨rfl,?_⟩;refine kj (kj ?_);refine⟨λ m σ st'=>∃(g s:Nat) (r:Option D),σ=[some (.int a),some (.int b),some (.int g),some (.int s),r]/\st'=st/\Nat.gcd g s=Nat.gcd a.natAbs b.natAbs/\s=m,⟨b.natAbs,a.natAbs,b.natAbs,none,?_,rfl,rfl,rfl⟩,?_⟩
 . rfl
 . rintro m σ st' ⟨g,s,r,rfl,rfl,hg,rfl⟩;by_cases hs:(s:Int)=0
   . have hs0:s=0:=by omega
     subst hs0;rw[Nat.gcd_zero_right]at hg;subst hg;exact vH k
   . have hs0:0<s:=by omega
     have hd:(!decide ((s:Int)=0))=true:=by simp;omega
     refine vH ?_;show if(!decide ((s:Int)=0))=true then _ else _
     rw[Hu hd];refine gb hs ⟨g%s,Nat.mod_lt _ hs0,s,g%s,some (.int ((g%s:Nat):Int)),?_,rfl,?_,rfl⟩
     . simp[qP]
     . rw[Kt,<-Nat.gcd_rec,Kt];exact hg
def gp(t b:Int):Int:=((if b<0 then-1 else 1)*t).fdiv ((Nat.gcd t.natAbs b.natAbs:Nat):Int)
def iE(t b:Int):Int:=((if b<0 then-1 else 1)*b).fdiv ((Nat.gcd t.natAbs b.natAbs:Nat):Int)
def BU(t b:Int):D:= .tup [.int (gp t b),.int (iE t b)]
def rJ:bC:=λ ds st K=>∃(t b:Int),ds=[.int t,.int b]/\b≠0/\b.natAbs.log2<9000/\K (BU t b) st
def xB:List Str:=["top","bottom","shrink"]
def Du:DS:=(aw (aP 2 (ax mm (aa (ab 0) (aa (ab 1) ag))))
 (aw (bG (aG (aj i6 (ab 1) (dC (.int 0)))) (aP 2 (ue kz (ab 2))) bo)
 (aX (bj (aa (aj eG (ab 0) (ab 2)) (aa (aj eG (ab 1) (ab 2)) ag))))))
theorem kM{g t:Int}(hg:g≠0)(h:g∣t):t.fdiv (-g)=(-1*t).fdiv g:=by
 obtain⟨c,rfl⟩:=h
 have e1:(g*c).fdiv (-g)= -c:=by
  have:g*c=(-g)*(-c):=by rw[Int.neg_mul_neg]
  rw[this,Ku _ (by omega)]
 have e2:(-1*(g*c)).fdiv g= -c:=by
  have: -1*(g*c)=g*(-c):=by rw[Int.neg_mul,IU,Int.mul_neg]
  rw[this,Ku _ hg]
 rw[e1,e2]
theorem xy(t b:Int):((Nat.gcd t.natAbs b.natAbs:Nat):Int)∣t:=Int.ofNat_dvd_left.mpr (Nat.gcd_dvd_left _ _)
theorem xb(t b:Int):((Nat.gcd t.natAbs b.natAbs:Nat):Int)∣b:=Int.ofNat_dvd_left.mpr (Kg _ _)
theorem AV:GU rJ 2 Du xB:=by
 rintro ds st K ⟨t,b,rfl,hb,hlog,k⟩;refine⟨rfl,?_⟩;refine⟨t,b,rfl,?_⟩
 have hg0:Nat.gcd t.natAbs b.natAbs≠0:=λ z=>by
  have:=Jy z;omega
 have hgl:Nat.gcd t.natAbs b.natAbs<=b.natAbs:=Nat.le_of_dvd (by omega) (Kg _ _);have hne:((Nat.gcd t.natAbs b.natAbs:Nat):Int)≠0:=by omega
 have hlg:=ph hgl hlog hg0;unfold BU gp iE at k;refine zE (λ h=>bA ?_) λ h=>?_
 . rw[Hu h,<-kM hne (xy t b),<-kM hne (xb t b)]at k;refine rP (dA (by omega) (by rw[Int.natAbs_neg,IM];exact hlg) (dA (by omega) (by rw[Int.natAbs_neg,IM];exact hlg) ?_));exact⟨G_ rfl,k⟩
 . rw[Hi (by omega),IU,IU]at k;refine dA hne (by rw[IM];exact hlg) (dA hne (by rw[IM];exact hlg) ?_);exact⟨G_ rfl,k⟩
def oA:bC:=λ ds st K=>∃n,ds=[n]/\K (.tup [n,.int 1]) st
def tK:List Str:=["n"]
def Af:DS:=(aX (bj (aa (ab 0) (aa (dC (.int 1)) ag))))
theorem yk:GU oA 1 Af tK:=by
 rintro ds st K ⟨n,rfl,k⟩;exact⟨rfl,G_ rfl,k⟩
theorem oD{x:Str}{st:af}{K:DK}(h:x.length<=sizeLine)(k:K (.int x.length) st):bP [.str x] st K:=by unfold bP mX;exact⟨h,k⟩
theorem mS{i:Nat}{σ:bc}{st:af}{K:DK}{d:D}(h:σ[i]?=some (some d))(k:K d st):ab i σ st K:=by
 unfold ab;simp only[h];exact k
theorem ik{r:jS}{i:Nat}{σ:bc}{te:DE}{st:af}{K:DK}{s:Str}{y:D}(h:σ[i]?=some (some (.str s)))(he:te=dC y)(k:r s y st K):dr r (ab i) te σ st K:=by
 subst he;unfold dr;exact mS h k
theorem kF{r:jS}{to te:DE}{σ:bc}{st:af}{K:DK}(h:to σ st λ x st1=>match x with
 | .str s=>te σ st1 λ y st2=>r s y st2 K
 |_=>False):dr r to te σ st K:=by unfold dr;exact h
theorem bI{L:List Nat}:(⟨L.toArray⟩:Str).length=L.length:=by simp[Str.length]
theorem dy{L:List Nat}:(⟨L.toArray⟩:Str).cps.toList=L:=by simp
theorem jX{s:Str}{L:List Nat}(h:s.cps.toList=L):s=⟨L.toArray⟩:=by
 cases s with
 |mk a=>rw[<-h]
theorem a7{n:Nat}(h:n<=100000):n<=sizeLine:=by rw[Ky];omega
theorem vE(L:List Nat)(c:Nat):Txt.startswith ⟨L.toArray⟩ (Tx.one c)=decide (L.head?=some c):=by
 unfold Txt.startswith
 cases L with
 |nil=>rfl
 |cons y L=>
  have h1:Builtin.Str.subAt (⟨(y::L).toArray⟩:Str) (Tx.one c) 0=decide (y=c):=Tx.sub_one (l:=L) (by simp);rw[h1,bI];show(decide (0+1<=L.length+1)&&decide (y=c))=_;rw[Hr (by omega),Bool.true_and];simp
theorem AH:("-":Str)=Tx.one 45:=rfl
theorem AI:("/":Str)=Tx.one 47:=rfl
theorem k8:(" ":Str)=Tx.one 32:=rfl
theorem BN:(";":Str)=Tx.one 59:=rfl
theorem AU:(":":Str)=Tx.one 58:=rfl
theorem wo:("\n":Str)=Tx.one 10:=rfl
theorem Cq:("0":Str)=Tx.one 48:=rfl
theorem ng:("":Str)=⟨([]:List Nat).toArray⟩:=rfl
theorem sm(c:Nat):Tx.one c=⟨[c].toArray⟩:=rfl
theorem qx{L M:List Nat}(h:(⟨L.toArray⟩:Str)=⟨M.toArray⟩):L=M:=by
 have:=H0 (λ s:Str=>s.cps.toList) h;simpa using this
theorem Cs{L M:List Nat}:bN (tx L) (tx M)=decide (L=M):=by
 unfold bN;by_cases h:L=M
 . subst h;simp
 . have:¬(⟨L.toArray⟩:Str)=⟨M.toArray⟩:=λ e=>h (qx e);rw[Hc h];exact Je.mpr this
theorem oh{L M:List Nat}{st:af}{K:DK}(k:K (.bl (decide (L=M))) st):ck (tx L) (tx M) st K:=aT rfl rfl (by rw[Cs];exact k)
theorem wk{st:af}{K:DK}{i j:Str}(k:K (.bl (!decide (i=j))) st):fv (.str i) (.str j) st K:=by unfold fv;exact k
theorem uu{L M:List Nat}{st:af}{K:DK}(k:K (.bl (!decide (L=M))) st):fv (tx L) (tx M) st K:=wk (by
 have e:decide ((⟨L.toArray⟩:Str)=⟨M.toArray⟩)=decide (L=M):=by
  by_cases h:L=M
  . subst h;simp
  . rw[Hc h,Hc λ e=>h (qx e)]
 rw[e];exact k)
def eO:bC:=λ ds st K=>∃n:Int,ds=[tx (Tx.sg n)]/\n.natAbs<10^12/\K (.bl true) st
def gR:List Str:=["text","figures"]
def mB:DS:=(aw (aP 1 (zk (aG (dr kR (ab 0) (dC (.str "-")))) (uo (ab 0) (uS (dC (.int 1))) nV) (ab 0)))
 (aw (bG (gT (eE (aG (i7 gW gW (dC (.int 1)) (aU bP (aa (ab 1) ag)) (dC (.int 12))))) (eE (aG (aU jK (aa (bz (sv (ab 1)) [none] (cm 0) bp (aj nX (ab 0) (dC (.str "0123456789")))) ag))))) (aX (dC (.bl false))) bo)
 (aX (rL (aj fv (aj oJ (ab 1) (dC (.int 0))) (dC (.str "0"))) (aj ck (ab 0) (dC (.str "0")))))))
theorem FY(c:Nat)(h1:48<=c)(h2:c<=57):(!(Builtin.Str.occurrences ("0123456789":Str) ⟨#[c]⟩ 0 (Str.length "0123456789") 1).isEmpty)=true:=by
 rw[show(⟨#[c]⟩:Str)=Tx.one c from rfl,Tx.mE];have h:c=48\/c=49\/c=50\/c=51\/c=52\/c=53\/c=54\/c=55\/c=56\/c=57:=by omega
 rcases h with rfl|rfl|rfl|rfl|rfl|rfl|rfl|rfl|rfl|rfl<;>decide+kernel
theorem sC{m c:Nat}(h:c∈Tx.fg m):48<=c/\c<=57:=by
 exact Tx.hV m c h
theorem CC{a b:Str}{st:af}{K:DK}(k:K (.bl (!(Builtin.Str.occurrences b a 0 b.length 1).isEmpty)) st):nX (.str a) (.str b) st K:=by unfold nX;exact k
theorem x5{L:List Nat}{st:af}{K:List D->(af->Prop)->af->Prop}(h:∀c∈L,c<128)(k:K (L.map λ c=>D.str ⟨#[c]⟩) (λ _=>True) st):mT (tx L) st K:=by
 unfold mT vk;refine⟨?_,by rw[dy];exact k⟩;rw[<-Array.all_toList,dy];exact HH.mpr λ c hc=>Hr (h c hc)
theorem k5:∀xs:List D,cS (xs.map λ _=>D.bl true)=some (xs.map λ _=>true)
 | []=>rfl
 |x::xs=>by simp[cS,k5 xs]
theorem p_{α:Type}:∀xs:List α,(xs.map λ _=>true).all id=true
 | []=>rfl
 |x::xs=>by simp[p_ xs]
theorem AD{L:List Nat}{c:Nat}{i:Int}{st:af}{K:DK}(h:cR L i=some c)(hl:L.length<=100000)(k:K (.str ⟨#[c]⟩) st):oJ (tx L) (.int i) st K:=by
 unfold oJ qi;simp only[dy,h];exact⟨by rw[bI];exact a7 hl,k⟩
theorem vd{L:List Nat}{i:Nat}{st:af}{K:DK}(h:i<=L.length)(hl:L.length<=100000)(k:K (tx (L.drop i)) st):iZ (tx L) (some (.ofNat i)) none st K:=by
 unfold iZ n4;exact⟨⟨by rw[bI];exact h,by rw[bI];exact a7 hl⟩,by rw[dy];exact k⟩
theorem lC:GU eO 1 mB gR:=by
 rintro ds st K ⟨n,rfl,hn,k⟩;refine⟨rfl,?_⟩;have lf:(Tx.fg n.natAbs).length<=12:=Tx.wy (by decide) hn;have ne:=Tx.mZ n.natAbs
 have lp:1<=(Tx.fg n.natAbs).length:=by
  cases h:Tx.fg n.natAbs with
  |nil=>exact absurd h ne
  |cons=>simp
 have ls:=Tx.i8 hn
 have fin:(aw (bG (gT (eE (aG (i7 gW gW (dC (.int 1)) (aU bP (aa (ab 1) ag)) (dC (.int 12))))) (eE (aG (aU jK (aa (bz (sv (ab 1)) [none] (cm 0) bp (aj nX (ab 0) (dC (.str "0123456789")))) ag))))) (aX (dC (.bl false))) bo)
  (aX (rL (aj fv (aj oJ (ab 1) (dC (.int 0))) (dC (.str "0"))) (aj ck (ab 0) (dC (.str "0")))))) {nx:=λ _ st'=>K .aH st',rt:=K} [some (tx (Tx.sg n)),some (tx (Tx.fg n.natAbs))] st:=by
  refine oD (by rw[bI];exact a7 (by omega)) (kP ?_);rw[bI,Hr (show(1:Int)<=((Tx.fg n.natAbs).length:Int) by omega)];refine bA (kP ?_);rw[Hr (show((Tx.fg n.natAbs).length:Int)<=12 by omega)];refine aS ?_;have l1:((Tx.fg n.natAbs).map λ c=>D.str ⟨#[c]⟩).length<=sizeLine:=by rw[GV];exact a7 (by omega)
  refine x5 (λ c hc=>by have:=sC hc;omega) ⟨l1,?_⟩;refine comp_map (g:=λ _=> .bl true) trivial _ (λ d hd K' q=>?_) ?_
  . obtain⟨c,hc,rfl⟩:=Hv.mp hd;have:=sC hc;refine⟨_,rfl,CC ?_⟩;rw[FY c this.1 this.2];exact q
  . refine nM (k5 _) ?_;rw[p_];refine aS ?_
    have ea:cR (Tx.fg n.natAbs) 0=some ((Tx.fg n.natAbs).getD 0 0):=by
     unfold cR ki;cases h:Tx.fg n.natAbs with
     |nil=>exact absurd h ne
     |cons c l=>simp
    refine AD ea (by omega) ?_;have e1:(⟨#[(Tx.fg n.natAbs).getD 0 0]⟩:Str)=⟨[(Tx.fg n.natAbs).getD 0 0].toArray⟩:=rfl;rw[e1,Cq,sm];refine uu ?_;by_cases hz:n=0
    . subst hz;have e2:Tx.fg (0:Int).natAbs=[48]:=Tx.AK;rw[e2];refine oh ?_;have e3:Tx.sg 0=[48]:=by unfold Tx.sg;rw[Hi (by decide)];exact e2
      rw[e3];exact k
    . have hh:(Tx.fg n.natAbs).getD 0 0≠48:=by
       cases h:Tx.fg n.natAbs with
       |nil=>exact absurd h ne
       |cons c l=>exact Tx.AS n.natAbs (by omega) c l h
      rw[Hc (λ z=>hh (by injection z))];exact k
 refine ik (s:=⟨(Tx.sg n).toArray⟩) (i:=0) rfl rfl ?_;unfold kR;dsimp only;rw[AH,vE];by_cases h:n<0
 . have e:Tx.sg n=45::Tx.fg n.natAbs:=by unfold Tx.sg;rw[Hu h]
   rw[Hr (by rw[e];rfl)];refine bA (vd (i:=1) (by rw[e];simp) (by omega) ?_);have e2:(Tx.sg n).drop 1=Tx.fg n.natAbs:=by rw[e];rfl
   rw[e2];exact fin
 . have e:Tx.sg n=Tx.fg n.natAbs:=by unfold Tx.sg;rw[Hi h]
   have e2:¬(Tx.sg n).head?=some 45:=λ z=>by
    rw[e]at z;have:=sC (List.mem_of_mem_head? (Option.mem_def.mpr z));omega
   rw[Hc e2];have f:=fin;rw[<-e]at f;exact f
def eg:bC:=λ ds st K=>∃(n:Int) (ln:D),ds=[tx (Tx.sg n),ln]/\n.natAbs<10^12/\K (.int n) st
def lK:List Str:=["text","line"]
def sO:DS:=(aw (bG (eE (aG (ax eO (aa (ab 0) ag)))) fZ bo)
 (aX (aU nN (aa (ab 0) ag))))
theorem Bk{a:Str}{n:Int}{st:af}{K:DK}(h:PySem.intText? a=some n)(hl:a.length<=640)(k:K (.int n) st):nN [.str a] st K:=by
 unfold nN nI;simp only[h];exact⟨hl,k⟩
theorem r_:GU eg 2 sO lK:=by
 rintro ds st K ⟨n,ln,rfl,hn,k⟩;have ls:=Tx.i8 hn;refine⟨rfl,⟨n,rfl,hn,aS ?_⟩⟩;exact Bk (Tx.xX dy (by rw[bI];omega)) (by rw[bI];omega) k
def qO(a b:Int)(L:List Nat):Prop:=∃T B:Int,T.natAbs<10^12/\0<B/\B<10^12/\a=gp T B/\b=iE T B/\(L=Tx.sg T++47::Tx.sg B\/(B=1/\L=Tx.sg T))
def gf:bC:=λ ds st K=>∃(a b:Int) (L:List Nat) (ln:D),ds=[tx L,ln]/\qO a b L/\K (.tup [.int a,.int b]) st
def jV:List Str:=["text","line","halves","top","bottom"]
def pJ:DS:=(aw (aP 2 (dr kY (ab 0) (dC (.str "/"))))
 (aw (aP 3 (ax eg (aa (aj cp (ab 2) (dC (.int 0))) (aa (ab 1) ag))))
 (aw (bG (aG (aj ck (aj cp (ab 2) (dC (.int 1))) (dC (.str "")))) (aX (ax oA (aa (ab 3) ag))) bo)
 (aw (aP 4 (ax eg (aa (aj cp (ab 2) (dC (.int 2))) (aa (ab 1) ag))))
 (aw (bG (aG (aj gW (ab 4) (dC (.int 0)))) fZ bo)
 (aX (ax rJ (aa (ab 3) (aa (ab 4) ag)))))))))
theorem qZ{P R:List Nat}{c:Nat}(h:c∉P):Txt.partition ⟨(P++c::R).toArray⟩ (Tx.one c)=(⟨P.toArray⟩,Tx.one c,⟨R.toArray⟩):=by
 obtain⟨e1,e2,e3⟩:=Tx.Bc (x:=⟨(P++c::R).toArray⟩) (c:=c) (p:=P) (r:=R) dy h;unfold Txt.partition;rw[e1];show(_,_,_)=_;rw[jX e2,jX e3]
theorem wG{L:List Nat}{c:Nat}(h:c∉L):Txt.partition ⟨L.toArray⟩ (Tx.one c)=(⟨L.toArray⟩,⟨([]:List Nat).toArray⟩,⟨([]:List Nat).toArray⟩):=by
 have e1:=Tx.xD (x:=⟨L.toArray⟩) (c:=c) (by rw[dy];exact h);unfold Txt.partition;rw[e1];rfl
theorem wW{n:Int}{c:Nat}(h:c≠45)(h2:c<48\/57<c):c∉Tx.sg n:=Tx.nE h h2
theorem zA{B:Int}(h0:0<B)(h:B<10^12):B.natAbs.log2<9000:=by
 have:B.natAbs.log2<40:=(J1 (by omega)).mpr (by have h40:(10:Nat)^12<2^40:=(by decide);omega);omega
theorem tO(T:Int):gp T 1=T/\iE T 1=1:=by
 unfold gp iE;have e:Nat.gcd T.natAbs (1:Int).natAbs=1:=by show Nat.gcd T.natAbs 1=1;simp
 rw[e];simp
theorem oG:GU gf 2 pJ jV:=by
 rintro ds st K ⟨a,b,L,ln,rfl,⟨T,B,hT,hB0,hB,rfl,rfl,hL⟩,k⟩;refine⟨rfl,?_⟩;have lT:=Tx.i8 hT;have lB:=Tx.i8 (n:=B) (by omega)
 have hl:L.length<=30:=by
  rcases hL with rfl|⟨_,rfl⟩
  . rw[GX,Hl];omega
  . omega
 refine ik (s:=⟨L.toArray⟩) (i:=0) rfl rfl ?_;unfold kY;refine⟨⟨rfl,by rw[bI];exact a7 (by omega)⟩,?_⟩;rw[AI];rcases hL with rfl|⟨rfl,rfl⟩
 . rw[qZ (wW (by decide) (by decide))];refine ba rfl rfl ⟨T,ln,rfl,hT,?_⟩;refine ba rfl rfl ?_;rw[ng,sm];refine oh ?_;rw[Hc (by intro z;cases z)];refine aS ?_;refine ba rfl rfl ⟨B,ln,rfl,by omega,?_⟩;refine Fv (λ z=>by omega) λ _=>aS ?_;exact⟨T,B,rfl,by omega,zA hB0 hB,k⟩
 . rw[wG (wW (by decide) (by decide))];refine ba rfl rfl ⟨T,ln,rfl,hT,?_⟩;refine ba rfl rfl ?_;rw[ng];refine oh ?_;rw[Hr rfl];refine bA ⟨_,rfl,?_⟩;rw[(tO T).1,(tO T).2]at k;exact k
def Fs(f:Addr):Prop:=f=dB\/f=bR
def vY(f:Addr):bC:=if f=bR then gf else eg
def zq(f:Addr)(l:List Nat)(d:D):Prop:=∀(ln:D) (st:af) (K:DK),K d st->vY f [tx l,ln] st K
def eH:bC:=λ ds st K=>∃(L:List Nat) (f:Addr) (ln:D) (ps:List (List Nat×D)),ds=[tx L,.fx f,ln]/\L.length<=10000/\Tx.words 32 L=ps.map (·.1)/\1<=ps.length/\ps.length<=8/\Fs f/\(∀p∈ps,zq f p.1 p.2)/\K (.tup (ps.map (·.2))) st
def rg:List Str:=["text","read","line","texts"]
def yl:DS:=(aw (aP 3 (bz (cu (dr f_ (ab 0) (dC (.str " ")))) [none] (cm 0) (aG (aj fv (ab 0) (dC (.str "")))) (ab 0)))
 (aw (bG (eE (aG (i7 gW gW (dC (.int 1)) (aU bP (aa (ab 3) ag)) (dC (.int 8))))) fZ bo)
 (aX (aU cH (aa (bz (cu (ab 3)) [none,some 1,some 2] (cm 0) bp (wJ 1 Fs vY (aa (ab 0) (aa (ab 2) ag)))) ag)))))
theorem dR{tg:cQ}{te:DE}{ok:af->Prop}{σc:bc}{st:af}{K:List D->af->Prop}{xs ys:List D}(aF:ok st)(hl:ys.length=xs.length)(h:∀(i:Nat) x y,xs[i]?=some x->ys[i]?=some y->∀K',K' y st->∃σ2,tg x σc=some σ2/\te σ2 st K')(k:K ys st):bT tg bp te ok σc xs [] st K:=by
 refine gL (λ r acc st'=>st'=st/\∃i,i+r.length=xs.length/\r=xs.drop i/\acc=ys.take i) ?_ ?_ xs [] st ⟨rfl,0,by simp,rfl,rfl⟩
 . rintro acc st' ⟨rfl,i,hi,_,rfl⟩;have hi:i=xs.length:=by simpa using hi
   rw[IT (by omega)];exact⟨aF,k⟩
 . rintro x r acc st' ⟨rfl,i,hi,hr,rfl⟩ next
   rw[Hl]at hi;have li:i<xs.length:=by omega
   rw[IF li]at hr;injection hr with h1 h2;have hx:xs[i]?=some x:=by rw[G0 li,h1]
   have hy:ys[i]?=some ys[i]:=G0 (by omega);obtain⟨σ2,e,q⟩:=h i x _ hx hy (λ y st2=>bT tg bp te ok σc r (ys.take i++[y]) st2 K) (next _ _ ⟨rfl,i+1,by omega,h2,by rw[List.take_succ_eq_append_getElem (by omega)]⟩);refine⟨aF,σ2,e,?_⟩;show(if true=true then(te σ2 st' λ y st2=>bT tg bp te ok σc r (ys.take i++[y]) st2 K)else(bT tg bp te ok σc r (ys.take i) st' K));rw[Hu rfl];exact q
theorem lQ{tg:cQ}{c:DT}{te:DE}{ok:af->Prop}{σc:bc}{st:af}{K:List D->af->Prop}{p:D->Bool}{g:D->D}{xs:List D}(aF:ok st)(h:∀x∈xs,∃σ2,tg x σc=some σ2/\(∀K',K' (p x) st->c σ2 st K')/\(p x=true->∀K',K' (g x) st->te σ2 st K'))(k:K ((xs.filter p).map g) st):bT tg c te ok σc xs [] st K:=by
 refine gL (λ r acc st'=>st'=st/\(∀x∈r,x∈xs)/\acc++(r.filter p).map g=(xs.filter p).map g) ?_ ?_ xs [] st ⟨rfl,λ _ h=>h,rfl⟩
 . rintro acc st' ⟨rfl,_,e⟩;rw[List.filter_nil,Kn,HL]at e;rw[e];exact⟨aF,k⟩
 . rintro x r acc st' ⟨rfl,hm,e⟩ next
   obtain⟨σ2,e1,h1,h2⟩:=h x (hm x Hm);refine⟨aF,σ2,e1,h1 _ ?_⟩;have hm':∀y∈r,y∈xs:=λ y hy=>hm y (G7 _ hy);cases hp:p x with
   |true=>
    refine bA (h2 hp _ (next _ _ ⟨rfl,hm',?_⟩));rw[Ic,Hu hp,Hy]at e;rw[<-e,Hn];rfl
   |false=>
    refine aS (next _ _ ⟨rfl,hm',?_⟩);rw[Ic,hp,Hi Hj]at e;exact e
theorem wZ{c:Nat}:∀(L:List Nat) (a:Nat),Tx.ix c a L=[]->c∉L
 | [],_,_=>by simp
 |y::L,a,h=>by
  unfold Tx.ix at h;by_cases hy:y=c
  . rw[Hu hy]at h;cases h
  . rw[Hi hy]at h;intro hm;rcases G9.mp hm with e|e
    . exact hy e.symm
    . exact wZ L _ h e
theorem yP{c:Nat}(h:c<256):Builtin.Str.strKind (Tx.one c)=1:=by
 unfold Builtin.Str.strKind Tx.one;simp[h]
theorem Ad(x:Str):1<=Builtin.Str.strKind x:=by
 unfold Builtin.Str.strKind;split
 . decide
 . split<;>decide
theorem yL{c:Nat}(h:c<256)(L:List Nat):Txt.split ⟨L.toArray⟩ (Tx.one c)=(Tx.bb c L).map λ p=>⟨p.toArray⟩:=by
 have hk:decide (Builtin.Str.strKind ⟨L.toArray⟩<Builtin.Str.strKind (Tx.one c))=false:=Hc (by rw[yP h];have:=Ad ⟨L.toArray⟩;omega);unfold Txt.split;rw[hk,Bool.or_false];have hs:=Tx.oQ ⟨L.toArray⟩ c;have ho:=Tx.ui ⟨L.toArray⟩ c;rw[dy]at hs ho;by_cases hl:L=[]
 . subst hl;rfl
 . have:decide ((⟨L.toArray⟩:Str).length<(Tx.one c).length)=false:=Hc (by
    rw[bI];show¬L.length<1;cases L with
    |nil=>exact absurd rfl hl
    |cons=>simp)
   rw[this,Hi Hj];by_cases he:(Builtin.Str.occurrences (⟨L.toArray⟩:Str) (Tx.one c) 0 (⟨L.toArray⟩:Str).length ((⟨L.toArray⟩:Str).length+1)).isEmpty=true
   . rw[Hu he];rw[ho,List.isEmpty_iff]at he;rw[Tx.eN L (wZ L 0 he)];rfl
   . rw[Hi he,<-hs,HC];refine(List.map_id _).symm.trans (List.map_congr_left λ s _=>?_);exact jX rfl
theorem iW(c:Nat):∀L:List Nat,(Tx.bb c L).length<=L.length+1
 | []=>by simp[Tx.bb]
 |y::L=>by
  have:=iW c L;unfold Tx.bb;split
  . simp;omega
  . obtain⟨p,r,e⟩:=Tx.fY c L;rw[e]at this⊢;simp at this⊢;omega
theorem gZ(c:Nat):∀(L:List Nat) (p:List Nat),p∈Tx.bb c L->p.length<=L.length
 | [],p,h=>by
   unfold Tx.bb at h;rw[IP.mp h];simp
 |y::L,p,h=>by
  unfold Tx.bb at h;split at h
  . rcases G9.mp h with rfl|h
    . simp
    . have:=gZ c L p h;simp;omega
  . obtain⟨q,r,e⟩:=Tx.fY c L;have ih:=gZ c L;rw[e]at h ih;simp only at h;rcases G9.mp h with rfl|h
    . have:=ih q Hm;simp;omega
    . have:=ih p (G7 _ h);simp;omega
theorem ju{L:List Nat}{c:Nat}{st:af}{K:DK}(hc:c<256)(hl:L.length<=10000)(k:K (.lst ((Tx.bb c L).map tx)) st):f_ ⟨L.toArray⟩ (.str (Tx.one c)) st K:=by
 have h1:=yL hc L;have hn:=iW c L;unfold f_;refine⟨⟨rfl,by rw[bI];exact a7 (by omega),?_,?_⟩,?_⟩
 . have:=Tx.oQ ⟨L.toArray⟩ c;have:=H0 List.length this;rw[GV,dy]at this;rw[this];exact a7 (by omega)
 . rw[h1,GV];exact a7 (by omega)
 . rw[h1,HC];exact k
theorem qR(L:List Nat):((Tx.bb 32 L).map tx).filter (λ d=>match d with| .str s=> !decide (s=⟨([]:List Nat).toArray⟩)|_=>false)=(Tx.words 32 L).map tx:=by
 unfold Tx.words;rw[List.filter_map];refine H0 (List.map tx) (List.filter_congr λ p _=>?_);show(!decide ((⟨p.toArray⟩:Str)=⟨([]:List Nat).toArray⟩))=decide (p≠ []);by_cases hp:p=[]
 . subst hp;simp
 . rw[Hr hp,Hc λ e=>hp (qx e)];rfl
theorem xk:GU eH 3 yl rg:=by
 rintro ds st K ⟨L,f,ln,ps,rfl,hl,hw,p1,p8,hf,hr,k⟩;refine⟨rfl,?_⟩;have hn:=iW 32 L;refine ik (s:=⟨L.toArray⟩) (i:=0) rfl rfl ?_;rw[k8];refine ju (by decide) hl (d5 ⟨by rw[GV];exact a7 (by omega),?_⟩);refine lQ (p:=λ d=>match d with| .str s=> !decide (s=⟨([]:List Nat).toArray⟩)|_=>false) (g:=id) trivial (λ d hd=>?_) ?_
 . obtain⟨p,hp,rfl⟩:=Hv.mp hd;refine⟨_,rfl,λ K' q=>?_,λ _ K' q=>q⟩;rw[ng];exact wk q
 . rw[qR,List.map_id,hw];have lw:((ps.map (·.1)).map tx).length=ps.length:=by rw[GV,GV]
   refine cj rfl (kP ?_);rw[lw,Hr (show(1:Int)<=(ps.length:Int) by omega)];refine bA (kP ?_);rw[Hr (show(ps.length:Int)<=8 by omega)];refine aS ?_;refine d5 ⟨by rw[lw];exact gJ (by omega),?_⟩;refine dR (ys:=ps.map (·.2)) trivial (by rw[lw,GV]) (λ i x y hx hy K' q=>?_) (dj rfl k);rw[HC,Hb]at hx;rw[Hb]at hy;cases hp:ps[i]? with
   |none=>rw[hp]at hx;cases hx
   |some p=>
    rw[hp]at hx hy;cases hx;cases hy;exact⟨_,rfl,f,rfl,hf,hr p (Hk hp) ln st K' q⟩
structure kl(r:List Int)(L:List Nat):Prop where
 w:Tx.words 32 L=r.map Tx.sg
 l1:1<=r.length
 l8:r.length<=8
 b:∀x∈r,x.natAbs<10^12
structure hU(A:List (List Int))(w:Nat)(L:List Nat):Prop where
 len:(Tx.bb 59 L).length=A.length
 row:∀(i:Nat) p r,(Tx.bb 59 L)[i]?=some p->A[i]?=some r->kl r p/\r.length=w
def kn:bC:=λ ds st K=>∃(L:List Nat) (most:Nat) (ln:D) (A:List (List Int)) (w:Nat),ds=[tx L,.int (most:Int),ln]/\L.length<=10000/\hU A w L/\A.length<=most/\K (dQ A) st
def oR:List Str:=["text","most","line","rows"]
def xQ:DS:=(aw (aP 3 (aU cH (aa (bz (cu (dr f_ (ab 0) (dC (.str ";")))) [none,some 2] (cm 0) bp (ax eH (aa (ab 0) (aa (dC (.fx dB)) (aa (ab 1) ag))))) ag)))
 (aw (bG (gT (aG (aj lR (aU bP (aa (ab 3) ag)) (ab 1))) (aG (aU sj (aa (bz (cu (ab 3)) [none,some 3] (cm 0) bp (aj fv (aU bP (aa (ab 0) ag)) (aU bP (aa (aj cp (ab 1) (dC (.int 0))) ag)))) ag)))) fZ bo)
 (aX (ab 3))))
theorem vU{n:Int}(h:n.natAbs<10^12):zq dB (Tx.sg n) (.int n):=λ ln st K k=>by
 unfold vY;rw[Hi (show¬dB=bR by decide)];exact⟨n,ln,rfl,h,k⟩
theorem mq{r:List Int}{L:List Nat}{ln:D}{st:af}{K:DK}(h:kl r L)(hl:L.length<=10000)(k:K (df r) st):eH [tx L,.fx dB,ln] st K:=by
 refine⟨L,_,ln,r.map λ n=>(Tx.sg n,D.int n),rfl,hl,by rw[h.w,HC];rfl,by rw[GV];exact h.l1,by rw[GV];exact h.l8,.inl rfl,λ p hp=>?_,by rw[HC];exact k⟩;obtain⟨n,hn,rfl⟩:=Hv.mp hp;exact vU (h.b n hn)
theorem any_false:∀xs:List D,cS (xs.map λ _=>D.bl false)=some (xs.map λ _=>false)
 | []=>rfl
 |x::xs=>by simp[cS,any_false xs]
theorem we{α:Type}:∀xs:List α,(xs.map λ _=>false).any id=false
 | []=>rfl
 |x::xs=>by simp[we xs]
theorem vt:GU kn 3 xQ oR:=by
 rintro ds st K ⟨L,most,ln,A,w,rfl,hl,hA,hm,k⟩;refine⟨rfl,?_⟩;have hn:=iW 59 L;have hlen:=hA.len;refine ik (s:=⟨L.toArray⟩) (i:=0) rfl rfl ?_;rw[BN];refine ju (by decide) hl (d5 ⟨by rw[GV];exact a7 (by omega),?_⟩);refine dR (ys:=A.map df) trivial (by rw[GV,GV,hlen]) (λ i x y hx hy K' q=>?_) ?_
 . rw[Hb]at hx hy;cases hp:(Tx.bb 59 L)[i]? with
   |none=>rw[hp]at hx;cases hx
   |some p=>
    cases hr:A[i]? with
    |none=>rw[hr]at hy;cases hy
    |some r=>
     rw[hp]at hx;rw[hr]at hy;cases hx;cases hy;have:=gZ 59 L p (Hk hp);exact⟨_,rfl,mq (hA.row i p r hp hr).1 (by omega) q⟩
 . refine dj rfl ?_;have hsz:A.length<=sizeLine:=a7 (by omega);refine cj rfl (Gr (λ z=>by rw[GV]at z;omega) λ _=>aS ?_);refine n_ ⟨by rw[GV];exact hsz,?_⟩
   have wid:∀r∈A,r.length=w:=λ r hr=>by
    obtain⟨i,hi⟩:=Hx.mp hr;have li:=(GW.mp hi).1;exact(hA.row i _ r (G0 (by omega)) hi).2
   refine comp_map (g:=λ _=> .bl false) trivial _ (λ d hd K' q=>?_) ?_
   . obtain⟨r,hr,rfl⟩:=Hv.mp hd;cases hA0:A with
     |nil=>rw[hA0]at hr;cases hr
     |cons r0 A'=>
      refine⟨_,rfl,?_⟩;refine cj (xs:=k9 r) rfl ?_;refine ba (e:=df r0) rfl (fD ..) (cj (xs:=k9 r0) rfl (wu ?_ q));rw[GV,GV,wid r hr,wid r0 (by rw[hA0];exact Hm)]
   . refine DV (any_false _) ?_;rw[we];exact aS k
def Cp(a b:Int)(L:List Nat):Prop:=∃l,Tx.words 32 L=[l]/\qO a b l/\0<=a
def iy:bC:=λ ds st K=>∃(a b:Int) (L:List Nat) (ln:D),ds=[tx L,ln]/\L.length<=10000/\Cp a b L/\K (.tup [.int a,.int b]) st
def lP:List Str:=["text","line","numbers"]
def sL:DS:=(aw (aP 2 (ax eH (aa (ab 0) (aa (dC (.fx bR)) (aa (ab 1) ag)))))
 (aw (bG (gT (aG (aj fv (aU bP (aa (ab 2) ag)) (dC (.int 1)))) (aG (aj i6 (aj cp (aj cp (ab 2) (dC (.int 0))) (dC (.int 0))) (dC (.int 0))))) fZ bo)
 (aX (aj cp (ab 2) (dC (.int 0))))))
theorem lF{a b:Int}{l:List Nat}(h:qO a b l):zq bR l (.tup [.int a,.int b]):=λ ln st K k=>by
 unfold vY;rw[Hu rfl];exact⟨a,b,l,ln,rfl,h,k⟩
structure y3(ps:List (List Nat×Int×Int))(L:List Nat):Prop where
 w:Tx.words 32 L=ps.map (·.1)
 l1:1<=ps.length
 l8:ps.length<=8
 f:∀p∈ps,qO p.2.1 p.2.2 p.1
theorem A_{ps:List (List Nat×Int×Int)}{L:List Nat}{ln:D}{st:af}{K:DK}(h:y3 ps L)(hl:L.length<=10000)(k:K (.tup (ps.map λ p=>D.tup [.int p.2.1,.int p.2.2])) st):eH [tx L,.fx bR,ln] st K:=by
 refine⟨L,_,ln,ps.map λ p=>(p.1,D.tup [.int p.2.1,.int p.2.2]),rfl,hl,by rw[h.w,HC];rfl,by rw[GV];exact h.l1,by rw[GV];exact h.l8,.inr rfl,λ q hq=>?_,by rw[HC];exact k⟩;obtain⟨p,hp,rfl⟩:=Hv.mp hq;exact lF (h.f p hp)
theorem EG{ps:List (List Nat×Int×Int)}{L:List Nat}(h:y3 ps L):∃qs:List (List Nat×D),Tx.words 32 L=qs.map (·.1)/\1<=qs.length/\qs.length<=8/\(∀q∈qs,zq bR q.1 q.2)/\qs.map (·.2)=ps.map λ p=>D.tup [.int p.2.1,.int p.2.2]:=by
 refine⟨ps.map λ p=>(p.1,D.tup [.int p.2.1,.int p.2.2]),by rw[h.w,HC];rfl,by rw[GV];exact h.l1,by rw[GV];exact h.l8,λ q hq=>?_,by rw[HC];rfl⟩;obtain⟨p,hp,rfl⟩:=Hv.mp hq;exact lF (h.f p hp)
theorem rE:GU iy 2 sL lP:=by
 rintro ds st K ⟨a,b,L,ln,rfl,hl,⟨l,hw,hf,ha⟩,k⟩;obtain⟨qs,h1,h2,h3,h4,h5⟩:=EG (ps:=[(l,a,b)]) (L:=L) ⟨hw,G8 1,show 1<=8 by decide,λ p hp=>by rw[IP.mp hp];exact hf⟩;refine⟨rfl,L,bR,ln,qs,rfl,hl,h1,h2,h3,.inr rfl,h4,?_⟩;rw[h5];refine cj (xs:=[D.tup [.int a,.int b]]) rfl (wu rfl ?_);refine ba (e:=D.tup [.int a,.int b]) rfl (fD ..) (ba (e:= .int a) rfl (fD ..) (zE (λ z=>by omega) λ _=>aS ?_));exact ba (e:=D.tup [.int a,.int b]) rfl (fD ..) k
inductive gj:Str->List Nat->D->Prop
 |rows {L:List Nat} {A:List (List Int)} {w:Nat} (h:hU A w L) (l:A.length<=8):gj "rows" L (dQ A)
 |jZ {L:List Nat} {A:List (List Int)} {w:Nat} (h:hU A w L) (l:A.length<=5):gj "few rows" L (dQ A)
 |square {L:List Nat} {a b:Int} (h:Cp a b L):gj "square" L (.tup [.int a,.int b])
 |point {L:List Nat} {ps:List (List Nat×Int×Int)} (h:y3 ps L):gj "point" L (.tup (ps.map λ p=>D.tup [.int p.2.1,.int p.2.2]))
 |row {L:List Nat} {r:List Int} (h:kl r L):gj "row" L (df r)
 |kL {L:List Nat} {r:List Int} (h:kl r L):gj "due" L (df r)
def jz:bC:=λ ds st K=>∃(s:Str) (L:List Nat) (ln d:D),ds=[.str s,tx L,ln]/\L.length<=10000/\gj s L d/\K d st
def mP:List Str:=["sort","text","line"]
def uT:DS:=(aw (bG (aG (aj (mr lZ) (ab 0) (dC (.fx 68)))) (aX (ax kn (aa (ab 1) (aa (aj (mI lZ) (dC (.fx 68)) (ab 0)) (aa (ab 2) ag))))) bo)
 (aw (bG (aG (aj ck (ab 0) (dC (.str "square")))) (aX (ax iy (aa (ab 1) (aa (ab 2) ag)))) bo)
 (aX (ax eH (aa (ab 1) (aa (zk (aG (aj ck (ab 0) (dC (.str "point")))) (dC (.fx bR)) (dC (.fx dB))) (aa (ab 2) ag)))))))
theorem sD{kv:kJ}{a:Addr}{kvs:List (Str×Value)}{z:Str}{st:af}{K:DK}(h:kv a=some kvs)(k:K (.bl (valueAt kvs z).isSome) st):mr kv (.str z) (.fx a) st K:=by
 unfold mr vg;simp only[h];exact k
theorem wa{kv:kJ}{a:Addr}{kvs:List (Str×Value)}{z:Str}{st:af}{K:DK}(h:kv a=some kvs)(k:K (.bl (!(valueAt kvs z).isSome)) st):i9 kv (.str z) (.fx a) st K:=by
 unfold i9 k_;simp only[h];exact k
theorem nK{kv:kJ}{a:Addr}{kvs:List (Str×Value)}{z:Str}{d:D}{st:af}{K:DK}(h:kv a=some kvs)(hd:(valueAt kvs z).bind zL=some d)(k:K d st):mI kv (.fx a) (.str z) st K:=by
 unfold mI vc;simp only[h,hd];exact k
abbrev bD:List (Str×Value):=[("rows",(.int (8) 270)),("few rows",(.int (5) 272))]
theorem aJ{a b:Str}(h:¬a=b):bN (.str a) (.str b)=false:=by
 unfold bN;exact Je.mpr h
theorem cF{a:Str}:bN (.str a) (.str a)=true:=by unfold bN;exact Jx a
theorem sI:GU jz 3 uT mP:=by
 rintro ds st K ⟨s,L,ln,d,rfl,hl,hv,k⟩;refine⟨rfl,sD (kvs:=bD) rfl ?_⟩;cases hv with
 |rows h l=>
  rw[show(valueAt bD ("rows":Str)).isSome=true by decide+kernel];refine bA (nK (kvs:=bD) (d:= .int 8) rfl (by rfl) ⟨L,8,ln,_,_,rfl,hl,h,l,k⟩)
 |jZ h l=>
  rw[show(valueAt bD ("few rows":Str)).isSome=true by decide+kernel];refine bA (nK (kvs:=bD) (d:= .int 5) rfl (by rfl) ⟨L,5,ln,_,_,rfl,hl,h,l,k⟩)
 |square h=>
  rw[show(valueAt bD ("square":Str)).isSome=false by decide+kernel];refine aS (aT rfl rfl ?_);rw[cF];exact bA ⟨_,_,L,ln,rfl,hl,h,k⟩
 |point h=>
  rw[show(valueAt bD ("point":Str)).isSome=false by decide+kernel];refine aS (aT rfl rfl ?_);rw[aJ (by decide)];refine aS (aT rfl rfl ?_);rw[cF];exact bA (A_ h hl k)
 |row h=>
  rw[show(valueAt bD ("row":Str)).isSome=false by decide+kernel];refine aS (aT rfl rfl ?_);rw[aJ (by decide)];refine aS (aT rfl rfl ?_);rw[aJ (by decide)];exact aS (mq h hl k)
 |kL h=>
  rw[show(valueAt bD ("due":Str)).isSome=false by decide+kernel];refine aS (aT rfl rfl ?_);rw[aJ (by decide)];refine aS (aT rfl rfl ?_);rw[aJ (by decide)];exact aS (mq h hl k)
inductive jG(m w:Nat):Str->D->Prop
 |rows {A:List (List Int)} {r:List Int} (h:A[0]?=some r) (l:r.length=w):jG m w "rows" (dQ A)
 |jZ {A:List (List Int)} {r:List Int} (h:A[0]?=some r) (l:r.length=w):jG m w "few rows" (dQ A)
 |square {d:D}:jG m w "square" d
 |point {xs:List D} (l:xs.length=w):jG m w "point" (.tup xs)
 |row {r:List Int} (l:r.length=w):jG m w "row" (df r)
 |kL {r:List Int} (l:r.length=m):jG m w "due" (df r)
def rh:bC:=λ ds st K=>∃(s:Str) (v:D) (A:List (List Int)) (r:List Int),ds=[.str s,v,dQ A]/\A[0]?=some r/\jG A.length r.length s v/\K (.bl true) st
def wQ:List Str:=["sort","value","rows"]
def Cj:DS:=(aw (bG (aG (aj (mr lZ) (ab 0) (dC (.fx 68)))) (aX (aj ck (aU bP (aa (aj cp (ab 1) (dC (.int 0))) ag)) (aU bP (aa (aj cp (ab 2) (dC (.int 0))) ag)))) bo)
 (aw (bG (aG (aj ck (ab 0) (dC (.str "due")))) (aX (aj ck (aU bP (aa (ab 1) ag)) (aU bP (aa (ab 2) ag)))) bo)
 (aX (rL (aj ck (ab 0) (dC (.str "square"))) (aj ck (aU bP (aa (ab 1) ag)) (aU bP (aa (aj cp (ab 2) (dC (.int 0))) ag)))))))
theorem yw{A:List (List Int)}{r:List Int}(h:A[0]?=some r):cR (A.map df) 0=some (df r):=by
 cases A with
 |nil=>cases h
 |cons a A=>cases h;exact fD ..
theorem eU{r:List Int}{st:af}{K:DK}(k:K (.int r.length) st):bP [df r] st K:=cj (xs:=k9 r) rfl (by rw[GV];exact k)
theorem An:GU rh 3 Cj wQ:=by
 rintro ds st K ⟨s,v,A,r,rfl,h0,hf,k⟩;refine⟨rfl,sD (kvs:=bD) rfl ?_⟩;have rs:=yw h0;cases hf with
 |rows h l=>
  rw[show(valueAt bD ("rows":Str)).isSome=true by decide+kernel];exact bA (ba rfl (yw h) (eU (ba rfl rs (eU (eqT (by rw[l]) k)))))
 |jZ h l=>
  rw[show(valueAt bD ("few rows":Str)).isSome=true by decide+kernel];exact bA (ba rfl (yw h) (eU (ba rfl rs (eU (eqT (by rw[l]) k)))))
 |square=>
  rw[show(valueAt bD ("square":Str)).isSome=false by decide+kernel];refine aS (aT rfl rfl ?_);rw[aJ (by decide)];refine aS (aT rfl rfl ?_);rw[cF];exact bA k
 | @point xs l=>
   rw[show(valueAt bD ("point":Str)).isSome=false by decide+kernel];refine aS (aT rfl rfl ?_);rw[aJ (by decide)];refine aS (aT rfl rfl ?_);rw[aJ (by decide)];exact aS (cj (xs:=xs) rfl (ba rfl rs (eU (eqT (by rw[l]) k))))
 |row l=>
  rw[show(valueAt bD ("row":Str)).isSome=false by decide+kernel];refine aS (aT rfl rfl ?_);rw[aJ (by decide)];refine aS (aT rfl rfl ?_);rw[aJ (by decide)];exact aS (eU (ba rfl rs (eU (eqT (by rw[l]) k))))
 |kL l=>
  rw[show(valueAt bD ("due":Str)).isSome=false by decide+kernel];refine aS (aT rfl rfl ?_);rw[cF];exact bA (eU (cj (xs:=A.map df) rfl (eqT (by rw[l,GV]) k)))
def dc(ts:List Str)(vs:List D):List D:=((ts.zip vs).filter λ p=>(valueAt bD p.1).isSome).map (·.2)
def gU:bC:=λ ds st K=>∃(c:Addr) (ts:List Str) (vs:List D) (v:D) (r:List D),ds=[.fx c,.lst vs]/\ig c=some ts/\ts.length<=10/\dc ts vs=v::r/\K v st
def j7:List Str:=["sorts","values"]
def qy:DS:=(aX (aj cp (bz (qo ig (aa (ab 0) (aa (ab 1) ag))) [none,none] (bX 0 1) (aG (aj (mr lZ) (ab 0) (dC (.fx 68)))) (ab 1)) (dC (.int 0))))
theorem rK:∀(ts:List Str) (vs:List D),fH (ts.map D.str) vs=(ts.zip vs).map λ p=> .tup [.str p.1,p.2]
 | [],vs=>by unfold fH;simp
 |t::ts,[]=>by unfold fH;simp
 |t::ts,v::vs=>by
  have:=rK ts vs;unfold fH at this⊢;rw[Hy,Jj,Hy,this,Jj,Hy]
def wD:D->Bool
 | .tup [.str s,_]=>(valueAt bD s).isSome
 |_=>false
def yA:D->D
 | .tup [_,v]=>v
 |_=> .aH
theorem qw:∀zs:List (Str×D),(((zs.map λ p=>D.tup [.str p.1,p.2]).filter wD).map yA)=(zs.filter λ p=>(valueAt bD p.1).isSome).map (·.2)
 | []=>rfl
 |z::zs=>by
  have:=qw zs;rw[Hy,Ic,Ic];show(if(valueAt bD z.1).isSome=true then _ else _:List D).map yA=_;split
  . rw[Hy,Hy,this];rfl
  . exact this
theorem pL:GU gU 2 qy j7:=by
 rintro ds st K ⟨c,ts,vs,v,r,rfl,hc,h10,ha,k⟩;refine⟨rfl,ox (xs:=ts.map D.str) (ys:=vs) (by show(ig c).map _=_;rw[hc];rfl) rfl λ ok aF=>?_⟩;rw[rK];refine⟨by rw[GV,List.length_zip];exact a7 (by omega),?_⟩;refine lQ (p:=wD) (g:=yA) (aF st (by show(ig c).map _=_;rw[hc];rfl) rfl) (λ x hx=>?_) ?_
 . obtain⟨p,_,rfl⟩:=Hv.mp hx;exact⟨_,rfl,λ K' q=>sD (kvs:=bD) rfl q,λ _ K' q=>q⟩
 . rw[qw];show cp (.lst (dc ts vs)) (.int 0) st K;rw[ha];exact ba (xs:=v::r) rfl (fD ..) k
abbrev i3:List (Str×Value):=[("standing",(.ref 70)),("inside",(.ref 71)),("dividing",(.ref 72)),("rests",(.ref 73)),("short",(.ref 74)),("nearest",(.ref 75)),("shortest",(.ref 76)),("near",(.ref 77)),("answers",(.ref 78)),("small",(.ref 79)),("together",(.ref 80)),("shared",(.ref 81)),("plan",(.ref 82)),("under",(.ref 83))]
abbrev eB(L:List Nat):List Nat:=Tx.gk (λ d=>decide (d=32)) L
def iG(L:List Nat)(o:D):Prop:=∃(W R:List Nat) (c:Addr) (ts:List Str) (vs:List D) (A:List (List Int)) (r:List Int) (g:List D),o= .tup (tx W::vs)/\eB L=W++32::R/\32∉W/\(valueAt i3 ⟨W.toArray⟩).bind zL=some (.fx c)/\ig c=some ts/\ts.length<=10/\(Tx.bb 58 R).length=ts.length/\vs.length=ts.length/\(∀(i:Nat) s p v,ts[i]?=some s->(Tx.bb 58 R)[i]?=some p->vs[i]?=some v->gj s p v/\jG A.length r.length s v)/\dc ts vs=dQ A::g/\A[0]?=some r
def jR:bC:=λ ds st K=>∃(L:List Nat) (ln o:D),ds=[tx L,ln]/\L.length<=10000/\iG L o/\K o st
def nH:List Str:=["text","line","halves","word","texts","sorts","values","rows"]
def uE:DS:=(aw (aP 2 (dr kY (dr gd (ab 0) (dC (.str " "))) (dC (.str " "))))
 (aw (aP 3 (aj cp (ab 2) (dC (.int 0))))
 (aw (aP 4 (dr f_ (aj cp (ab 2) (dC (.int 2))) (dC (.str ":"))))
 (aw (bG (gT (aG (aj (i9 lZ) (ab 3) (dC (.fx 69)))) (aG (aj fv (aU bP (aa (ab 4) ag)) (aU (nO ig) (aa (aj (mI lZ) (dC (.fx 69)) (ab 3)) ag))))) fZ bo)
 (aw (aP 5 (aj (mI lZ) (dC (.fx 69)) (ab 3)))
 (aw (aP 6 (bz (qo ig (aa (ab 5) (aa (ab 4) ag))) [none,none,some 1] (bX 0 1) bp (ax jz (aa (ab 0) (aa (ab 1) (aa (ab 2) ag))))))
 (aw (aP 7 (ax gU (aa (ab 5) (aa (ab 6) ag))))
 (aw (bG (eE (aG (aU jK (aa (bz (qo ig (aa (ab 5) (aa (ab 6) ag))) [none,none,some 7] (bX 0 1) bp (ax rh (aa (ab 0) (aa (ab 1) (aa (ab 2) ag))))) ag)))) fZ bo)
 (aX (aj bh (bj (aa (ab 3) ag)) (aU cH (aa (ab 6) ag))))))))))))
theorem me(L:List Nat):Txt.stripChars ⟨L.toArray⟩ (Tx.one 32)=⟨(eB L).toArray⟩:=by
 refine jX ?_;have e:(Tx.one 32).cps.contains=λ d=>decide (d=32):=funext λ d=>Tx.x8 32 d;unfold Txt.stripChars;rw[e,PyProof.Rows.stripBy_eq];exact(Tx.sG _ _).trans (by rw[dy])
theorem rn(L:List Nat):(eB L).length<=L.length:=by
 obtain⟨a,b,e⟩:=Tx.jQ 32 L;have:=H0 List.length e;rw[GX,GX]at this;show(Tx.gk (λ d=>decide (d=32)) L).length<=L.length;omega
theorem Aw{ft:jW}{c:Addr}{ts:List Str}{st:af}{K:DK}(h:ft c=some ts)(k:K (.int ts.length) st):nO ft [.fx c] st K:=by
 unfold nO qh;simp only[h];exact k
theorem td:GU jR 2 uE nH:=by
 rintro ds st K ⟨L,ln,o,rfl,hl,⟨W,R,c,ts,vs,A,r,g,rfl,eL,hW,hc,hf,ht,lp,lv,hv,ha,h0⟩,k⟩;refine⟨rfl,?_⟩;have lb:=rn L;rw[eL,GX,Hl]at lb;refine kF (ik (s:=⟨L.toArray⟩) (i:=0) rfl rfl ?_);unfold gd;refine⟨by rw[bI];exact a7 (by omega),?_⟩;rw[k8,me,eL];unfold kY;refine⟨⟨rfl,by rw[bI,GX,Hl];exact a7 (by omega)⟩,?_⟩;rw[qZ hW];refine ba rfl rfl ?_;refine kF (ba (e:= .str ⟨R.toArray⟩) rfl rfl ?_);rw[AU];dsimp only;unfold dC;refine ju (L:=R) (c:=58) (by decide) (by omega) ?_;obtain⟨va,e1,e2⟩:=Jo.mp hc;refine wa (kvs:=i3) rfl ?_;rw[e1];refine aS ?_;have lpm:((Tx.bb 58 R).map tx).length=ts.length:=by rw[GV,lp]
 refine cj (xs:=(Tx.bb 58 R).map tx) rfl (nK (kvs:=i3) (d:= .fx c) rfl hc ?_);refine Aw hf (wu (by rw[lpm]) (aS ?_));refine nK (kvs:=i3) (d:= .fx c) rfl hc ?_;have ef:∀st',itemF ig st' (.fx c)=some (ts.map D.str):=λ st'=>by show(ig c).map _=_;rw[hf];rfl
 refine ox (xs:=ts.map D.str) (ys:=(Tx.bb 58 R).map tx) (ef st) rfl λ ok aF=>?_;refine⟨by rw[fL];exact a7 (by rw[GV];omega),?_⟩;refine dR (ys:=vs) (aF st (ef st) rfl) (by rw[fL,lpm,GV,lv];omega) (λ i x y hx hy K' q=>?_) ?_
 . obtain⟨s',p',h1,h2,rfl⟩:=jq hx;rw[Hb]at h1 h2;obtain⟨s,hs,rfl⟩:=HN.mp h1;obtain⟨p,hp,rfl⟩:=HN.mp h2;have:=gZ 58 R p (Hk hp);exact⟨_,rfl,s,p,ln,y,rfl,by omega,(hv i s p y hs hp hy).1,q⟩
 . refine⟨c,ts,vs,dQ A,g,rfl,hf,ht,ha,?_⟩;refine ox (xs:=ts.map D.str) (ys:=vs) (ef st) rfl λ ok aF=>?_;refine⟨by rw[fL];exact a7 (by rw[GV];omega),?_⟩;refine comp_map (g:=λ _=> .bl true) (aF st (ef st) rfl) _ (λ d hd K' q=>?_) ?_
   . obtain⟨i,hi⟩:=Hx.mp hd;obtain⟨s',y,h1,h2,rfl⟩:=jq hi;rw[Hb]at h1;obtain⟨s,hs,rfl⟩:=HN.mp h1;have li:=(GW.mp hs).1;exact⟨_,rfl,s,y,A,r,rfl,h0,(hv i s _ y hs (G0 (by omega)) h2).2,q⟩
   . refine nM (k5 _) ?_;rw[p_];refine aS ⟨a7 (show 1<=100000 by decide),?_⟩;refine dj (d:= .lst vs) (xs:=vs) rfl ?_;exact tP (xs:=[tx W]) (ys:=vs) (by rw[Hl,List.length_nil];exact a7 (by omega)) k
inductive cU:List (List Nat)->List D->Prop
 |nil:cU [] []
 |skip {p:List Nat} {ps:List (List Nat)} {os:List D} (h:eB p=[]) (r:cU ps os):cU (p::ps) os
 |keep {p:List Nat} {ps:List (List Nat)} {o:D} {os:List D} (h:iG p o) (r:cU ps os):cU (p::ps) (o::os)
def eA:bC:=λ ds st K=>∃(L:List Nat) (os:List D),ds=[tx L]/\L.length<=10000/\cU (Tx.bb 10 L) os/\K (.tup os) st
def lU:List Str:=["text","rows"]
def tD:DS:=(aw (aP 1 (dr f_ (ab 0) (dC (.str "\n"))))
 (aX (aU cH (aa (bz (uU (aa (ab 1) ag)) [none,none] (bX 0 1) (aG (aj fv (dr gd (ab 1) (dC (.str " "))) (dC (.str "")))) (ax jR (aa (ab 1) (aa (ab 0) ag)))) ag))))
theorem DJ{p:List Nat}{o:D}(h:iG p o):eB p≠ []:=by
 obtain⟨W,R,_,_,_,_,_,_,_,e,_⟩:=h;rw[e];cases W<;>simp
theorem iL{ok:af->Prop}{σc:bc}{st:af}{K:List D->af->Prop}{tg:cQ}{c:DT}{te:DE}(aF:ok st)(h:∀(i:Nat) (p:List Nat),p.length<=10000->∃σ2,tg (.tup [.int (i:Int),tx p]) σc=some σ2/\(∀K',K' (!decide (eB p=[])) st->c σ2 st K')/\(∀o,iG p o->∀K',K' o st->te σ2 st K')):
 ∀ {ps:List (List Nat)} {os:List D},cU ps os->∀(i:Nat) (acc:List D),(∀p∈ps,p.length<=10000)->K (acc++os) st->bT tg c te ok σc (eW i (ps.map tx)) acc st K
 |_,_,.nil,i,acc,_,k=>by
  rw[HL]at k;exact⟨aF,k⟩
 |_,_,@cU.skip p ps os hp r,i,acc,hl,k=>by
  obtain⟨σ2,e1,h1,_⟩:=h i p (hl p Hm);refine⟨aF,σ2,e1,h1 _ ?_⟩;rw[Hr hp];exact aS (iL aF h r (i+1) acc (λ q hq=>hl q (G7 _ hq)) k)
 |_,_,@cU.keep p ps o os hp r,i,acc,hl,k=>by
  obtain⟨σ2,e1,h1,h2⟩:=h i p (hl p Hm);refine⟨aF,σ2,e1,h1 _ ?_⟩;rw[Hc (DJ hp)];refine bA (h2 o hp _ (iL aF h r (i+1) (acc++[o]) (λ q hq=>hl q (G7 _ hq)) ?_));rw[Hn];exact k
theorem qM:GU eA 1 tD lU:=by
 rintro ds st K ⟨L,os,rfl,hl,hr,k⟩;refine⟨rfl,?_⟩;have hn:=iW 10 L;refine ik (s:=⟨L.toArray⟩) (i:=0) rfl rfl ?_;rw[wo];refine ju (by decide) hl ?_;refine AA (xs:=(Tx.bb 10 L).map tx) rfl λ ok aF=>?_;refine⟨by rw[kb,GV];exact a7 (by omega),?_⟩;refine iL (aF st rfl) (λ i p hp=>?_) hr 0 [] (λ p hp=>by have:=gZ 10 L p hp;omega) ?_
 . refine⟨_,rfl,λ K' q=>?_,λ o ho K' q=>⟨p,_,o,rfl,hp,ho,q⟩⟩;refine ik (s:=⟨p.toArray⟩) (i:=1) rfl rfl ?_;unfold gd;refine⟨by rw[bI];exact a7 (by omega),?_⟩;rw[k8,me,ng];exact uu q
 . exact dj (xs:=os) rfl k
structure Bx(st:af)(n:Nat)(b:Int):Prop where
 ex:∃x y z,st[n]?=some (.lst [.int x,.int y,.int z])/\0<=x/\0<=y/\0<=z/\z<=b
structure Upd(st:af)(n:Nat)(st':af):Prop where
 len:st'.length=st.length
 same:∀m,m≠n->st'[m]?=st[m]?
theorem Upd.refl{st:af}{n:Nat}:Upd st n st:=⟨rfl,λ _ _=>rfl⟩
theorem Upd.trans{st st1 st2:af}{n:Nat}(a:Upd st n st1)(b:Upd st1 n st2):Upd st n st2:=⟨b.len.trans a.len,λ m h=>(b.same m h).trans (a.same m h)⟩
theorem Upd.set{st:af}{n:Nat}{c:Cell}:Upd st n (st.set n c):=⟨HZ,λ m h=>HB (HP h)⟩
theorem Bx.mono{st:af}{n:Nat}{b b':Int}(h:Bx st n b)(l:b<=b'):Bx st n b':=let⟨x,y,z,e,h1,h2,h3,h4⟩:=h.ex;⟨x,y,z,e,h1,h2,h3,by omega⟩
def kr:bC:=λ ds st K=>∃(ns:List Int) (k:Int),ds=[.lst (ns.map .int),.int k]/\0<=k/\k<=1000/\ns.length<=63/\∀st',Bx st' st.length 7000->st'.length=st.length+1->(∀m,m<st.length->st'[m]?=st[m]?)->K (.ref st.length) st'
def pz:List Str:=["_law_script","_law_k","_law_cell"]
def vO:DS:=(aw (aP 2 (dC (.int 0)))
 (aw (bG (aG (aj i6 (ab 1) (aU bP (aa (ab 0) ag)))) (aP 2 (aj cp (ab 0) (ab 1))) bo)
 (aX (ou (aa (aj cL (ab 2) (aU jr (aa (aj tW (ab 2) (aj ir (dC (.int 10)) (dC (.int 18)))) ag))) (aa (aU iz (aa (ab 2) ag)) (aa (aj cL (dC (.int 7)) (ab 1)) ag)))))))
theorem Aq{st:af}{x y z:Int}(hx:0<=x)(hy:0<=y)(hz:0<=z)(hb:z<=7000):Bx (st++[.lst [.int x,.int y,.int z]]) st.length 7000:=⟨x,y,z,by simp,hx,hy,hz,hb⟩
theorem Bi{ns:List Int}{k:Int}(h0:0<=k)(h:k<ns.length):∃c,cR (ns.map D.int) k=some (.int c):=by
 have hk:k.toNat<ns.length:=by omega
 refine⟨ns[k.toNat],?_⟩;have e:(ns.map D.int)[k.toNat]?=some (.int ns[k.toNat]):=by simp[hk]
 have:=la e;rw[Int.toNat_of_nonneg h0]at this;exact this
theorem u4:GU kr 2 vO pz:=by
 rintro ds st K ⟨ns,k,rfl,hk0,hk1,hl,q⟩;refine⟨rfl,?_⟩
 have fin:∀c:Int,aX (ou (aa (aj cL (ab 2) (aU jr (aa (aj tW (ab 2) (aj ir (dC (.int 10)) (dC (.int 18)))) ag))) (aa (aU iz (aa (ab 2) ag)) (aa (aj cL (dC (.int 7)) (ab 1)) ag))))
  {nx:=λ _ st'=>K .aH st',rt:=K} [some (.lst (ns.map .int)),some (.int k),some (.int c)] st:=by
  intro c;refine kf ⟨by decide,by decide,by decide⟩ (EO (iU (cW (Bp ?_ ?_) (kj (cW (cD (by decide) (by decide)) ⟨G_ rfl,?_⟩)))))
  . split<;>decide
  . split<;>decide
  . refine q _ (Aq ?_ ?_ ?_ ?_) (by simp) λ m hm=>HF hm
    . by_cases hc:(10:Int)^(18:Int).toNat<=c
      . have:(0:Int)<=c:=Int.le_trans (by decide) hc;rw[Hr hc,Hu rfl];omega
      . rw[Hc hc,Hi Hj];omega
    . omega
    . omega
    . omega
 have len:∀K',K' (.int ns.length) st->bP [.lst (ns.map .int)] st K':=λ K' h=>cj rfl (by rw[GV];exact h);refine len _ (qm ?_);by_cases hlt:k<(ns.length:Int)
 . rw[Hr hlt];obtain⟨c,e⟩:=Bi hk0 hlt;refine bA (ba rfl e ?_);exact fin c
 . rw[Hc hlt];exact fin 0
def aL:bC:=λ ds st K=>∃(n:Nat) (m b:Int),ds=[.ref n,.int m]/\Bx st n b/\b<=1000000000/\0<m/\m<2^62/\∀r st',0<=r->r<m->Bx st' n (b+1)->Upd st n st'->K (.int r) st'
def nc:List Str:=["_law_box_here","_law_many","_law_digit","_law_m"]
def uG:DS:=(aw (bG (aG (aj lR (aj cp (ab 0) (dC (.int 0))) (dC (.int 0)))) (aw (aP 2 (aj gm (aj cp (ab 0) (dC (.int 0))) (ab 1)))
 (aw (kH (ab 0) (dC (.int 0)) (aj eG (aj cp (ab 0) (dC (.int 0))) (ab 1)))
 (aX (ab 2)))) bo)
 (aw (kH (ab 0) (dC (.int 2)) (aj bh (aj cp (ab 0) (dC (.int 2))) (dC (.int 1))))
 (aw (aP 3 (aj bh (aj gm (aj cp (ab 0) (dC (.int 1))) (dC (.int 2305843009213693951))) (dC (.int 3))))
 (aw (aP 3 (aj gm (aj cL (ab 3) (aj bh (dC (.int 48271)) (aj cL (aj cp (ab 0) (dC (.int 2))) (aj cp (ab 0) (dC (.int 2)))))) (dC (.int 2305843009213693921))))
 (aw (aP 3 (aj gm (aj cL (ab 3) (aj bh (aj bh (aj gm (ab 3) (dC (.int 1000003))) (aj cL (aj cp (ab 0) (dC (.int 2))) (dC (.int 69621)))) (dC (.int 11)))) (dC (.int 2305843009213693907))))
 (aX (aj gm (aj bh (aj eG (aj cL (ab 3) (ab 3)) (dC (.int 97))) (aj eG (ab 3) (dC (.int 31)))) (ab 1))))))))
theorem wt{m:Int}(h0:0<m)(h:m<2^62):m.natAbs.log2<9000:=by
 have:m.natAbs.log2<62:=(J1 (by omega)).mpr (by omega);omega
theorem sY:GU aL 2 uG nc:=by
 rintro ds st K ⟨n,m,b,rfl,⟨x,y,z,e,hx,hy,hz,hb⟩,hb2,hm0,hm1,k⟩;refine⟨rfl,?_⟩;have hn:n<st.length:=(GW.mp e).1;have it:items? st (.ref n)=some [.int x,.int y,.int z]:=eR e;refine ba it (by rfl) (pY ?_);by_cases h:0<x
 . rw[Hr h];refine bA (ba it (by rfl) (gb (by omega) (ba it (by rfl) (dA (by omega) (wt hm0 hm1) (wM e (by rfl) ?_)))));refine k _ _ (Iu _ hm0) (IQ _ hm0) ⟨_,_,_,HJ hn,?_,hy,hz,by omega⟩ Upd.set;rw[HW _ (by omega)];exact Int.ediv_nonneg hx (by omega)
 . rw[Hc h];refine ba it (by rfl) (cV (wM e (by rfl) ?_));have e2:(st.set n (.lst ([D.int x,D.int y,D.int z].set 2 (.int (z+1)))))[n]?=some (.lst [.int x,.int y,.int (z+1)]):=HJ hn;have it2:=eR e2;have z1: -(2^64)<z+1:=by omega
   have z2:z+1<2^64:=by omega
   refine ba it2 (by rfl) (gb (by decide) (cV ?_));have m1:=Iu y (show(0:Int)<2305843009213693951 by decide);have m2:=IQ y (show(0:Int)<2305843009213693951 by decide);refine ba it2 (by rfl) (ba it2 (by rfl) (cW (cD z1 z2) (cV (cW (cD (by omega) (by omega)) (gb (by decide) ?_)))));have u1:=Iu ((y.fmod 2305843009213693951+3)*(48271+(z+1)*(z+1))) (show(0:Int)<2305843009213693921 by decide);have u2:=IQ ((y.fmod 2305843009213693951+3)*(48271+(z+1)*(z+1))) (show(0:Int)<2305843009213693921 by decide);generalize((y.fmod 2305843009213693951+3)*(48271+(z+1)*(z+1))).fmod 2305843009213693921=u at u1 u2;refine gb (by decide) (ba it2 (by rfl) (cW (cD z1 z2) (cV (cV (cW (cD (by omega) (by omega)) (gb (by decide) ?_))))));have v1:=Iu (u*(u.fmod 1000003+(z+1)*69621+11)) (show(0:Int)<2305843009213693907 by decide);have v2:=IQ (u*(u.fmod 1000003+(z+1)*69621+11)) (show(0:Int)<2305843009213693907 by decide);generalize(u*(u.fmod 1000003+(z+1)*69621+11)).fmod 2305843009213693907=v at v1 v2;refine cW (cD (by omega) (by omega)) (dA (by decide) (by decide+kernel) (dA (by decide) (by decide+kernel) (cV (gb (by omega) ?_))));exact k _ _ (Iu _ hm0) (IQ _ hm0) ⟨_,_,_,e2,hx,hy,by omega,by omega⟩ Upd.set
def fQ:bC:=λ ds st K=>∃(n:Nat) (b:Int),ds=[.ref n]/\Bx st n b/\b<=900000000/\∀r st',-100<=r->r<=100->Bx st' n (b+4)->Upd st n st'->K (.int r) st'
def lI:List Str:=["_law_box_here"]
def sS:DS:=(aX (aj cp (fJ (aa (aj eZ (ax aL (aa (ab 0) (aa (dC (.int 7)) ag))) (dC (.int 3))) (aa (aj eZ (ax aL (aa (ab 0) (aa (dC (.int 19)) ag))) (dC (.int 9))) (aa (aj eZ (ax aL (aa (ab 0) (aa (dC (.int 201)) ag))) (dC (.int 100))) (aa (dC (.int 0)) ag))))) (ax aL (aa (ab 0) (aa (dC (.int 4)) ag)))))
theorem qC:GU fQ 1 sS lI:=by
 rintro ds st K ⟨n,b,rfl,B,hb,k⟩;refine⟨rfl,?_⟩;refine⟨n,7,b,rfl,B,by omega,by decide,by decide,λ r1 st1 a1 a2 B1 U1=>eh ?_⟩;refine⟨n,19,b+1,rfl,B1,by omega,by decide,by decide,λ r2 st2 c1 c2 B2 U2=>eh ?_⟩;refine⟨n,201,b+1+1,rfl,B2,by omega,by decide,by decide,λ r3 st3 d1 d2 B3 U3=>eh ⟨G_ rfl,?_⟩⟩;refine⟨n,4,b+1+1+1,rfl,B3,by omega,by decide,by decide,λ r4 st4 e1 e2 B4 U4=>?_⟩;have U:=((U1.trans U2).trans U3).trans U4;have B5:=B4.mono (b':=b+4) (by omega);have:r4=0\/r4=1\/r4=2\/r4=3:=by omega
 rcases this with rfl|rfl|rfl|rfl
 . exact ba rfl rfl (k _ _ (by omega) (by omega) B5 U)
 . exact ba rfl rfl (k _ _ (by omega) (by omega) B5 U)
 . exact ba rfl rfl (k _ _ (by omega) (by omega) B5 U)
 . exact ba rfl rfl (k _ _ (by omega) (by omega) B5 U)
def gX:bC:=λ ds st K=>∃(n:Nat) (b:Int),ds=[.ref n]/\Bx st n b/\b<=800000000/\∀r st',-1000000000000<r->r<1000000000000->Bx st' n (b+6)->Upd st n st'->K (.int r) st'
def j4:List Str:=["_law_box_here","_law_kind"]
def qu:DS:=(aw (aP 1 (ax aL (aa (ab 0) (aa (dC (.int 8)) ag))))
 (aw (bG (aG (aj ck (ab 1) (dC (.int 0)))) (aX (aj bh (aj eZ (ax aL (aa (ab 0) (aa (aj eZ (aj cL (dC (.int 2)) (aj ir (dC (.int 10)) (dC (.int 12)))) (dC (.int 1))) ag))) (aj ir (dC (.int 10)) (dC (.int 12)))) (dC (.int 1)))) bo)
 (aw (bG (aG (aj ck (ab 1) (dC (.int 1)))) (aX (aj cp (fJ (aa (dC (.int 1)) (aa (ue kz (dC (.int 1))) (aa (dC (.int 0)) (aa (aj eZ (aj ir (dC (.int 10)) (dC (.int 12))) (dC (.int 1))) (aa (aj eZ (dC (.int 1)) (aj ir (dC (.int 10)) (dC (.int 12)))) ag)))))) (ax aL (aa (ab 0) (aa (dC (.int 5)) ag))))) bo)
 (aX (ax fQ (aa (ab 0) ag))))))
theorem pH:GU gX 1 qu j4:=by
 rintro ds st K ⟨n,b,rfl,B,hb,k⟩;refine⟨rfl,?_⟩;refine⟨n,8,b,rfl,B,by omega,by decide,by decide,λ kd st1 a1 a2 B1 U1=>jY ?_⟩;by_cases h0:kd=0
 . rw[Hr h0];refine bA (kf ⟨by decide,by decide,by decide⟩ (cW (cD (by decide) (by decide)) (eh ?_)));refine⟨n,_,b+1,rfl,B1,by omega,by decide,by decide,λ r st2 c1 c2 B2 U2=>kf ⟨by decide,by decide,by decide⟩ (eh (cV ?_))⟩;have e:(10:Int)^(12:Int).toNat=1000000000000:=by decide
   rw[e]at c2⊢;exact k _ _ (by omega) (by omega) (B2.mono (by omega)) (U1.trans U2)
 . rw[Hc h0];refine jY ?_;by_cases h1:kd=1
   . rw[Hr h1];refine bA (rP (kf ⟨by decide,by decide,by decide⟩ (eh (kf ⟨by decide,by decide,by decide⟩ (eh ⟨G_ rfl,?_⟩)))));refine⟨n,5,b+1,rfl,B1,by omega,by decide,by decide,λ r st2 c1 c2 B2 U2=>?_⟩;have U:=U1.trans U2;have B5:=B2.mono (b':=b+6) (by omega);have:r=0\/r=1\/r=2\/r=3\/r=4:=by omega
     rcases this with rfl|rfl|rfl|rfl|rfl
     . exact ba rfl rfl (k _ _ (by decide) (by decide) B5 U)
     . exact ba rfl rfl (k _ _ (by decide) (by decide) B5 U)
     . exact ba rfl rfl (k _ _ (by decide) (by decide) B5 U)
     . exact ba rfl rfl (k _ _ (by decide) (by decide) B5 U)
     . exact ba rfl rfl (k _ _ (by decide) (by decide) B5 U)
   . rw[Hc h1];exact⟨n,b+1,rfl,B1,by omega,λ r st2 c1 c2 B2 U2=>k _ _ (by omega) (by omega) (B2.mono (by omega)) (U1.trans U2)⟩
def gH:bC:=λ ds st K=>∃(t b:Int),ds=[.int t,.int b]/\b≠0/\b.natAbs.log2<9000/\K (.tup [.int (gp t b),.int (iE t b)]) st
def km:List Str:=["_law_top","_law_bottom","_law_one","_law_other","_law_sign"]
def qQ:DS:=(aw (vh 2 3 (aa (aU iz (aa (ab 0) ag)) (aa (aU iz (aa (ab 1) ag)) ag)))
 (aw (m5 (aG (aj lR (ab 3) (dC (.int 0)))) (vh 2 3 (aa (ab 3) (aa (aj gm (ab 2) (ab 3)) ag))))
 (aw (aP 4 (aj eZ (dC (.int 1)) (aj cL (dC (.int 2)) (aU jr (aa (aj i6 (ab 1) (dC (.int 0))) ag)))))
 (aX (bj (aa (aj eG (aj cL (ab 4) (ab 0)) (ab 2)) (aa (aj eG (aj cL (ab 4) (ab 1)) (ab 2)) ag)))))))
theorem pK:GU gH 2 qQ km:=by
 rintro ds st K ⟨t,b,rfl,hb,hlog,k⟩;refine⟨rfl,?_⟩;refine kj (kj ?_);refine⟨λ m σ st'=>∃(g s:Nat),σ=[some (.int t),some (.int b),some (.int g),some (.int s),none]/\st'=st/\Nat.gcd g s=Nat.gcd t.natAbs b.natAbs/\s=m,⟨b.natAbs,t.natAbs,b.natAbs,rfl,rfl,rfl,rfl⟩,?_⟩;rintro m σ st' ⟨g,s,rfl,rfl,hg,rfl⟩;refine pY ?_;by_cases hs:(0:Int)<s
 . rw[Hr hs];refine bA (gb (by omega) ⟨g%s,Nat.mod_lt _ (by omega),s,g%s,?_,rfl,?_,rfl⟩)
   . simp[qP]
   . rw[Kt,<-Nat.gcd_rec,Kt];exact hg
 . rw[Hc hs];have hs0:s=0:=by omega
   subst hs0;rw[Nat.gcd_zero_right]at hg;subst hg
   have hg0:Nat.gcd t.natAbs b.natAbs≠0:=λ z=>by
    have:=Jy z;omega
   have hgl:Nat.gcd t.natAbs b.natAbs<=b.natAbs:=Nat.le_of_dvd (by omega) (Kg _ _);have hne:((Nat.gcd t.natAbs b.natAbs:Nat):Int)≠0:=by omega
   have hlg:((Nat.gcd t.natAbs b.natAbs:Nat):Int).natAbs.log2<9000:=by
    rw[IM];exact ph hgl hlog hg0
   refine qm (iU (cW (cD (by decide) (by decide)) (eh ?_)))
   have es:(1:Int)-2*(if decide (b<0)=true then 1 else 0)=(if b<0 then-1 else 1):=by
    by_cases h:b<0
    . simp[h]
    . simp[h]
   rw[es];have sm1: -(2^64)<(if b<0 then(-1:Int)else 1):=by split<;>decide
   have sm2:(if b<0 then(-1:Int)else 1)<2^64:=by split<;>decide
   refine cW (cD sm1 sm2) (dA hne hlg (cW (cD sm1 sm2) (dA hne hlg ⟨G_ rfl,?_⟩)));exact k
def tI:Nat->D->Bool
 |_,.int _=>true
 |_,.bl _=>true
 |n+1,.tup xs=>decide (xs.length<=1000)&&xs.all (tI n)
 |_,_=>false
def fE:Nat->bC
 |0=>λ _ _ _=>False
 |n+1=>λ ds st K=>∃x,ds=[x,x]/\tI n x=true/\K (.bl true) st
theorem uV:∀ds st K,¬fE 0 ds st K:=λ _ _ _ h=>h
def mD:List Str:=["_law_found","_law_due"]
def yb(SR:bC):DS:=(aw (bG (aG (aU ff (aa (ab 1) (aa (dC (.ty "tuple")) ag)))) (aw (bG (gT (eE (aG (aU ff (aa (ab 0) (aa (dC (.ty "tuple")) ag))))) (aG (aj fv (aU bP (aa (ab 0) ag)) (aU bP (aa (ab 1) ag))))) (aX (dC (.bl false))) bo)
 (aX (aU jK (aa (bz (yW (aa (ab 0) (aa (ab 1) ag))) [none,none] (bX 0 1) bp (ax SR (aa (ab 0) (aa (ab 1) ag)))) ag)))) bo)
 (aw (bG (aG (aU ff (aa (ab 1) (aa (dC (.ty "bool")) ag)))) (aX (jo (aU ff (aa (ab 0) (aa (dC (.ty "bool")) ag))) (aj ck (ab 0) (ab 1)))) bo)
 (aX (jo (aU ff (aa (ab 0) (aa (dC (.ty "int")) ag))) (jo (vC (aG (aU ff (aa (ab 0) (aa (dC (.ty "bool")) ag))))) (aj ck (ab 0) (ab 1)))))))
theorem all_true:∀xs:List D,cS (xs.map λ _=>D.bl true)=some (xs.map λ _=>true)
 | []=>rfl
 |x::xs=>by simp[cS,all_true xs]
theorem xG{α:Type}:∀xs:List α,(xs.map λ _=>true).all id=true
 | []=>rfl
 |x::xs=>by simp[xG xs]
theorem o9{xs:List D}{d:D}(h:d∈fH xs xs):∃x∈xs,d= .tup [x,x]:=by
 obtain⟨n,hn,e⟩:=I_.mp h;have e':(fH xs xs)[n]?=some d:=by rw[G0 hn,e]
 obtain⟨x,y,ex,ey,rfl⟩:=jq e';rw[ex]at ey;cases ey;exact⟨x,Hk ex,rfl⟩
theorem wX:∀n ds st K,fE (n+1) ds st K->ds.length=2/\yb (fE n) {nx:=λ _ st'=>K .aH st',rt:=K} (aY mD ds) st:=by
 rintro n ds st K ⟨x,rfl,hx,k⟩;refine⟨rfl,?_⟩;cases x with
 |int i=>
  refine cA rfl (by decide) (cA rfl (by decide) (cA rfl (by decide) (bA (cA rfl (by decide) (bA (eqT rfl k))))))
 |bl b=>
  refine cA rfl (by decide) (cA rfl (by decide) (bA (cA rfl (by decide) (bA (aT rfl rfl ?_)))));have:bN (.bl b) (.bl b)=true:=mF 40 _ rfl;rw[this];exact k
 |tup xs=>
  cases n with
  |zero=>cases hx
  |succ n=>
   unfold tI at hx;rw[Ho,Ig]at hx;refine cA rfl (by decide) (bA (cA rfl (by decide) (cj rfl (cj rfl (wu rfl ?_)))));refine wb rfl rfl λ ok aF=>⟨gJ (by rw[fL];omega),?_⟩
   refine comp_map (g:=λ _=> .bl true) (aF st rfl rfl) _ (λ d hd K' q=>?_) ?_
   . obtain⟨y,hy,rfl⟩:=o9 hd;exact⟨_,rfl,y,rfl,HH.mp hx.2 y hy,q⟩
   . refine nM (all_true _) ?_;rw[xG];exact k
 |_=>cases n<;>cases hx
abbrev iV:List (Str×List Str):=[("standing",["rows"]),("inside",["rows","row"]),("dividing",["rows"]),("rests",["rows"]),("short",["rows"]),("nearest",["rows","point"]),("shortest",["rows"]),("near",["rows","point","square"]),("answers",["rows","dues"]),("small",["rows","dues","row","row"]),("together",["rows","others"]),("shared",["rows","others"]),("plan",["row","rows","dues","row","row"]),("under",["row","rows","dues","row","row"])]
def qk(p:Str×List Str):D:= .tup [.str p.1,.tup (p.2.map D.str)]
def iN:bC:=λ ds st K=>ds=[]/\K (.lst (iV.map qk)) st
def lW:List Str:=["_law_some"]
def sF:DS:=(aw (aP 0 (fJ (aa (bj (aa (dC (.str "standing")) (aa (bj (aa (dC (.str "rows")) ag)) ag))) (aa (bj (aa (dC (.str "inside")) (aa (bj (aa (dC (.str "rows")) (aa (dC (.str "row")) ag))) ag))) (aa (bj (aa (dC (.str "dividing")) (aa (bj (aa (dC (.str "rows")) ag)) ag))) (aa (bj (aa (dC (.str "rests")) (aa (bj (aa (dC (.str "rows")) ag)) ag))) ag))))))
 (aw (aP 0 (aj bh (ab 0) (fJ (aa (bj (aa (dC (.str "short")) (aa (bj (aa (dC (.str "rows")) ag)) ag))) (aa (bj (aa (dC (.str "nearest")) (aa (bj (aa (dC (.str "rows")) (aa (dC (.str "point")) ag))) ag))) (aa (bj (aa (dC (.str "shortest")) (aa (bj (aa (dC (.str "rows")) ag)) ag))) ag))))))
 (aw (aP 0 (aj bh (ab 0) (fJ (aa (bj (aa (dC (.str "near")) (aa (bj (aa (dC (.str "rows")) (aa (dC (.str "point")) (aa (dC (.str "square")) ag)))) ag))) (aa (bj (aa (dC (.str "answers")) (aa (bj (aa (dC (.str "rows")) (aa (dC (.str "dues")) ag))) ag))) ag)))))
 (aw (aP 0 (aj bh (ab 0) (fJ (aa (bj (aa (dC (.str "small")) (aa (bj (aa (dC (.str "rows")) (aa (dC (.str "dues")) (aa (dC (.str "row")) (aa (dC (.str "row")) ag))))) ag))) (aa (bj (aa (dC (.str "together")) (aa (bj (aa (dC (.str "rows")) (aa (dC (.str "others")) ag))) ag))) ag)))))
 (aw (aP 0 (aj bh (ab 0) (fJ (aa (bj (aa (dC (.str "shared")) (aa (bj (aa (dC (.str "rows")) (aa (dC (.str "others")) ag))) ag))) (aa (bj (aa (dC (.str "plan")) (aa (bj (aa (dC (.str "row")) (aa (dC (.str "rows")) (aa (dC (.str "dues")) (aa (dC (.str "row")) (aa (dC (.str "row")) ag)))))) ag))) ag)))))
 (aX (aj bh (ab 0) (fJ (aa (bj (aa (dC (.str "under")) (aa (bj (aa (dC (.str "row")) (aa (dC (.str "rows")) (aa (dC (.str "dues")) (aa (dC (.str "row")) (aa (dC (.str "row")) ag)))))) ag))) ag)))))))))
theorem rH:GU iN 0 sF lW:=by
 rintro ds st K ⟨rfl,k⟩;refine⟨rfl,?_⟩;repeat(first|exact k|refine⟨G_ rfl,?_⟩|refine zQ (G_ rfl) ?_)
def eP:bC:=λ ds st K=>∃(n:Nat) (b:Int),ds=[.ref n]/\Bx st n b/\b<=800000000/\∀(i:Nat) st',i<=1->Bx st' n (b+1)->Upd st n st'->K (tx (List.replicate (i+1) 32)) st'
def oZ:List Str:=["_law_box_here"]
def xn:DS:=(aX (aj eC (dC (.str " ")) (aj bh (dC (.int 1)) (aj eG (ax aL (aa (ab 0) (aa (dC (.int 9)) ag))) (dC (.int 7))))))
theorem dY{st:af}{K:DK}{m:Nat}(h:m<=3)(k:K (tx (List.replicate m 32)) st):eC (.str " ") (.int (m:Int)) st K:=by
 unfold eC;rcases(by omega:m=0\/m=1\/m=2\/m=3)with rfl|rfl|rfl|rfl
 . exact⟨⟨by decide,λ h=>absurd (by decide) h,λ h=>absurd (by decide) h⟩,k⟩
 all_goals exact⟨⟨by decide,λ _ _=>by decide,λ _ _=>by decide⟩,k⟩
theorem uz:GU eP 1 xn oZ:=by
 rintro ds st K ⟨n,b,rfl,B,hb,k⟩;refine⟨rfl,n,9,b,rfl,B,by omega,by decide,by decide,λ r st1 r0 r1 B1 U1=>?_⟩;refine dA (by decide) (by decide+kernel) (cV ?_);obtain⟨m,rfl⟩:∃m:Nat,r=m:=⟨r.toNat,by omega⟩
 rcases(by omega:m<7\/m=7\/m=8)with h|rfl|rfl
 . have e:((m:Int)).fdiv 7=0:=by rw[HW _ (by decide)];omega
   rw[e];exact dY (m:=1) (by decide) (k 0 st1 (by decide) B1 U1)
 . exact dY (m:=2) (by decide) (k 1 st1 (by decide) B1 U1)
 . exact dY (m:=2) (by decide) (k 1 st1 (by decide) B1 U1)
def dE:bC:=λ ds st K=>∃(n c:Nat) (b:Int),ds=[.ref n,.str (Tx.one c)]/\Bx st n b/\b<=800000000/\∀(i j:Nat) st',i<=2->j<=2->Bx st' n (b+2)->Upd st n st'->K (tx (List.replicate i 32++c::List.replicate j 32)) st'
def lH:List Str:=["_law_box_here","_law_sign"]
def tF:DS:=(aX (aj bh (aj bh (aj eC (dC (.str " ")) (ax aL (aa (ab 0) (aa (dC (.int 3)) ag)))) (ab 1)) (aj eC (dC (.str " ")) (ax aL (aa (ab 0) (aa (dC (.int 3)) ag))))))
theorem c9{L M:List Nat}{st:af}{K:DK}(h:L.length+M.length<=100000)(k:K (tx (L++M)) st):bh (tx L) (tx M) st K:=by
 unfold bh;refine⟨by rw[bI,bI];exact a7 h,?_⟩
 have:((⟨L.toArray⟩:Str)++⟨M.toArray⟩)=⟨(L++M).toArray⟩:=by
  show(⟨L.toArray++M.toArray⟩:Str)=_;rw[JX]
 rw[this];exact k
theorem r9:GU dE 2 tF lH:=by
 rintro ds st K ⟨n,c,b,rfl,B,hb,k⟩;refine⟨rfl,n,3,b,rfl,B,by omega,by decide,by decide,λ r st1 r0 r1 B1 U1=>?_⟩;obtain⟨i,rfl⟩:∃m:Nat,r=m:=⟨r.toNat,by omega⟩
 refine dY (m:=i) (by omega) ?_;refine c9 (L:=List.replicate i 32) (M:=[c]) (by rw[He];show i+1<=_;omega) ?_;refine⟨n,3,b+1,rfl,B1,by omega,by decide,by decide,λ r st2 s0 s1 B2 U2=>?_⟩;obtain⟨j,rfl⟩:∃m:Nat,r=m:=⟨r.toNat,by omega⟩
 refine dY (m:=j) (by omega) ?_;refine c9 (L:=List.replicate i 32++[c]) (M:=List.replicate j 32) (by rw[GX,He,He];show i+1+j<=_;omega) ?_;rw[Hn];exact k i j st2 (by omega) (by omega) (B2.mono (by omega)) (U1.trans U2)
def Le(L:List Nat):Prop:=∃l d,L=l++[d]/\d≠32
def Sf(ss L:List Nat):Prop:=∀c∈L,c=32\/c=45\/(48<=c/\c<=57)\/c∈ss
def cP:bC:=λ ds st K=>∃(n w:Nat) (b:Int),ds=[.ref n,.int (w:Int)]/\Bx st n b/\b<=700000000/\1<=w/\w<=8/\∀(r:List Int) (L:List Nat) st',kl r L->r.length=w->Sf [] L->Le L->L.length<=120->Bx st' n (b+60)->Upd st n st'->K (.tup [df r,tx L]) st'
def ij:List Str:=["_law_box_here","_law_wide","_law_row","_law_text","_law_one"]
def m7:DS:=(aw (aP 2 (aU cH (aa (bz (eQ (aa (ab 1) ag)) [none,some 0] (cm 0) bp (ax gX (aa (ab 1) ag))) ag)))
 (aw (aP 3 (dC (.str "")))
 (aw (uM (cu (ab 2)) (cm 4) (aP 3 (aj bh (aj bh (ab 3) (aU jN (aa (ab 4) ag))) (ax eP (aa (ab 0) ag)))))
 (aX (bj (aa (ab 2) (aa (dr gd (ab 3) (dC (.str " "))) ag)))))))
theorem g_{α:Type}(f:α->D)(P:D->α->Prop){tg:cQ}{te:DE}{σc:bc}{st:af}{K:List D->af->Prop}{xs:List D}{n:Nat}{b c:Int}(hc:0<=c)(hB:Bx st n b)
 (h:∀x∈xs,∀(b':Int) (st':af) (K':DK),Bx st' n b'->b'+c<=b+c*xs.length->Upd st n st'->(∀a st2,P x a->Bx st2 n (b'+c)->Upd st' n st2->K' (f a) st2)->∃σ2,tg x σc=some σ2/\te σ2 st' K')
 (k:∀(l:List α) st',l.length=xs.length->(∀(i:Nat) x a,xs[i]?=some x->l[i]?=some a->P x a)->Bx st' n (b+c*xs.length)->Upd st n st'->K (l.map f) st'):bT tg bp te (λ _=>True) σc xs [] st K:=by
 refine gL (λ rest acc st'=>∃l:List α,acc=l.map f/\l.length+rest.length=xs.length/\rest=xs.drop l.length/\(∀(i:Nat) x a,xs[i]?=some x->l[i]?=some a->P x a)/\Bx st' n (b+c*l.length)/\Upd st n st') ?_ ?_ xs [] st ⟨[],rfl,by simp,rfl,λ i x a _ h=>by simp at h,hB.mono (by simp),Upd.refl⟩
 . rintro acc st' ⟨l,rfl,hl,_,hp,B',U'⟩;have hl:l.length=xs.length:=by simpa using hl
   rw[hl]at B';exact⟨trivial,k l st' hl hp B' U'⟩
 . rintro x rest acc st' ⟨l,rfl,hl,hr,hp,B',U'⟩ next
   rw[Hl]at hl;have li:l.length<xs.length:=by omega
   rw[IF li]at hr;injection hr with h1 h2;have hx:xs[l.length]?=some x:=by rw[G0 li,h1]
   have e1:b+c*l.length+c=b+c*((l.length+1:Nat):Int):=by rw[Int.natCast_add,Int.mul_add,Int.natCast_one,Int.mul_one,Int.add_assoc]
   obtain⟨σ2,e,q⟩:=h x (Hk hx) _ st' (λ y st2=>bT tg bp te (λ _=>True) σc rest (l.map f++[y]) st2 K) B' (by
    rw[e1];have:=Int.mul_le_mul_of_nonneg_left (show((l.length+1:Nat):Int)<=xs.length by omega) hc;omega) U' (λ a st2 pa B2 U2=>by
    rw[show l.map f++[f a]=(l++[a]).map f by rw[Iw];rfl];refine next _ _ ⟨l++[a],rfl,by rw[GX];show l.length+1+rest.length=_;omega,by rw[GX];exact h2,λ i y a' hy ha'=>?_,by rw[GX];show Bx st2 n (b+c*((l.length+1:Nat):Int));rw[<-e1];exact B2,U'.trans U2⟩
    rcases Nat.lt_or_ge i l.length with hi|hi
    . rw[HF hi]at ha';exact hp i y a' hy ha'
    . rw[HQ hi]at ha';cases hz:i-l.length with
      |zero=>
       rw[hz]at ha';cases ha';have:i=l.length:=by omega
       rw[this,hx]at hy;cases hy;exact pa
      |succ m=>rw[hz]at ha';simp at ha')
   exact⟨trivial,σ2,e,q⟩
theorem BL(i:Int):Str.ofString (toString i)=⟨(Tx.sg i).toArray⟩:=jX (Tx.Ay i)
theorem pD{p:Nat->Bool}:∀ {L:List Nat} {d:Nat} {l:List Nat},L.dropWhile p=d::l->p d=false
 | [],_,_,h=>by cases h
 |c::L,d,l,h=>by
  rw[Jg]at h;split at h
  . exact pD h
  . rename_i q;injection h with h1 h2;rw[<-h1];exact Bool.eq_false_iff.mpr q
theorem zV{L:List Nat}(h:eB L≠ []):Le (eB L):=by
 have h':(((L.dropWhile λ d=>decide (d=32)).reverse.dropWhile λ d=>decide (d=32)).reverse)≠ []:=h;show Le (((L.dropWhile λ d=>decide (d=32)).reverse.dropWhile λ d=>decide (d=32)).reverse);cases e:(L.dropWhile λ d=>decide (d=32)).reverse.dropWhile λ d=>decide (d=32)with
 |nil=>rw[e]at h';exact absurd rfl h'
 |cons d l=>
  refine⟨l.reverse,d,List.reverse_cons ..,?_⟩;have:=pD e;exact of_decide_eq_false this
theorem pX(n:Int)(ss:List Nat):Sf ss (Tx.sg n):=λ c hc=>by
 by_cases h1:c=45
 . exact .inr (.inl h1)
 . by_cases h2:48<=c/\c<=57
   . exact .inr (.inr (.inl h2))
   . exact absurd hc (Tx.nE h1 (by omega))
theorem m4{ss L M:List Nat}(h1:Sf ss L)(h2:Sf ss M):Sf ss (L++M):=λ c hc=>(Hz.mp hc).elim (h1 c) (h2 c)
theorem DP{ss:List Nat}{k:Nat}:Sf ss (List.replicate k 32):=λ c hc=> .inl (H_ hc)
theorem Be{i:Int}(h:i.natAbs<10^15):i.natAbs.log2<1920:=by
 by_cases z:i.natAbs=0
 . rw[z];decide
 . have:i.natAbs.log2<50:=(J1 z).mpr (by omega);omega
theorem js{i:Int}{st:af}{K:DK}(h:i.natAbs<10^15)(k:K (tx (Tx.sg i)) st):jN [.int i] st K:=BJ (Be h) (by rw[BL];exact k)
theorem sX(L:List Nat):Tx.words 32 (eB L)=Tx.words 32 L:=Tx.u5 32 L
theorem mn:GU cP 2 m7 ij:=by
 rintro ds st K ⟨n,w,b,rfl,B,hb,w1,w8,k⟩;refine⟨rfl,?_⟩;refine kW ⟨by omega,by omega⟩ ⟨a7 (by rw[di];omega),?_⟩;rw[ID];have lr:(dq 0 w).length=w:=di;refine g_ (f:=D.int) (P:=λ _ i=>i.natAbs<10^12) (n:=n) (b:=b) (c:=6) (by decide) B (λ x _ b' st' K' B' hb' _ kk=>?_) (λ r st1 hr hP B1 U1=>?_)
 . rw[lr]at hb';exact⟨_,rfl,n,b',rfl,B',by omega,λ i st2 i0 i1 B2 U2=>kk i st2 (by omega) B2 U2⟩
 . rw[lr]at hr B1
   have hr12:∀x∈r,x.natAbs<10^12:=λ x hx=>by
    obtain⟨i,hi⟩:=Hx.mp hx;have li:=(GW.mp hi).1;exact hP i _ x (G0 (by omega)) hi
   refine dj (xs:=k9 r) rfl ?_;refine n_ ?_;refine nR (λ rest σ st'=>∃(dn q:List Int) (T:List Nat) (o:Option D),rest=k9 q/\r=dn++q/\σ=[some (.ref n),some (.int (w:Int)),some (df r),some (tx T),o]/\Tx.words 32 T=dn.map Tx.sg/\(T=[]\/∃A,T=A++[32])/\Sf [] T/\T.length<=15*dn.length/\Bx st' n (b+48+dn.length)/\Upd st n st') ?_ ?_ _ _ _ ⟨[],r,[],none,rfl,rfl,rfl,rfl,.inl rfl,λ c hc=>(by cases hc),G8 0,B1.mono (by simp;omega),U1⟩
   . rintro σ st' ⟨dn,q,T,o,hq,hr2,rfl,hw,_,hs,hl,B',U'⟩;refine⟨trivial,?_⟩
     have:q=[]:=by cases q with
      |nil=>rfl
      |cons a q=>cases hq
     rw[this,HL]at hr2;subst hr2;refine ik (s:=⟨T.toArray⟩) (i:=3) rfl rfl ?_;unfold gd;refine⟨by rw[bI];exact a7 (by omega),?_⟩;rw[k8,me];refine⟨G_ rfl,?_⟩;have hwb:=(sX T).trans hw;have lb:=rn T;refine k _ _ st' ⟨hwb,by omega,by omega,hr12⟩ hr (λ c hc=>hs c (Tx.yG hc)) (zV λ z=>?_) (by omega) (B'.mono (by omega)) U';rw[z]at hwb;have:=H0 List.length hwb;rw[GV]at this;have e0:(Tx.words 32 []).length=0:=H0 List.length (Tx.il 32 0);omega
   . rintro x rest σ st' ⟨dn,q,T,o,hq,hr2,rfl,hw,ht,hs,hl,B',U'⟩ next
     cases q with
     |nil=>cases hq
     |cons i q=>
      cases hq;refine⟨trivial,_,rfl,?_⟩;have hi:i.natAbs<10^12:=hr12 i (by rw[hr2];simp);have ldn:dn.length<8:=by rw[hr2,GX,Hl]at hr;omega
      have lsg:=Tx.i8 hi;refine js (by omega) ?_;refine c9 (by omega) ?_;refine⟨n,_,rfl,B',by omega,λ g st2 g1 B2 U2=>?_⟩;refine c9 (by rw[GX,He];omega) ?_;refine next _ _ ⟨dn++[i],q,_,_,rfl,by rw[hr2,Hn];rfl,rfl,?_,.inr ⟨T++Tx.sg i++List.replicate g 32,by rw[List.replicate_succ',<-Hn]⟩,?_,?_,B2.mono (by rw[GX];simp;omega),U'.trans U2⟩
      . rw[Tx.uN ht (Tx.nE (by decide) (by decide)) (Tx.zg i),hw,Iw];rfl
      . exact m4 (m4 hs (pX i [])) DP
      . rw[GX,GX,GX,He];show _<=15*(dn.length+1);omega
def dh:bC:=λ ds st K=>∃(n:Nat) (low b:Int),ds=[.ref n,.int low]/\Bx st n b/\b<=700000000/\ -200<=low/\low<=0/\∀(x y:Int) (L:List Nat) st',qO x y L->(low=0->0<=x)->Sf [47] L->32∉L->Le L->L.length<=30->Bx st' n (b+10)->Upd st n st'->K (.tup [.tup [.int x,.int y],tx L]) st'
def gF:List Str:=["_law_box_here","_law_low","_law_top","_law_bottom","_law_by","_law_text"]
def mM:DS:=(aw (aP 2 (aU om (aa (ab 1) (aa (ax fQ (aa (ab 0) ag)) ag))))
 (aw (aP 3 (aj bh (dC (.int 1)) (ax aL (aa (ab 0) (aa (dC (.int 9)) ag)))))
 (aw (aP 4 (aj bh (dC (.int 1)) (ax aL (aa (ab 0) (aa (dC (.int 3)) ag)))))
 (aw (aP 5 (aj bh (aj bh (aU jN (aa (aj cL (ab 2) (ab 4)) ag)) (dC (.str "/"))) (aU jN (aa (aj cL (ab 3) (ab 4)) ag))))
 (aw (bG (aG (aj ck (aj cL (ab 3) (ab 4)) (dC (.int 1)))) (aP 5 (aj cp (fJ (aa (ab 5) (aa (aU jN (aa (ab 2) ag)) ag))) (ax aL (aa (ab 0) (aa (dC (.int 2)) ag))))) bo)
 (aX (bj (aa (ax gH (aa (ab 2) (aa (ab 3) ag))) (aa (ab 5) ag)))))))))
theorem wF{t b k:Int}(hb:0<b)(hk:0<k):gp (t*k) (b*k)=gp t b/\iE (t*k) (b*k)=iE t b:=by
 have hbk:0<b*k:=Int.mul_pos hb hk;have ek:((k.natAbs:Nat):Int)=k:=by omega
 unfold gp iE;rw[Hi (by omega),Hi (by omega),Int.natAbs_mul,Int.natAbs_mul,Nat.gcd_mul_right,Int.natCast_mul,ek,IU,IU,IU,IU];have hg:(0:Int)<=((Nat.gcd t.natAbs b.natAbs:Nat):Int):=by omega
 rw[HW _ (Int.mul_nonneg hg (by omega)),HW _ (Int.mul_nonneg hg (by omega)),HW _ hg,HW _ hg,J0 _ _ hk,J0 _ _ hk];exact⟨rfl,rfl⟩
theorem oC{t b:Int}(hb:0<b)(ht:0<=t):0<=gp t b:=by
 unfold gp;rw[Hi (by omega),IU,HW _ (by omega)];exact Int.ediv_nonneg ht (by omega)
theorem le_app{L M:List Nat}(h:Le M):Le (L++M):=by
 obtain⟨l,d,rfl,hd⟩:=h;exact⟨L++l,d,by rw[Hn],hd⟩
theorem vF(n:Int):Le (Tx.sg n):=by
 have h:=Tx.zg n;refine⟨(Tx.sg n).dropLast,(Tx.sg n).getLast h,(List.dropLast_concat_getLast h).symm,λ z=>?_⟩;have m:=List.getLast_mem h;rw[z]at m;exact Tx.nE (by decide) (by decide) m
theorem oH{n:Int}(h:n.natAbs<10^12):(Tx.sg n).length<=13:=Tx.i8 h
theorem lA:GU dh 2 mM gF:=by
 rintro ds st K ⟨n,low,b,rfl,B,hb,l0,l1,k⟩;refine⟨rfl,?_⟩;refine⟨n,b,rfl,B,by omega,λ s st1 s0 s1 B1 U1=>wB ?_⟩;have ht: -200<=(if s>low then s else low)/\(if s>low then s else low)<=100/\(low=0->0<=(if s>low then s else low)):=by split<;>omega
 generalize(if s>low then s else low)=t at ht⊢;obtain⟨t0,t1,t2⟩:=ht;refine⟨n,9,b+4,rfl,B1,by omega,by decide,by decide,λ c st2 c0 c1 B2 U2=>cV ?_⟩;refine⟨n,3,b+4+1,rfl,B2,by omega,by decide,by decide,λ y st3 y0 y1 B3 U3=>cV ?_⟩;obtain⟨u,hu⟩:∃u:Int,u=1+c:=⟨_,rfl⟩
 obtain⟨v,hv⟩:∃v:Int,v=1+y:=⟨_,rfl⟩
 rw[<-hu,<-hv];have hv3:v=1\/v=2\/v=3:=by omega
 have huv:0<u*v/\u*v<=27/\(u*v=1->u=1/\v=1):=by rcases hv3 with z|z|z<;>rw[z]<;>omega
 have htv:(t*v).natAbs<=600:=by rcases hv3 with z|z|z<;>rw[z]<;>omega
 obtain⟨e1,e2⟩:=wF (t:=t) (b:=u) (k:=v) (by omega) (by omega);have U:=(U1.trans U2).trans U3;have lT:=oH (n:=t*v) (by omega);have lB:=oH (n:=u*v) (by omega);refine cW (cD (by omega) (by omega)) (js (by omega) ?_);refine c9 (M:=[47]) (by show _+1<=_;omega) ?_;refine cW (cD (by omega) (by omega)) (js (by omega) ?_);refine c9 (by rw[GX];show _+1+_<=_;omega) ?_;refine cW (cD (by omega) (by omega)) ?_;have F1:qO (gp t u) (iE t u) (Tx.sg (t*v)++[47]++Tx.sg (u*v)):=⟨t*v,u*v,by omega,huv.1,by omega,e1.symm,e2.symm,.inl (by rw[Hn];rfl)⟩
 have lu:u.natAbs.log2<9000:=zA (by omega) (by omega);have S1:Sf [47] (Tx.sg (t*v)++[47]++Tx.sg (u*v)):=m4 (m4 (pX _ _) (λ c hc=> .inr (.inr (.inr hc)))) (pX _ _);have wR:∀m:Int,32∉Tx.sg m:=λ m=>Tx.nE (by decide) (by decide)
 have N1:32∉Tx.sg (t*v)++[47]++Tx.sg (u*v):=λ z=>by
  rcases Hz.mp z with z|z
  . rcases Hz.mp z with z|z
    . exact wR _ z
    . cases IP.mp z
  . exact wR _ z
 have L1:(Tx.sg (t*v)++[47]++Tx.sg (u*v)).length<=30:=by rw[GX,GX];show _+1+_<=_;omega
 refine eq2 (λ h1=>bA ?_) λ _=>aS ?_
 . obtain⟨hu1,hv1⟩:=huv.2.2 h1;have lt:=oH (n:=t) (by omega);refine js (by omega) ⟨G_ rfl,n,2,_,rfl,B3,by omega,by decide,by decide,λ z st4 z0 z1 B4 U4=>?_⟩;rcases(by omega:z=0\/z=1)with rfl|rfl
   . refine ba rfl rfl ⟨t,u,rfl,by omega,lu,⟨G_ rfl,?_⟩⟩;exact k _ _ _ st4 F1 (λ h=>oC (by omega) (t2 h)) S1 N1 (le_app (vF _)) L1 (B4.mono (by omega)) (U.trans U4)
   . refine ba rfl rfl ⟨t,u,rfl,by omega,lu,⟨G_ rfl,?_⟩⟩;refine k _ _ _ st4 ⟨t,1,by omega,by decide,by decide,by rw[hu1],by rw[hu1],.inr ⟨rfl,rfl⟩⟩ (λ h=>oC (by omega) (t2 h)) (pX _ _) (wR _) (vF _) (by omega) (B4.mono (by omega)) (U.trans U4)
 . refine⟨t,u,rfl,by omega,lu,⟨G_ rfl,?_⟩⟩;exact k _ _ _ st3 F1 (λ h=>oC (by omega) (t2 h)) S1 N1 (le_app (vF _)) L1 (B3.mono (by omega)) U
inductive gw(m:Nat):Str->Str->Prop
 |rows:gw m "rows" "rows"
 |jZ (h:m<=5):gw m "rows" "few rows"
 |row:gw m "row" "row"
 |kL:gw m "dues" "due"
 |point:gw m "point" "point"
 |square:gw m "square" "square"
 |others:gw m "others" "rows"
structure ko(m w:Nat)(kind sort:Str)(v:D)(L:List Nat):Prop where
 val:gj sort L v
 fit:jG m w sort v
 le:Le L
 Gq:58∉L
 l4:10∉L
 len:L.length<=1000
 rows:kind="rows"->∃A r,v=dQ A/\A.length=m/\A[0]?=some r/\r.length=w
def fU:bC:=λ ds st K=>∃(n m w:Nat) (kind sort:Str) (b:Int),ds=[.ref n,.str kind,.int (m:Int),.int (w:Int)]/\gw m kind sort/\Bx st n b/\b<=600000000/\1<=m/\m<=8/\1<=w/\w<=8/\∀(v:D) (L:List Nat) st',ko m w kind sort v L->Bx st' n (b+600)->Upd st n st'->K (.tup [v,tx L]) st'
def lG:List Str:=["_law_box_here","_law_kind","_law_many","_law_wide","_law_some"]
def sN:DS:=(aw (bG (aG (aj ck (ab 1) (dC (.str "square")))) (aX (ax dh (aa (ab 0) (aa (dC (.int 0)) ag)))) bo)
 (aw (bG (aG (aj ck (ab 1) (dC (.str "point")))) (aw (aP 4 (bz (eQ (aa (ab 3) ag)) [none,some 0] (cm 0) bp (ax dh (aa (ab 1) (aa (ue kz (dC (.int 200))) ag)))))
 (aX (bj (aa (aU cH (aa (bz (cu (ab 4)) [none,none] (bX 0 1) bp (ab 0)) ag)) (aa (dr rJoin (ax eP (aa (ab 0) ag)) (bz (cu (ab 4)) [none,none] (bX 0 1) bp (ab 1))) ag))))) bo)
 (aw (bG (gT (aG (aj ck (ab 1) (dC (.str "row")))) (aG (aj ck (ab 1) (dC (.str "dues"))))) (aX (ax cP (aa (ab 0) (aa (aj cp (fJ (aa (ab 3) (aa (ab 2) ag))) (aU jr (aa (aj ck (ab 1) (dC (.str "dues"))) ag))) ag)))) bo)
 (aw (bG (aG (aj ck (ab 1) (dC (.str "others")))) (aP 2 (aj bh (dC (.int 1)) (ax aL (aa (ab 0) (aa (dC (.int 3)) ag))))) bo)
 (aw (aP 4 (bz (eQ (aa (ab 2) ag)) [none,some 0,some 3] (cm 0) bp (ax cP (aa (ab 1) (aa (ab 2) ag)))))
 (aX (bj (aa (aU cH (aa (bz (cu (ab 4)) [none,none] (bX 0 1) bp (ab 0)) ag)) (aa (dr rJoin (ax dE (aa (ab 0) (aa (dC (.str ";")) ag))) (bz (cu (ab 4)) [none,none] (bX 0 1) bp (ab 1))) ag)))))))))
theorem uk(S:List Nat):∀ps:List (List Nat),Str.join ⟨S.toArray⟩ (ps.map λ p=>⟨p.toArray⟩)=⟨(Tx.bq S ps).toArray⟩
 | []=>rfl
 | [p]=>rfl
 |p::q::r=>by
  have:=uk S (q::r);show(⟨p.toArray⟩:Str)++⟨S.toArray⟩++Str.join ⟨S.toArray⟩ ((q::r).map λ p=>⟨p.toArray⟩)=_;rw[this];show(⟨p.toArray++S.toArray++(Tx.bq S (q::r)).toArray⟩:Str)=_;rw[JX,JX];rfl
theorem tQ:∀ps:List (List Nat),L3.strs? (ps.map tx)=some (ps.map λ p=>⟨p.toArray⟩)
 | []=>rfl
 |p::ps=>by
  rw[Hy];unfold L3.strs?;rw[tQ ps];rfl
theorem rp{S:List Nat}{ps:List (List Nat)}{B:Nat}{st:af}{K:DK}{y:D}(hk:pf y= .l)(hi:items? st y=some (ps.map tx))(hB:∀p∈ps,p.length<=B)(h:ps.length*B+ps.length*S.length<=1000000)(k:K (tx (Tx.bq S ps)) st):rJoin ⟨S.toArray⟩ y st K:=by
 unfold rJoin;rw[hk,hi];show(match L3.strs? (ps.map tx)with|some l=>JoinOk ⟨S.toArray⟩ l=true/\K (.str (Txt.join ⟨S.toArray⟩ l)) st|none=>False);rw[tQ];refine⟨?_,?_⟩
 . unfold JoinOk;rw[StrLaws.joinFits (B:=B) (λ y hy=>?_) (by rw[GV,bI];omega)]
   . rfl
   . obtain⟨p,hp,rfl⟩:=Hv.mp hy;rw[bI];exact hB p hp
 . show K (.str (Txt.join _ _)) st;unfold Txt.join;rw[StrLaws.glued_eq_join,uk];exact k
theorem oF{S:List Nat}{ps:List (List Nat)}{B:Nat}{st:af}{K:DK}(hB:∀p∈ps,p.length<=B)(h:ps.length*B+ps.length*S.length<=1000000)(k:K (tx (Tx.bq S ps)) st):rJoin ⟨S.toArray⟩ (.lst (ps.map tx)) st K:=rp rfl rfl hB h k
theorem k0{S:List Nat}:∀ {ps:List (List Nat)},ps≠ []->(∀p∈ps,Le p)->Le (Tx.bq S ps)
 | [],h,_=>absurd rfl h
 | [p],_,h=>h p (by simp)
 |p::q::r,_,h=>le_app (k0 (by simp) λ z hz=>h z (G7 _ hz))
theorem gA{c:Nat}{S:List Nat}(hS:c∉S):∀ {ps:List (List Nat)},(∀p∈ps,c∉p)->c∉Tx.bq S ps
 | [],_=>by intro z;cases z
 | [p],h=>h p (by simp)
 |p::q::r,h=>λ z=>by
  rcases Hz.mp z with z|z
  . rcases Hz.mp z with z|z
    . exact h p (by simp) z
    . exact hS z
  . exact gA hS (λ y hy=>h y (G7 _ hy)) z
theorem jy{S:List Nat}{B:Nat}:∀ {ps:List (List Nat)},(∀p∈ps,p.length<=B)->(Tx.bq S ps).length<=ps.length*(B+S.length)
 | [],_=>IS _
 | [p],h=>by
   have:=h p (by simp);show p.length<=1*_;omega
 |p::q::r,h=>by
  have h1:=h p (by simp);have h2:=jy (S:=S) (B:=B) (ps:=q::r) λ y hy=>h y (G7 _ hy);show(p++S++Tx.bq S (q::r)).length<=_;rw[GX,GX,Hl (as:=q::r),Nat.succ_mul];omega
theorem mV{g:Nat}:∀ {ps:List (List Nat)},(∀p∈ps,32∉p/\p≠ [])->Tx.words 32 (Tx.bq (List.replicate (g+1) 32) ps)=ps
 | [],_=>Tx.il 32 0
 | [p],h=>Tx.jm (h p (by simp)).1 (h p (by simp)).2
 |p::q::r,h=>by
  have:=mV (g:=g) (ps:=q::r) λ y hy=>h y (G7 _ hy);have hp:=h p (by simp);show Tx.words 32 (p++List.replicate (g+1) 32++Tx.bq _ (q::r))=_;rw[Tx.uR hp.1 hp.2,this]
theorem gr{ss L:List Nat}{c:Nat}(h:Sf ss L)(h1:c≠32)(h2:c≠45)(h3:¬(48<=c/\c<=57))(h4:c∉ss):c∉L:=λ z=>by
 rcases h c z with h|h|h|h
 . exact h1 h
 . exact h2 h
 . exact h3 h
 . exact h4 h
theorem zG{L:List Nat}(h:Le L):L≠ []:=by
 obtain⟨l,d,rfl,_⟩:=h;simp
structure DU(w:Nat)(p:List Int×List Nat):Prop where
 row:kl p.1 p.2
 w:p.1.length=w
 sf:Sf [] p.2
 le:Le p.2
 len:p.2.length<=120
theorem wg{m w i j:Nat}{l:List (List Int×List Nat)}(hm:l.length=m)(m1:1<=m)(m8:m<=8)(hi:i<=2)(hj:j<=2)(hP:∀p∈l,DU w p):
 hU (l.map (·.1)) w (Tx.bq (List.replicate i 32++59::List.replicate j 32) (l.map (·.2)))/\(∃r,(l.map (·.1))[0]?=some r/\r.length=w)/\Le (Tx.bq (List.replicate i 32++59::List.replicate j 32) (l.map (·.2)))/\58∉Tx.bq (List.replicate i 32++59::List.replicate j 32) (l.map (·.2))/\10∉Tx.bq (List.replicate i 32++59::List.replicate j 32) (l.map (·.2))/\(Tx.bq (List.replicate i 32++59::List.replicate j 32) (l.map (·.2))).length<=1000:=by
 have hne:l.map (·.2)≠ []:=λ z=>by
  have:=H0 List.length z;rw[GV]at this;have z0:l.length=0:=this;omega
 have m2:∀p∈l.map (·.2),Le p/\Sf [] p/\p.length<=120:=λ p hp=>by
  obtain⟨q,hq,rfl⟩:=Hv.mp hp;exact⟨(hP q hq).le,(hP q hq).sf,(hP q hq).len⟩
 have no:∀c,c≠32->c≠45->¬(48<=c/\c<=57)->∀p∈l.map (·.2),c∉p:=λ c h1 h2 h3 p hp=>gr (m2 p hp).2.1 h1 h2 h3 (by simp)
 have nS:∀c,c≠32->c≠59->c∉List.replicate i 32++59::List.replicate j 32:=λ c h1 h2 z=>by
  rcases Hz.mp z with z|z
  . exact h1 (H_ z)
  . rcases G9.mp z with z|z
    . exact h2 z
    . exact h1 (H_ z)
 obtain⟨qs,e1,e2,e3⟩:=Tx.mN (c:=59) (b:=32) (i:=i) (j:=j) (by decide) (l.map (·.2)) hne (no 59 (by decide) (by decide) (by decide));refine⟨⟨by rw[e1,e2,GV,GV],λ t p r hp hr=>?_⟩,?_,k0 hne λ p hp=>(m2 p hp).1,gA (nS 58 (by decide) (by decide)) (no 58 (by decide) (by decide) (by decide)),gA (nS 10 (by decide) (by decide)) (no 10 (by decide) (by decide) (by decide)),?_⟩
 . rw[e1]at hp;rw[Hb]at hr;obtain⟨q,hq,rfl⟩:=HN.mp hr;obtain⟨x,y,e4⟩:=e3 t q.2 (by rw[Hb,hq];rfl);rw[hp]at e4;cases e4;have R:=hP q (Hk hq);exact⟨⟨by rw[Tx.dM];exact R.row.w,R.row.l1,R.row.l8,R.row.b⟩,R.w⟩
 . cases l with
   |nil=>simp at hm;omega
   |cons q l=>exact⟨q.1,rfl,(hP q (by simp)).w⟩
 . have:=jy (S:=List.replicate i 32++59::List.replicate j 32) (B:=120) (ps:=l.map (·.2)) λ p hp=>(m2 p hp).2.2;rw[GV,hm,GX,Hl,He,He]at this;have h2:m*(120+(i+(j+1)))<=8*125:=Jm m8 (by omega);exact HX this (HX h2 (by decide))
abbrev rZ:DS:=(aw (aP 4 (bz (eQ (aa (ab 2) ag)) [none,some 0,some 3] (cm 0) bp (ax cP (aa (ab 1) (aa (ab 2) ag)))))
 (aX (bj (aa (aU cH (aa (bz (cu (ab 4)) [none,none] (bX 0 1) bp (ab 0)) ag)) (aa (dr rJoin (ax dE (aa (ab 0) (aa (dC (.str ";")) ag))) (bz (cu (ab 4)) [none,none] (bX 0 1) bp (ab 1))) ag)))))
def pairD(p:List Int×List Nat):D:= .tup [df p.1,tx p.2]
theorem iX{α:Type}{f:α->D}{l:List α}{g:α->D}{i:Nat}{x y:D}(hx:(l.map f)[i]?=some x)(hy:(l.map g)[i]?=some y):∃a∈l,x=f a/\y=g a:=by
 rw[Hb]at hx hy;obtain⟨a,ha,rfl⟩:=HN.mp hx;rw[ha]at hy;cases hy;exact⟨a,Hk ha,rfl,rfl⟩
theorem jD{E:gv}{st:af}{n m w:Nat}{kind:Str}{b:Int}(B:Bx st n b)(hb:b<=600000010)(m1:1<=m)(m8:m<=8)(w1:1<=w)(w8:w<=8)
 (k:∀(A:List (List Int)) (L:List Nat) st',hU A w L->A.length=m->(∃r,A[0]?=some r/\r.length=w)->Le L->58∉L->10∉L->L.length<=1000->Bx st' n (b+482)->Upd st n st'->E.rt (.tup [dQ A,tx L]) st'):
 rZ E [some (.ref n),some (.str kind),some (.int (m:Int)),some (.int (w:Int)),none] st:=by
 refine kW ⟨by omega,by omega⟩ ⟨a7 (by rw[di];omega),?_⟩;rw[ID];have lr:(dq 0 m).length=m:=di;refine g_ (f:=pairD) (P:=λ _ p=>DU w p) (n:=n) (b:=b) (c:=60) (by decide) B (λ x _ b' st' K' B' hb' _ kk=>?_) (λ l st1 hl hP B1 U1=>?_)
 . rw[lr]at hb';exact⟨_,rfl,n,w,b',rfl,B',by omega,w1,w8,λ r L st2 h1 h2 h3 h4 h5 B2 U2=>kk (r,L) st2 ⟨h1,h2,h3,h4,h5⟩ B2 U2⟩
 . rw[lr]at hl B1
   have hR:∀p∈l,DU w p:=λ p hp=>by
    obtain⟨i,hi⟩:=Hx.mp hp;have li:=(GW.mp hi).1;exact hP i _ p (G0 (by omega)) hi
   have lz:(l.map pairD).length<=sizeLine:=a7 (by rw[GV];omega);refine d5 ⟨lz,?_⟩;refine dR (ys:=l.map λ p=>df p.1) trivial (by rw[GV,GV]) (λ i x y hx hy K' q=>?_) ?_
   . obtain⟨p,_,rfl,rfl⟩:=iX hx hy;exact⟨_,rfl,q⟩
   . refine dj (xs:=l.map λ p=>df p.1) rfl ?_;refine kF ⟨n,59,b+60*m,rfl,B1,by omega,λ i j st2 hi hj B2 U2=>?_⟩;obtain⟨t1,t2,t3,t4,t5,t6⟩:=wg hl m1 m8 hi hj hR;dsimp only;refine d5 ⟨lz,?_⟩;refine dR (ys:=(l.map (·.2)).map tx) trivial (by rw[GV,GV,GV]) (λ i x y hx hy K' q=>?_) ?_
     . rw[HC]at hy;obtain⟨p,_,rfl,rfl⟩:=iX hx hy;exact⟨_,rfl,q⟩
     . refine oF (B:=120) (λ p hp=>?_) ?_ ⟨G_ rfl,?_⟩
       . obtain⟨z,hz,rfl⟩:=Hv.mp hp;exact(hR z hz).len
       . rw[GV,GX,Hl,He,He,hl,<-Nat.mul_add];exact HX (Jm m8 (show 120+(i+(j+1))<=125 by omega)) (by decide)
       . have:=k (l.map (·.1)) _ st2 t1 (by rw[GV];exact hl) t2 t3 t4 t5 t6 (B2.mono (by omega)) (U1.trans U2);rw[show dQ (l.map (·.1))= .tup (l.map λ p=>df p.1) by show D.tup _=_;rw[HC];rfl]at this;exact this
structure BO(p:List Nat×Int×Int):Prop where
 fr:qO p.2.1 p.2.2 p.1
 sf:Sf [47] p.1
 wR:32∉p.1
 le:Le p.1
 len:p.1.length<=30
def Fz(p:List Nat×Int×Int):D:= .tup [.tup [.int p.2.1,.int p.2.2],tx p.1]
theorem vD{w g:Nat}{l:List (List Nat×Int×Int)}(hl:l.length=w)(w1:1<=w)(w8:w<=8)(hg:g<=1)(hP:∀p∈l,BO p):
 y3 l (Tx.bq (List.replicate (g+1) 32) (l.map (·.1)))/\Le (Tx.bq (List.replicate (g+1) 32) (l.map (·.1)))/\58∉Tx.bq (List.replicate (g+1) 32) (l.map (·.1))/\10∉Tx.bq (List.replicate (g+1) 32) (l.map (·.1))/\(Tx.bq (List.replicate (g+1) 32) (l.map (·.1))).length<=1000:=by
 have hne:l.map (·.1)≠ []:=λ z=>by
  have:=H0 List.length z;rw[GV]at this;have z0:l.length=0:=this;omega
 have hm:∀p∈l.map (·.1),(32∉p/\p≠ [])/\Le p/\Sf [47] p/\p.length<=30:=λ p hp=>by
  obtain⟨q,hq,rfl⟩:=Hv.mp hp;have Q:=hP q hq;exact⟨⟨Q.wR,zG Q.le⟩,Q.le,Q.sf,Q.len⟩
 have nr:∀c,c≠32->c∉List.replicate (g+1) 32:=λ c h z=>h (H_ z);refine⟨⟨mV λ p hp=>(hm p hp).1,by omega,by omega,λ p hp=>(hP p hp).fr⟩,k0 hne λ p hp=>(hm p hp).2.1,gA (nr 58 (by decide)) λ p hp=>gr (hm p hp).2.2.1 (by decide) (by decide) (by decide) (by decide),gA (nr 10 (by decide)) λ p hp=>gr (hm p hp).2.2.1 (by decide) (by decide) (by decide) (by decide),?_⟩;have:=jy (S:=List.replicate (g+1) 32) (B:=30) (ps:=l.map (·.1)) λ p hp=>(hm p hp).2.2.2;rw[GV,hl,He]at this;exact HX this (HX (Jm w8 (show 30+(g+1)<=32 by omega)) (by decide))
theorem qI:GU fU 4 sN lG:=by
 rintro ds st K ⟨n,m,w,kind,sort,b,rfl,hk,B,hb,m1,m8,w1,w8,k⟩;refine⟨rfl,?_⟩;have nok:∀ {a c:Str},¬a=c->¬(a=c):=λ h=>h;cases hk with
 |square=>
  refine aT rfl rfl ?_;rw[cF];refine bA ⟨n,0,b,rfl,B,by omega,by decide,by decide,λ x y L st1 h1 h2 h3 h4 h5 h6 B1 U1=>?_⟩;exact k _ _ st1 ⟨.square ⟨L,Tx.jm h4 (zG h5),h1,h2 rfl⟩,.square,h5,gr h3 (by decide) (by decide) (by decide) (by decide),gr h3 (by decide) (by decide) (by decide) (by decide),by omega,λ h=>absurd h (by decide)⟩ (B1.mono (by omega)) U1
 |rows=>
  refine aT rfl rfl ?_;rw[aJ (by decide)];refine aS (aT rfl rfl ?_);rw[aJ (by decide)];refine aS (aT rfl rfl ?_);rw[aJ (by decide)];refine aS (aT rfl rfl ?_);rw[aJ (by decide)];refine aS (aT rfl rfl ?_);rw[aJ (by decide)];refine aS ?_;exact jD B (by omega) m1 m8 w1 w8 λ A L st1 h1 h2 ⟨r,h3,h4⟩ h5 h6 h7 h8 B1 U1=>k _ _ st1 ⟨.rows h1 (by omega),.rows h3 h4,h5,h6,h7,h8,λ _=>⟨A,r,rfl,h2,h3,h4⟩⟩ (B1.mono (by omega)) U1
 |jZ h5'=>
  refine aT rfl rfl ?_;rw[aJ (by decide)];refine aS (aT rfl rfl ?_);rw[aJ (by decide)];refine aS (aT rfl rfl ?_);rw[aJ (by decide)];refine aS (aT rfl rfl ?_);rw[aJ (by decide)];refine aS (aT rfl rfl ?_);rw[aJ (by decide)];refine aS ?_;exact jD B (by omega) m1 m8 w1 w8 λ A L st1 h1 h2 ⟨r,h3,h4⟩ h5 h6 h7 h8 B1 U1=>k _ _ st1 ⟨.jZ h1 (by omega),.jZ h3 h4,h5,h6,h7,h8,λ _=>⟨A,r,rfl,h2,h3,h4⟩⟩ (B1.mono (by omega)) U1
 |others=>
  refine aT rfl rfl ?_;rw[aJ (by decide)];refine aS (aT rfl rfl ?_);rw[aJ (by decide)];refine aS (aT rfl rfl ?_);rw[aJ (by decide)];refine aS (aT rfl rfl ?_);rw[aJ (by decide)];refine aS (aT rfl rfl ?_);rw[cF];refine bA ⟨n,3,b,rfl,B,by omega,by decide,by decide,λ o st1 o0 o1 B1 U1=>cV ?_⟩;obtain⟨z,hz⟩:∃z:Nat,1+o=(z:Int):=⟨(1+o).toNat,by omega⟩
  rw[hz];exact jD B1 (by omega) (by omega) (by omega) w1 w8 λ A L st2 h1 h2 ⟨r,h3,h4⟩ h5 h6 h7 h8 B2 U2=>k _ _ st2 ⟨.rows h1 (by omega),.rows h3 h4,h5,h6,h7,h8,λ h=>absurd h (by decide)⟩ (B2.mono (by omega)) (U1.trans U2)
 |row=>
  refine aT rfl rfl ?_;rw[aJ (by decide)];refine aS (aT rfl rfl ?_);rw[aJ (by decide)];refine aS (aT rfl rfl ?_);rw[cF];refine bA ⟨G_ rfl,aT rfl rfl ?_⟩;rw[aJ (by decide)];refine iU (ba (e:= .int (w:Int)) rfl rfl ⟨n,w,b,rfl,B,by omega,w1,w8,λ r L st1 h1 h2 h3 h4 h5 B1 U1=>?_⟩);exact k _ _ st1 ⟨.row h1,.row h2,h4,gr h3 (by decide) (by decide) (by decide) (by decide),gr h3 (by decide) (by decide) (by decide) (by decide),by omega,λ h=>absurd h (by decide)⟩ (B1.mono (by omega)) U1
 |kL=>
  refine aT rfl rfl ?_;rw[aJ (by decide)];refine aS (aT rfl rfl ?_);rw[aJ (by decide)];refine aS (aT rfl rfl ?_);rw[aJ (by decide)];refine aS (aT rfl rfl ?_);rw[cF];refine bA ⟨G_ rfl,aT rfl rfl ?_⟩;rw[cF];refine iU (ba (e:= .int (m:Int)) rfl rfl ⟨n,m,b,rfl,B,by omega,m1,m8,λ r L st1 h1 h2 h3 h4 h5 B1 U1=>?_⟩);exact k _ _ st1 ⟨.kL h1,.kL h2,h4,gr h3 (by decide) (by decide) (by decide) (by decide),gr h3 (by decide) (by decide) (by decide) (by decide),by omega,λ h=>absurd h (by decide)⟩ (B1.mono (by omega)) U1
 |point=>
  refine aT rfl rfl ?_;rw[aJ (by decide)];refine aS (aT rfl rfl ?_);rw[cF];refine bA (kW ⟨by omega,by omega⟩ ⟨a7 (by rw[di];omega),?_⟩);rw[ID];have lr:(dq 0 w).length=w:=di;refine g_ (f:=Fz) (P:=λ _ p=>BO p) (n:=n) (b:=b) (c:=10) (by decide) B (λ x _ b' st' K' B' hb' _ kk=>?_) (λ l st1 hl hP B1 U1=>?_)
  . rw[lr]at hb';refine⟨_,rfl,rP ⟨n,-200,b',rfl,B',by omega,by decide,by decide,λ x y L st2 h1 _ h3 h4 h5 h6 B2 U2=>kk (L,x,y) st2 ⟨h1,h3,h4,h5,h6⟩ B2 U2⟩⟩
  . rw[lr]at hl B1
    have hR:∀p∈l,BO p:=λ p hp=>by
     obtain⟨i,hi⟩:=Hx.mp hp;have li:=(GW.mp hi).1;exact hP i _ p (G0 (by omega)) hi
    have lz:(l.map Fz).length<=sizeLine:=a7 (by rw[GV];omega);refine d5 ⟨lz,?_⟩;refine dR (ys:=l.map λ p=>D.tup [.int p.2.1,.int p.2.2]) trivial (by rw[GV,GV]) (λ i x y hx hy K' q=>?_) ?_
    . obtain⟨p,_,rfl,rfl⟩:=iX hx hy;exact⟨_,rfl,q⟩
    . refine dj (xs:=l.map λ p=>D.tup [.int p.2.1,.int p.2.2]) rfl ?_;refine kF ⟨n,b+10*w,rfl,B1,by omega,λ g st2 hg B2 U2=>?_⟩;obtain⟨t1,t2,t3,t4,t5⟩:=vD hl w1 w8 hg hR;dsimp only;refine d5 ⟨lz,?_⟩;refine dR (ys:=(l.map (·.1)).map tx) trivial (by rw[GV,GV,GV]) (λ i x y hx hy K' q=>?_) ?_
      . rw[HC]at hy;obtain⟨p,_,rfl,rfl⟩:=iX hx hy;exact⟨_,rfl,q⟩
      . refine oF (B:=30) (λ p hp=>?_) ?_ ⟨G_ rfl,?_⟩
        . obtain⟨z,hz,rfl⟩:=Hv.mp hp;exact(hR z hz).len
        . rw[GV,He,hl,<-Nat.mul_add];exact HX (Jm w8 (show 30+(g+1)<=32 by omega)) (by decide)
        . exact k _ _ st2 ⟨.point t1,.point (by rw[GV];exact hl),t2,t3,t4,t5,λ h=>absurd h (by decide)⟩ (B2.mono (by omega)) (U1.trans U2)
def iF:bC:=λ ds st K=>∃(n:Nat) (b:Int),ds=[.ref n]/\Bx st n b/\b<=500000000/\∀(o:D) (L:List Nat) st',iG L o->10∉L->L.length<=6000->Bx st' n (b+4000)->Upd st n st'->K (.tup [o,tx L]) st'
def lV:List Str:=["_law_box_here","_law_word","_law_kinds_here","_law_most","_law_many","_law_wide","_law_some","_law_text"]
def sJ:DS:=(aw (uF (bX 1 2) (aj cp (ax iN ag) (ax aL (aa (ab 0) (aa (dC (.int 14)) ag)))))
 (aw (aP 3 (aj cp (fJ (aa (dC (.int 3)) (aa (dC (.int 8)) ag))) (aU jr (aa (aj ck (ax aL (aa (ab 0) (aa (dC (.int 8)) ag))) (dC (.int 0))) ag))))
 (aw (aP 4 (aj bh (dC (.int 1)) (ax aL (aa (ab 0) (aa (ab 3) ag)))))
 (aw (bG (aG (aj nq (ab 1) (bj (aa (dC (.str "near")) (aa (dC (.str "nearest")) (aa (dC (.str "shortest")) ag)))))) (aP 4 (aU oN (aa (ab 4) (aa (dC (.int 5)) ag)))) bo)
 (aw (aP 5 (aj bh (dC (.int 1)) (ax aL (aa (ab 0) (aa (ab 3) ag)))))
 (aw (aP 6 (bz (cu (ab 2)) [none,some 0,some 4,some 5] (cm 0) bp (ax fU (aa (ab 1) (aa (ab 0) (aa (ab 2) (aa (ab 3) ag)))))))
 (aw (aP 7 (aj bh (aj bh (ab 1) (ax eP (aa (ab 0) ag))) (dr rJoin (ax dE (aa (ab 0) (aa (dC (.str ":")) ag))) (bz (cu (ab 6)) [none,none] (bX 0 1) bp (ab 1)))))
 (aX (bj (aa (aj bh (bj (aa (ab 1) ag)) (aU cH (aa (bz (cu (ab 6)) [none,none] (bX 0 1) bp (ab 0)) ag))) (aa (aj bh (aj bh (aj eC (dC (.str " ")) (ax aL (aa (ab 0) (aa (dC (.int 2)) ag)))) (ab 7)) (aj eC (dC (.str " ")) (ax aL (aa (ab 0) (aa (dC (.int 2)) ag))))) ag)))))))))))
theorem wK{c d k:Nat}(h:d≠c)(M:List Nat):(Tx.bb c (List.replicate k d++M)).length=(Tx.bb c M).length/\∀(i:Nat) q,(Tx.bb c (List.replicate k d++M))[i]?=some q->∃q0 a,(Tx.bb c M)[i]?=some q0/\q=List.replicate a d++q0:=by
 have hb:∃h t,Tx.bb c M=h::t/\Tx.bb c (List.replicate k d++M)=(List.replicate k d++h)::t:=by
  obtain⟨h0,t,e⟩:=Tx.fY c M;refine⟨h0,t,e,?_⟩;induction k with
  |zero=>exact e
  |succ k ih=>rw[HG,HR,Tx.bb,Hi h,ih];rfl
 obtain⟨h0,t,e1,e2⟩:=hb;rw[e1,e2];refine⟨rfl,λ i q hq=>?_⟩;cases i with
 |zero=>cases hq;exact⟨h0,k,rfl,rfl⟩
 |succ i=>exact⟨q,0,hq,rfl⟩
theorem AJ{c d k:Nat}(h:d≠c)(M:List Nat):(Tx.bb c (M++List.replicate k d)).length=(Tx.bb c M).length/\∀(i:Nat) q,(Tx.bb c (M++List.replicate k d))[i]?=some q->∃q0 a,(Tx.bb c M)[i]?=some q0/\q=q0++List.replicate a d:=by
 have hb:∀M:List Nat,∃ps p,Tx.bb c M=ps++[p]/\Tx.bb c (M++List.replicate k d)=ps++[p++List.replicate k d]:=by
  intro M;induction M with
  |nil=>exact⟨[],[],rfl,by rw[JK,Tx.eN _ λ z=>h (H_ z).symm];rfl⟩
  |cons x M ih=>
   obtain⟨ps,p,e1,e2⟩:=ih;by_cases hx:x=c
   . refine⟨[]::ps,p,?_,?_⟩
     . rw[Tx.bb,Hu hx,e1];rfl
     . rw[HR,Tx.bb,Hu hx,e2];rfl
   . cases ps with
     |nil=>exact⟨[],x::p,by rw[Tx.bb,Hi hx,e1];rfl,by rw[HR,Tx.bb,Hi hx,e2];rfl⟩
     |cons h0 t=>exact⟨(x::h0)::t,p,by rw[Tx.bb,Hi hx,e1];rfl,by rw[HR,Tx.bb,Hi hx,e2];rfl⟩
 obtain⟨ps,p,e1,e2⟩:=hb M;rw[e1,e2];refine⟨by rw[GX,GX];rfl,λ i q hq=>?_⟩;rcases Nat.lt_or_ge i ps.length with hi|hi
 . rw[HF hi]at hq⊢;exact⟨q,0,hq,by simp⟩
 . rw[HQ hi]at hq⊢;cases hz:i-ps.length with
   |zero=>rw[hz]at hq;cases hq;exact⟨p,k,rfl,rfl⟩
   |succ z=>rw[hz]at hq;simp at hq
theorem iA{r:List Int}{p:List Nat}(h:kl r p)(a b:Nat):kl r (List.replicate a 32++p++List.replicate b 32):=⟨(Tx.dM p a b).trans h.w,h.l1,h.l8,h.b⟩
theorem kC{A:List (List Int)}{w:Nat}{p:List Nat}(h:hU A w p)(a b:Nat):hU A w (List.replicate a 32++p++List.replicate b 32):=by
 obtain⟨l2,h2⟩:=AJ (c:=59) (d:=32) (k:=b) (by decide) (List.replicate a 32++p);obtain⟨l1,h1⟩:=wK (c:=59) (d:=32) (k:=a) (by decide) p;refine⟨by rw[l2,l1,h.len],λ i q r hq hr=>?_⟩;obtain⟨q1,y,e1,rfl⟩:=h2 i q hq;obtain⟨q0,x,e0,rfl⟩:=h1 i q1 e1;obtain⟨R,hw⟩:=h.row i q0 r e0 hr;exact⟨iA R x y,hw⟩
theorem vn{s:Str}{p:List Nat}{v:D}(h:gj s p v)(a b:Nat):gj s (List.replicate a 32++p++List.replicate b 32) v:=by
 cases h with
 |rows h l=>exact .rows (kC h a b) l
 |jZ h l=>exact .jZ (kC h a b) l
 |square h=>obtain⟨l,h1,h2⟩:=h;exact .square ⟨l,(Tx.dM p a b).trans h1,h2⟩
 |point h=>exact .point ⟨(Tx.dM p a b).trans h.w,h.l1,h.l8,h.f⟩
 |row h=>exact .row (iA h a b)
 |kL h=>exact .kL (iA h a b)
def mC(s:Str):Bool:=(["near","nearest","shortest"]:List Str).any λ y=>y==s
def cG(fw:Bool)(k:Str):Str:=if k="rows" then(if fw=true then "few rows" else "rows")else if k="dues" then "due" else if k="others" then "rows" else k
def wd(k:Str):Bool:=decide (k∈(["rows","row","dues","point","square","others"]:List Str))
def good(p:Str×List Str):Bool:=(match valueAt i3 p.1 with
 |some (.ref c)=>decide (ig c=some (p.2.map (cG (mC p.1))))
 |_=>false)&&p.1.cps.toList.all (λ c=>decide (97<=c/\c<=122))&&decide (1<=p.1.cps.toList.length/\p.1.cps.toList.length<=12/\p.2.length<=5)&&p.2.all wd&&(decide (p.2.take 1=([("rows":Str)]))||decide (p.2.take 2=([("row":Str),("rows":Str)])))
theorem D4:iV.all good=true:=by decide+kernel
theorem wH{m:Nat}{fw:Bool}{k:Str}(h:wd k=true)(hf:fw=true->m<=5):gw m k (cG fw k):=by
 have h:=Kh h;simp only[G9,Ij,Kp]at h;rcases h with rfl|rfl|rfl|rfl|rfl|rfl
 . cases fw with
   |true=>exact .jZ (hf rfl)
   |false=>exact .rows
 . exact .row
 . exact .kL
 . exact .point
 . exact .square
 . exact .others
theorem oS{s:Str}{v:D}{ts:List Str}{vs:List D}(h:(valueAt bD s).isSome=true):dc (s::ts) (v::vs)=v::dc ts vs:=by
 unfold dc;rw[Jj,Ic,Hu h];rfl
theorem vv{s:Str}{v:D}{ts:List Str}{vs:List D}(h:(valueAt bD s).isSome=false):dc (s::ts) (v::vs)=dc ts vs:=by
 unfold dc;rw[Jj,Ic,Hi (by rw[h];exact Hj)]
theorem pe(fw:Bool):(valueAt bD (cG fw "rows")).isSome=true:=by cases fw<;>decide+kernel
theorem x4(fw:Bool):(valueAt bD (cG fw "row")).isSome=false:=by cases fw<;>decide+kernel
theorem tj{p:Str×List Str}{m w:Nat}{l:List (D×List Nat)}{fw:Bool}(hg:p.2.take 1=[("rows":Str)]\/p.2.take 2=[("row":Str),("rows":Str)])(hl:l.length=p.2.length)(hP:∀(t:Nat) k q,p.2[t]?=some k->l[t]?=some q->ko m w k (cG fw k) q.1 q.2):
 ∃A r g,dc (p.2.map (cG fw)) (l.map (·.1))=dQ A::g/\A.length=m/\A[0]?=some r/\r.length=w:=by
 obtain⟨W,ks⟩:=p;rcases hg with hg|hg
 . match ks,l,hg,hl with
   |k::ks,q::l,hg,hl=>
    have hk:k="rows":=by injection hg
    subst hk;obtain⟨A,r,e,h1,h2,h3⟩:=(hP 0 _ q rfl rfl).rows rfl;refine⟨A,r,dc (ks.map (cG fw)) (l.map (·.1)),?_,h1,h2,h3⟩;rw[Hy,Hy,oS (pe fw),e]
 . match ks,l,hg,hl with
   |k::k2::ks,q::q2::l,hg,hl=>
    have hk:k="row"/\k2="rows":=by
     injection hg with h1 h2;injection h2 with h2 h3;exact⟨h1,h2⟩
    obtain⟨rfl,rfl⟩:=hk;obtain⟨A,r,e,h1,h2,h3⟩:=(hP 1 _ q2 rfl rfl).rows rfl;refine⟨A,r,dc (ks.map (cG fw)) (l.map (·.1)),?_,h1,h2,h3⟩;show dc (cG fw "row"::cG fw "rows"::ks.map (cG fw)) (q.1::q2.1::l.map (·.1))=_;rw[vv (x4 fw),oS (pe fw),e]
theorem d3{c d k:Nat}(h:c≠d):c∉List.replicate k d:=λ z=>h (H_ z)
theorem yq{p:Str×List Str}{m w g i j a c:Nat}{l:List (D×List Nat)}(hp:good p=true)(hl:l.length=p.2.length)(hP:∀(t:Nat) k q,p.2[t]?=some k->l[t]?=some q->ko m w k (cG (mC p.1) k) q.1 q.2)(T:List Nat)(hT:T=p.1.cps.toList++List.replicate (g+1) 32++Tx.bq (List.replicate i 32++58::List.replicate j 32) (l.map (·.2))):
 iG (List.replicate a 32++T++List.replicate c 32) (.tup (.str p.1::l.map (·.1)))/\10∉List.replicate a 32++T++List.replicate c 32:=by
 unfold good at hp;rw[Ho,Ho,Ho,Ho,JN,Ig,Ig,Ig]at hp;obtain⟨⟨⟨⟨g1,g2⟩,g3,g4,g5⟩,g6⟩,g7⟩:=hp;have g2:∀x∈p.1.cps.toList,97<=x/\x<=122:=λ x hx=>Kh (HH.mp g2 x hx);obtain⟨A,r,gs,ha,hA,h0,hr⟩:=tj g7 hl hP
 have l1:1<=l.length:=by
  rcases g7 with z|z<;>(cases hz:p.2 with
   |nil=>rw[hz]at z;cases z
   |cons x y=>rw[hl,hz,Hl];omega)
 have hD:∀y∈l.map (·.2),Le y/\58∉y/\10∉y:=λ y hy=>by
  obtain⟨q,hq,rfl⟩:=Hv.mp hy;obtain⟨t,ht⟩:=Hx.mp hq;have lt:=(GW.mp ht).1;have:=hP t _ q (G0 (by omega)) ht;exact⟨this.le,this.Gq,this.l4⟩
 have hne:l.map (·.2)≠ []:=λ z=>by
  have:=H0 List.length z;rw[GV]at this;have z0:l.length=0:=this;omega
 obtain⟨qs,e1,e2,e3⟩:=Tx.mN (c:=58) (b:=32) (i:=i) (j:=j) (by decide) (l.map (·.2)) hne λ y hy=>(hD y hy).2.1;have hJ:=k0 (S:=List.replicate i 32++58::List.replicate j 32) hne λ y hy=>(hD y hy).1
 have nS:10∉List.replicate i 32++58::List.replicate j 32:=λ z=>by
  rcases Hz.mp z with z|z
  . exact d3 (by decide) z
  . rcases G9.mp z with z|z
    . cases z
    . exact d3 (by decide) z
 have nJ:=gA (c:=10) nS λ y hy=>(hD y hy).2.2;generalize Tx.bq (List.replicate i 32++58::List.replicate j 32) (l.map (·.2))=J at hT e1 hJ nJ;have nW:∀x,x<97->x∉p.1.cps.toList:=λ x hx z=>by have:=g2 x z;omega
 have hTe:T=p.1.cps.toList++32::(List.replicate g 32++J):=by
  rw[hT,HG,Hn];rfl
 have hb:eB (List.replicate a 32++T++List.replicate c 32)=T:=by
  refine Tx.rD (by decide) (λ d t e=>?_) (λ d t e=>?_) a c
  . rw[hTe]at e;cases hz:p.1.cps.toList with
    |nil=>rw[hz]at g3;simp at g3
    |cons x y=>
     rw[hz]at e;injection e with e _;have:=g2 x (by rw[hz];exact Hm);exact Hc (by omega)
  . obtain⟨l0,d0,e0,h0⟩:=le_app (L:=p.1.cps.toList++List.replicate (g+1) 32) hJ;rw[<-hT,e]at e0;have:=List.append_inj_right' e0 rfl;injection this with this _;exact Hc (by rw[this];exact h0)
 obtain⟨pl,pa⟩:=wK (c:=58) (d:=32) (k:=g) (by decide) J;have ew:(⟨p.1.cps.toList.toArray⟩:Str)=p.1:=by rw[Array.toArray_toList]
 refine⟨?_,?_⟩
 . split at g1
   . rename_i ad ea;have g1:=Kh g1;refine⟨p.1.cps.toList,List.replicate g 32++J,ad,p.2.map (cG (mC p.1)),l.map (·.1),A,r,gs,by rw[show tx p.1.cps.toList= .str p.1 by show D.str _=_;rw[ew]],hb.trans hTe,nW 32 (by decide),by rw[ew,ea];rfl,g1,by rw[GV];omega,by rw[pl,e1,e2,GV,GV,hl],by rw[GV,GV,hl],?_,ha,h0⟩;intro t s y v hs hy hv;rw[Hb]at hs hv;obtain⟨k,hk,rfl⟩:=HN.mp hs;obtain⟨q,hq,rfl⟩:=HN.mp hv;have Dq:=hP t k q hk hq;obtain⟨y0,x,ey,rfl⟩:=pa t y hy;obtain⟨x1,x2,e4⟩:=e3 t q.2 (by rw[Hb,hq];rfl);rw[e1]at ey;rw[ey]at e4;cases e4;refine⟨?_,by rw[hA,hr];exact Dq.fit⟩;have:=vn Dq.val (x+x1) x2;rw[<-JD,Hn,Hn]at this;rw[Hn];exact this
   . cases g1
 . intro z;rcases Hz.mp z with z|z
   . rcases Hz.mp z with z|z
     . exact d3 (by decide) z
     . rw[hT]at z;rcases Hz.mp z with z|z
       . rcases Hz.mp z with z|z
         . exact nW 10 (by decide) z
         . exact d3 (by decide) z
       . exact nJ z
   . exact d3 (by decide) z
theorem Al{z:Str}{xs:List D}{l:List Str}{st:af}{K:DK}(h:L3.strs? xs=some l)(k:K (.bl (l.any λ y=>y==z)) st):nq (.str z) (.tup xs) st K:=by
 unfold nq qb;simp only[h];exact k
theorem zS{i:Int}(h0:0<=i)(h1:i<14):∃p,good p=true/\cR (iV.map qk) i=some (qk p):=by
 obtain⟨j,rfl⟩:∃j:Nat,i=j:=⟨i.toNat,by omega⟩
 have hj:j<iV.length:=by show j<14;omega
 refine⟨iV[j],HH.mp D4 _ (List.getElem_mem hj),la ?_⟩;rw[Hb,G0 hj];rfl
def Fg(p:D×List Nat):D:= .tup [p.1,tx p.2]
abbrev rj:DS:=(aw (aP 5 (aj bh (dC (.int 1)) (ax aL (aa (ab 0) (aa (ab 3) ag)))))
 (aw (aP 6 (bz (cu (ab 2)) [none,some 0,some 4,some 5] (cm 0) bp (ax fU (aa (ab 1) (aa (ab 0) (aa (ab 2) (aa (ab 3) ag)))))))
 (aw (aP 7 (aj bh (aj bh (ab 1) (ax eP (aa (ab 0) ag))) (dr rJoin (ax dE (aa (ab 0) (aa (dC (.str ":")) ag))) (bz (cu (ab 6)) [none,none] (bX 0 1) bp (ab 1)))))
 (aX (bj (aa (aj bh (bj (aa (ab 1) ag)) (aU cH (aa (bz (cu (ab 6)) [none,none] (bX 0 1) bp (ab 0)) ag))) (aa (aj bh (aj bh (aj eC (dC (.str " ")) (ax aL (aa (ab 0) (aa (dC (.int 2)) ag)))) (ab 7)) (aj eC (dC (.str " ")) (ax aL (aa (ab 0) (aa (dC (.int 2)) ag))))) ag)))))))
theorem nh{E:gv}{st:af}{n m:Nat}{p:Str×List Str}{b mo:Int}(hg:good p=true)(B:Bx st n b)(hb:b<=500000010)(mo0:0<mo)(mo8:mo<=8)(m1:1<=m)(m8:m<=8)(mf:mC p.1=true->m<=5)
 (k:∀(o:D) (L:List Nat) st',iG L o->10∉L->L.length<=6000->Bx st' n (b+3900)->Upd st n st'->E.rt (.tup [o,tx L]) st'):
 rj E [some (.ref n),some (.str p.1),some (.tup (p.2.map D.str)),some (.int mo),some (.int (m:Int)),none,none,none] st:=by
 refine⟨n,mo,b,rfl,B,by omega,mo0,by omega,λ w' st1 w0 w1 B1 U1=>cV ?_⟩;obtain⟨w,hw⟩:∃w:Nat,1+w'=(w:Int):=⟨(1+w').toNat,by omega⟩
 rw[hw];have hgd:=hg;unfold good at hgd;rw[Ho,Ho,Ho,Ho,Ig]at hgd;obtain⟨⟨⟨_,g3,g4,g5⟩,g6⟩,_⟩:=hgd;have lx:(p.2.map D.str).length=p.2.length:=GV ..;refine n_ ⟨a7 (by rw[lx];omega),?_⟩;refine g_ (f:=Fg) (P:=λ x q=>∃kd,x= .str kd/\ko m w kd (cG (mC p.1) kd) q.1 q.2) (n:=n) (b:=b+1) (c:=600) (by decide) B1 (λ x hx b' st' K' B' hb' _ kk=>?_) (λ l st2 hl hP B2 U2=>?_)
 . obtain⟨kd,hk,rfl⟩:=Hv.mp hx;rw[lx]at hb';exact⟨_,rfl,n,m,w,kd,_,b',rfl,wH (HH.mp g6 kd hk) mf,B',by omega,m1,m8,by omega,by omega,λ v L st3 h B3 U3=>kk (v,L) st3 ⟨kd,rfl,h⟩ B3 U3⟩
 . rw[lx]at hl B2
   have hP':∀(t:Nat) kd q,p.2[t]?=some kd->l[t]?=some q->ko m w kd (cG (mC p.1) kd) q.1 q.2:=λ t kd q hk hq=>by
    obtain⟨kd',e,h⟩:=hP t (.str kd) q (by rw[Hb,hk];rfl) hq;cases e;exact h
   have hlen:∀y∈l.map (·.2),y.length<=1000:=λ y hy=>by
    obtain⟨q,hq,rfl⟩:=Hv.mp hy;obtain⟨t,ht⟩:=Hx.mp hq;have lt:=(GW.mp ht).1;exact(hP' t _ q (G0 (by omega)) ht).len
   have lz:(l.map Fg).length<=sizeLine:=a7 (by rw[GV];omega);have ew:D.str p.1=tx p.1.cps.toList:=by show _=D.str _;rw[Array.toArray_toList]
   refine⟨n,b+1+600*p.2.length,rfl,B2,by omega,λ g st3 hgg B3 U3=>?_⟩;rw[ew];refine c9 (by rw[He];omega) ?_;refine kF ⟨n,58,_,rfl,B3,by omega,λ i j st4 hi hj B4 U4=>?_⟩;dsimp only;refine d5 ⟨lz,?_⟩;refine dR (ys:=(l.map (·.2)).map tx) trivial (by rw[GV,GV,GV]) (λ t x y hx hy K' q=>?_) ?_
   . rw[HC]at hy;obtain⟨z,_,rfl,rfl⟩:=iX hx hy;exact⟨_,rfl,q⟩
   have lS:(List.replicate i 32++58::List.replicate j 32).length<=5:=by rw[GX,Hl,He,He];omega
   have lJ:=jy (S:=List.replicate i 32++58::List.replicate j 32) hlen;rw[GV]at lJ;have lJ2:l.length*(1000+(List.replicate i 32++58::List.replicate j 32).length)<=5*1005:=Jm (by omega) (by omega);refine oF (B:=1000) hlen (by rw[GV,<-Nat.mul_add];omega) ?_;obtain⟨T,hT⟩:∃T,T=p.1.cps.toList++List.replicate (g+1) 32++Tx.bq (List.replicate i 32++58::List.replicate j 32) (l.map (·.2)):=⟨_,rfl⟩
   have lT:T.length<=5050:=by rw[hT,GX,GX,He];omega
   refine c9 (by rw[GX,He];omega) ?_;rw[<-hT,<-ew];refine⟨G_ rfl,d5 ⟨lz,?_⟩⟩;refine dR (ys:=l.map λ q=>q.1) trivial (by rw[GV,GV]) (λ t x y hx hy K' q=>?_) ?_
   . obtain⟨z,_,rfl,rfl⟩:=iX hx hy;exact⟨_,rfl,q⟩
   refine dj (d:= .lst (l.map λ q=>q.1)) (xs:=l.map λ q=>q.1) rfl ?_;refine tP (xs:=[.str p.1]) (ys:=l.map λ q=>q.1) (by rw[GV];exact a7 (show 1+l.length<=100000 by omega)) ?_;refine⟨n,2,_,rfl,B4,by omega,by decide,by decide,λ a' st5 a0 a1 B5 U5=>?_⟩;obtain⟨a,rfl⟩:∃a:Nat,a'=a:=⟨a'.toNat,by omega⟩
   refine dY (m:=a) (by omega) (c9 (L:=List.replicate a 32) (M:=T) (by rw[He];omega) ?_);refine⟨n,2,_,rfl,B5,by omega,by decide,by decide,λ c' st6 c0 c1 B6 U6=>?_⟩;obtain⟨c,rfl⟩:∃c:Nat,c'=c:=⟨c'.toNat,by omega⟩
   refine dY (m:=c) (by omega) (c9 (L:=List.replicate a 32++T) (M:=List.replicate c 32) (by rw[GX,He,He];omega) ⟨G_ rfl,?_⟩);obtain⟨O,l4⟩:=yq (a:=a) (c:=c) hg hl hP' T hT;refine k _ _ st6 O l4 (by rw[GX,GX,He,He];omega) (B6.mono (by omega)) (((((U1.trans U2).trans U3).trans U4).trans U5).trans U6)
theorem rq:GU iF 1 sJ lV:=by
 rintro ds st K ⟨n,b,rfl,B,hb,k⟩;refine⟨rfl,rfl,⟨n,14,b,rfl,B,by omega,by decide,by decide,λ t st1 t0 t1 B1 U1=>?_⟩⟩;obtain⟨p,hg,et⟩:=zS t0 t1;refine ba (xs:=iV.map qk) rfl et ⟨_,rfl,⟨G_ rfl,n,8,b+1,rfl,B1,by omega,by decide,by decide,λ y st2 y0 y1 B2 U2=>jY (iU ?_)⟩⟩
 have mo:∃mo:Int,0<mo/\mo<=8/\cR [D.int 3,D.int 8] (if decide (y=0)=true then 1 else 0)=some (.int mo):=by
  by_cases h:y=0
  . exact⟨8,by decide,by decide,by rw[Hr h];rfl⟩
  . exact⟨3,by decide,by decide,by rw[Hc h];rfl⟩
 obtain⟨mo,mo0,mo8,em⟩:=mo;refine ba (xs:=[D.int 3,D.int 8]) rfl em ⟨n,mo,b+1+1,rfl,B2,by omega,mo0,by omega,λ m' st3 m0 m1 B3 U3=>cV ?_⟩;have U:=(U1.trans U2).trans U3;have kk:∀(o:D) (L:List Nat) st',iG L o->10∉L->L.length<=6000->Bx st' n (b+1+1+1+3900)->Upd st3 n st'->K (.tup [o,tx L]) st':=λ o L st' h1 h2 h3 B' U'=>k o L st' h1 h2 h3 (B'.mono (by omega)) (U.trans U');refine⟨G_ rfl,Al (l:=["near","nearest","shortest"]) rfl ?_⟩;obtain⟨m,hm⟩:∃m:Nat,1+m'=(m:Int):=⟨(1+m').toNat,by omega⟩
 rw[hm];cases hf:mC p.1 with
 |true=>
  rw[show(["near","nearest","shortest"]:List Str).any (λ y=>y==p.1)=true from hf];refine bA (xC ?_)
  obtain⟨m2,hm2⟩:∃m2:Nat,(if(5:Int)<(m:Int)then 5 else(m:Int))=(m2:Int):=by
   split
   . exact⟨5,rfl⟩
   . exact⟨m,rfl⟩
  have l2:1<=m2/\m2<=5:=by split at hm2<;>omega
  rw[hm2];exact nh hg B3 (by omega) mo0 mo8 l2.1 (by omega) (λ _=>l2.2) kk
 |false=>
  rw[show(["near","nearest","shortest"]:List Str).any (λ y=>y==p.1)=false from hf];exact aS (nh hg B3 (by omega) mo0 mo8 (by omega) (by omega) (λ h=>by rw[hf]at h;cases h) kk)
def tA:Nat->D->Bool
 |_,.int _=>true
 |_,.str _=>true
 |n+1,.tup xs=>decide (xs.length<=1000)&&xs.all (tA n)
 |_,_=>false
def dw:Nat->bC
 |0=>λ _ _ _=>False
 |n+1=>λ ds st K=>∃x,ds=[x,x]/\tA n x=true/\K (.bl true) st
theorem pQ:∀ds st K,¬dw 0 ds st K:=λ _ _ _ h=>h
def iI:List Str:=["_law_found","_law_due"]
def tE(SR:bC):DS:=(aw (bG (aG (aU ff (aa (ab 1) (aa (dC (.ty "str")) ag)))) (aX (jo (aU ff (aa (ab 0) (aa (dC (.ty "str")) ag))) (aj ck (ab 0) (ab 1)))) bo)
 (aw (bG (aG (aU ff (aa (ab 1) (aa (dC (.ty "tuple")) ag)))) (aw (bG (gT (eE (aG (aU ff (aa (ab 0) (aa (dC (.ty "tuple")) ag))))) (aG (aj fv (aU bP (aa (ab 0) ag)) (aU bP (aa (ab 1) ag))))) (aX (dC (.bl false))) bo)
 (aX (aU jK (aa (bz (yW (aa (ab 0) (aa (ab 1) ag))) [none,none] (bX 0 1) bp (ax SR (aa (ab 0) (aa (ab 1) ag)))) ag)))) bo)
 (aX (ax (fE 4) (aa (ab 0) (aa (ab 1) ag))))))
theorem qH:∀n ds st K,dw (n+1) ds st K->ds.length=2/\tE (dw n) {nx:=λ _ st'=>K .aH st',rt:=K} (aY iI ds) st:=by
 rintro n ds st K ⟨x,rfl,hx,k⟩;refine⟨rfl,?_⟩;cases x with
 |int i=>
  exact cA rfl (by decide) (cA rfl (by decide) ⟨_,rfl,rfl,k⟩)
 |str z=>
  refine cA rfl (by decide) (bA (cA rfl (by decide) (bA (aT rfl rfl ?_))));rw[cF];exact k
 |tup xs=>
  cases n with
  |zero=>cases hx
  |succ n=>
   unfold tA at hx;rw[Ho,Ig]at hx;refine cA rfl (by decide) (cA rfl (by decide) (bA (cA rfl (by decide) (cj rfl (cj rfl (wu rfl ?_))))));refine wb rfl rfl λ ok aF=>⟨gJ (by rw[fL];omega),?_⟩
   refine comp_map (g:=λ _=> .bl true) (aF st rfl rfl) _ (λ d hd K' q=>?_) ?_
   . obtain⟨y,hy,rfl⟩:=o9 hd;exact⟨_,rfl,y,rfl,HH.mp hx.2 y hy,q⟩
   . refine nM (k5 _) ?_;rw[p_];exact k
 |_=>cases n<;>cases hx
abbrev y9:bC:=v9 []
def zO:List Str:=["_law_script","_law_rows","_law_due","_law_left","_law_k","_law_box_here","_law_order_here","_law_text"]
def D1:DS:=(aw (aP 1 (ou ag))
 (aw (aP 2 (ou ag))
 (aw (aP 3 (dC (.int 3900)))
 (aw (uM (eQ (aa (aU om (aa (dC (.int 1)) (aa (aU oN (aa (aU bP (aa (ab 0) ag)) (aa (dC (.int 30)) ag))) ag))) ag)) (cm 4) (aw (aP 5 (ax kr (aa (ab 0) (aa (ab 4) ag))))
 (aw (uF (bX 6 7) (ax iF (aa (ab 5) ag)))
 (bG (nu (aG (aj gW (aj bh (aU bP (aa (ab 7) ag)) (dC (.int 4))) (ab 3))) (aG (aj i6 (aU bP (aa (ab 1) ag)) (dC (.int 39))))) (aw (aP 3 (aj eZ (aj eZ (ab 3) (aU bP (aa (ab 7) ag))) (dC (.int 4))))
 (aw (lg (fK (ab 1) (ab 7)))
 (aw (lg (fK (ab 2) (ab 6)))
 (bG (nu (aG (aj ck (ax aL (aa (ab 5) (aa (dC (.int 5)) ag))) (dC (.int 0)))) (aG (aj i6 (aU bP (aa (ab 1) ag)) (dC (.int 38))))) (lg (fK (ab 1) (aj eC (dC (.str " ")) (ax aL (aa (ab 5) (aa (dC (.int 3)) ag)))))) bo)))) bo))))
 (aw (bG (eE (aG (ax (dw 5) (aa (ax eA (aa (dr rJoin (dC (.str "\n")) (ab 1)) ag)) (aa (aU cH (aa (ab 2) ag)) ag))))) (aX (dC (.bl false))) bo)
 (aX (jo (aj ck (ax eA (aa (dC (.str "")) ag)) (bj ag)) (aj ck (ax eA (aa (dC (.str " \n\n  ")) ag)) (bj ag)))))))))
theorem j5{n:Nat}{xs:List D}(h:xs.length<=1000)(h2:∀x∈xs,tA n x=true):tA (n+1) (.tup xs)=true:=by
 unfold tA;rw[Ho,Ig];exact⟨h,HH.mpr h2⟩
theorem m_{n:Nat}{r:List Int}(h:r.length<=1000):tA (n+1) (df r)=true:=j5 (by rw[GV];exact h) λ x hx=>by
 obtain⟨i,_,rfl⟩:=Hv.mp hx;unfold tA;rfl
theorem ud{A:List (List Int)}{w:Nat}{L:List Nat}(h:hU A w L)(l:A.length<=8):tA 2 (dQ A)=true:=j5 (by rw[GV];omega) λ x hx=>by
 obtain⟨r,hr,rfl⟩:=Hv.mp hx;obtain⟨i,hi⟩:=Hx.mp hr;have li:=(GW.mp hi).1;have:=(h.row i _ r (G0 (by rw[h.len];exact li)) hi).1.l8;exact m_ (by omega)
theorem uq{n:Nat}{a b:Int}:tA (n+1) (.tup [.int a,.int b])=true:=m_ (r:=[a,b]) (show 2<=1000 by decide)
theorem BV{s:Str}{p:List Nat}{v:D}(h:gj s p v):tA 2 v=true:=by
 cases h with
 |rows h l=>exact ud h l
 |jZ h l=>exact ud h (by omega)
 |square h=>exact uq
 |point h=>
  refine j5 (by rw[GV];have:=h.l8;omega) λ x hx=>?_;obtain⟨q,_,rfl⟩:=Hv.mp hx;exact uq
 |row h=>exact m_ (by have:=h.l8;omega)
 |kL h=>exact m_ (by have:=h.l8;omega)
theorem Cf{L:List Nat}{o:D}(h:iG L o):tA 3 o=true:=by
 obtain⟨W,R,c,ts,vs,A,r,g,rfl,_,_,_,_,h10,hl,hv,hh,_,_⟩:=h;refine j5 (by rw[Hl];omega) λ x hx=>?_;rcases G9.mp hx with rfl|hx
 . unfold tA;rfl
 . obtain⟨i,hi⟩:=Hx.mp hx;have li:=(GW.mp hi).1;exact BV (hh i _ _ x (G0 (by omega)) (G0 (by omega)) hi).1
theorem mK:∀ {ps:List (List Nat)} {os:List D},cU ps os->∀o∈os,tA 3 o=true
 |_,_,.nil=>λ o h=>by cases h
 |_,_,.skip _ r=>mK r
 |_,_,.keep h r=>λ o ho=>by
  rcases G9.mp ho with rfl|ho
  . exact Cf h
  . exact mK r o ho
theorem kA{p:List Nat}{o:D}(h:iG p o):∀ {ps:List (List Nat)} {os:List D},cU ps os->cU (ps++[p]) (os++[o])
 |_,_,.nil=> .keep h .nil
 |_,_,.skip z r=> .skip z (kA h r)
 |_,_,.keep z r=> .keep z (kA h r)
theorem iJ{p:List Nat}(h:eB p=[]):∀ {ps:List (List Nat)} {os:List D},cU ps os->cU (ps++[p]) os
 |_,_,.nil=> .skip h .nil
 |_,_,.skip z r=> .skip z (iJ h r)
 |_,_,.keep z r=> .keep z (iJ h r)
theorem yM(k:Nat):eB (List.replicate k 32)=[]:=by
 have:=Tx.rD (c:=32) (goes:=λ d=>decide (d=32)) (by decide) (M:=[]) (λ d l e=>by cases e) (λ d l e=>by simp at e) k 0;rw[HL,List.replicate_zero,HL]at this;exact this
def kI(ps:List (List Nat)):Nat:=(ps.map λ p=>p.length+1).sum
theorem n5(ps:List (List Nat))(p:List Nat):kI (ps++[p])=kI ps+(p.length+1):=by
 unfold kI;rw[Iw,List.sum_append];simp
theorem tJ:∀ {ps:List (List Nat)} {p:List Nat},p∈ps->p.length+1<=kI ps
 |q::ps,p,h=>by
  have e:kI (q::ps)=q.length+1+kI ps:=rfl;rcases G9.mp h with rfl|h
  . omega
  . have:=tJ h;omega
theorem rS{c:Nat}:∀ps:List (List Nat),(Tx.bq [c] ps).length<=kI ps
 | []=>IS _
 | [p]=>by
   have e:kI [p]=p.length+1+0:=rfl;show p.length<=_;omega
 |p::q::r=>by
  have e:kI (p::q::r)=p.length+1+kI (q::r):=rfl;have:=rS (c:=c) (q::r);show(p++[c]++Tx.bq [c] (q::r)).length<=_;rw[GX,GX];show p.length+1+_<=_;omega
theorem pG{c:Nat}:∀ps:List (List Nat),ps≠ []->(∀p∈ps,c∉p)->Tx.bb c (Tx.bq [c] ps)=ps
 | [],h,_=>absurd rfl h
 | [p],_,h=>Tx.eN p (h p (by simp))
 |p::q::r,_,h=>by
  show Tx.bb c (p++[c]++Tx.bq [c] (q::r))=_;rw[Hn];show Tx.bb c (p++c::Tx.bq [c] (q::r))=_;rw[Tx.iS _ _ (h p (by simp)),pG (q::r) (by simp) λ y hy=>h y (G7 _ hy)]
theorem tf{ps:List (List Nat)}{os:List D}(h:cU ps os)(h10:∀p∈ps,10∉p):cU (Tx.bb 10 (Tx.bq [10] ps)) os:=by
 cases hp:ps with
 |nil=>
  rw[hp]at h;cases h;exact .skip rfl .nil
 |cons q r=>
  rw[<-hp,pG ps (by rw[hp];simp) h10];exact h
theorem Bx.cell{st st':af}{n:Nat}{b:Int}(B:Bx st n b)(e:st'[n]?=st[n]?):Bx st' n b:=by
 obtain⟨x,y,z,e1,r⟩:=B.ex;exact⟨x,y,z,e.trans e1,r⟩
theorem BB{r:jS}{i:Nat}{σ:bc}{te:DE}{st:af}{K:DK}{s:Str}{y:D}(h:σ[i]?=some (some y))(he:te=dC (.str s))(k:r s y st K):dr r te (ab i) σ st K:=by
 subst he;unfold dr;exact mS (K:=λ y st2=>r s y st2 K) h k
structure xq(s:af)(ps:List (List Nat))(os:List D)(left:Int):Prop where
 e0:s[0]?=some (.lst (ps.map tx))
 e1:s[1]?=some (.lst os)
 ro:cU ps os
 l4:∀p∈ps,10∉p
 lt:(kI ps:Int)+left<=3900
 l0:0<=left
 len:ps.length<=39
 ol:os.length<=ps.length
theorem xq.cell{s s':af}{ps:List (List Nat)}{os:List D}{left:Int}(I:xq s ps os left)(h0:s'[0]?=s[0]?)(h1:s'[1]?=s[1]?):xq s' ps os left:=⟨h0.trans I.e0,h1.trans I.e1,I.ro,I.l4,I.lt,I.l0,I.len,I.ol⟩
theorem Dk(m:Int):∃k:Nat,(if(if(30:Int)<m then 30 else m)>1 then(if(30:Int)<m then 30 else m)else 1)=(k:Int)/\k<=30:=by
 refine⟨(if(if(30:Int)<m then 30 else m)>1 then(if(30:Int)<m then 30 else m)else 1).toNat,?_,?_⟩<;>(split<;>(try split)<;>omega)
theorem CB:GU y9 1 D1 zO:=by
 rintro ds st K ⟨ns,rfl,hl,hst,k⟩;refine⟨rfl,?_⟩;have hst:st=[]:=hst;subst hst;refine⟨G_ rfl,⟨G_ rfl,?_⟩⟩;refine cj rfl (xC (wB ?_));obtain⟨m,hm,m30⟩:=Dk ((ns.map D.int).length:Int);rw[hm];refine kW ⟨by omega,by omega⟩ ?_;rw[ID];refine oY m (λ j σ s=>∃(ps:List (List Nat)) (os:List D) (left:Int) (o4 o5 o6 o7:Option D),σ=[some (.lst (ns.map .int)),some (.ref 0),some (.ref 1),some (.int left),o4,o5,o6,o7]/\xq s ps os left) ?_ ?_ ⟨[],[],3900,none,none,none,none,rfl,⟨rfl,rfl,.nil,λ p h=>(by cases h),by decide,by decide,by decide,by decide⟩⟩
 . rintro σ s ⟨ps,os,left,o4,o5,o6,o7,rfl,I⟩
   have hb:∀p∈ps,p.length<=3900:=λ p hp=>by
    have:=tJ hp;have:=I.lt;have:=I.l0;omega
   have hpl:=I.len;have hj:ps.length*3900+ps.length*([10]:List Nat).length<=1000000:=by show ps.length*3900+ps.length*1<=_;omega
   have hjl:=rS (c:=10) ps;have hlt:=I.lt;have hl0:=I.l0;refine BB (i:=1) (y:= .ref 0) rfl rfl ?_;rw[wo,sm];refine rp (S:=[10]) rfl (eR I.e0) hb hj ⟨_,os,rfl,by omega,tf I.ro I.l4,?_⟩;refine dj (eR I.e1) ⟨.tup os,rfl,j5 (by have:=I.ol;omega) (mK I.ro),aS ?_⟩;refine⟨[],[],rfl,by decide,.skip rfl .nil,⟨G_ rfl,aT rfl rfl ?_⟩⟩;have e0:bN (.tup []) (.tup [])=true:=by decide
   rw[e0];refine bA ⟨[32,10,10,32,32],[],rfl,by decide,.skip rfl (.skip rfl (.skip rfl .nil)),⟨G_ rfl,aT rfl rfl ?_⟩⟩;rw[e0];exact k s
 . rintro j σ s rest hj ⟨ps,os,left,o4,o5,o6,o7,rfl,I⟩ next
   refine⟨_,rfl,?_⟩;refine⟨ns,j,rfl,by omega,by omega,hl,λ s1 B1 l1 X1=>?_⟩;have h2:1<s.length:=(GW.mp I.e1).1;have I1:=I.cell (X1 0 (by omega)) (X1 1 (by omega));generalize s.length=n at B1 h2;refine⟨n,7000,rfl,B1,by decide,λ o L s2 hO l4 hL B2 U2=>⟨_,rfl,?_⟩⟩;have I2:=I1.cell (U2.same 0 (by omega)) (U2.same 1 (by omega));refine oD (x:=⟨L.toArray⟩) (by rw[bI];exact a7 (by omega)) (cV ?_);rw[bI];have I0:=I2.e0;have I1':=I2.e1;refine Fv (λ hle=>bA (cj (eR I0) ?_)) λ _=>aS (aS (next _ _ ⟨ps,os,left,_,_,_,_,rfl,I2⟩));rw[GV];refine zE (λ h39=>bA ?_) λ _=>aS (next _ _ ⟨ps,os,left,_,_,_,_,rfl,I2⟩);have hlt:=I.lt;have hl0:=I.l0;have hol:=I.ol;refine oD (x:=⟨L.toArray⟩) (by rw[bI];exact a7 (by omega)) (eh (eh ?_));rw[bI];refine rY (i:=1) (n:=0) rfl I0 (mS rfl (nU I0 (by rw[GV];exact Hw (show ps.length<100000 by omega) (a7 (G8 _))) ?_));have e1':(s2.set 0 (.lst (ps.map tx++[tx L])))[1]?=some (.lst os):=by rw[HB (by decide)];exact I1'
   refine rY (i:=2) (n:=1) rfl e1' (mS rfl (nU e1' (Hw (show os.length<100000 by omega) (a7 (G8 _))) ?_));have n0:n≠0:=by omega
   have n1:n≠1:=by omega
   have B3:Bx ((s2.set 0 (.lst (ps.map tx++[tx L]))).set 1 (.lst (os++[o]))) n (7000+4000):=B2.cell (by rw[HB (HP n1),HB (HP n0)]);have em:ps.map tx++[tx L]=(ps++[L]).map tx:=by rw[Iw];rfl
   have s20:0<s2.length:=(GW.mp I0).1;have s21:1<s2.length:=(GW.mp I1').1
   have I3:xq ((s2.set 0 (.lst (ps.map tx++[tx L]))).set 1 (.lst (os++[o]))) (ps++[L]) (os++[o]) (left-L.length-4):=by
    refine⟨?_,?_,kA hO I.ro,λ p hp=>?_,?_,by omega,?_,?_⟩
    . rw[HB (by decide),HJ s20,em]
    . rw[HJ (by rw[HZ];exact s21)]
    . rcases Hz.mp hp with hp|hp
      . exact I.l4 p hp
      . rw[IP.mp hp];exact l4
    . rw[n5];omega
    . rw[GX];show ps.length+1<=39;omega
    . rw[GX,GX];show os.length+1<=ps.length+1;omega
   generalize(s2.set 0 (.lst (ps.map tx++[tx L]))).set 1 (.lst (os++[o]))=s3 at B3 I3⊢;refine⟨n,5,_,rfl,B3,by decide,by decide,by decide,λ y s4 y0 y1 B4 U4=>?_⟩;have I4:=I3.cell (U4.same 0 (HP n0)) (U4.same 1 (HP n1));have fin:=next _ _ ⟨ps++[L],os++[o],left-L.length-4,some (.int (j:Int)),some (.ref n),some o,some (tx L),rfl,I4⟩
   refine eq2 (λ _=>bA (cj (eR I4.e0) ?_)) λ _=>aS (aS fin);rw[GV];refine zE (λ h38=>bA ?_) λ _=>aS fin;refine rY (i:=1) (n:=0) rfl I4.e0 ?_;refine⟨n,3,_,rfl,B4,by decide,by decide,by decide,λ z s5 z0 z1 B5 U5=>?_⟩;obtain⟨z,rfl⟩:∃c:Nat,z=c:=⟨z.toNat,by omega⟩
   have I5:=I4.cell (U5.same 0 (HP n0)) (U5.same 1 (HP n1));have I50:=I5.e0;refine dY (m:=z) (by omega) (nU I50 (by rw[GV];exact Hw (show(ps++[L]).length<100000 by omega) (a7 (G8 _))) ?_);have s50:0<s5.length:=(GW.mp I50).1;refine next _ _ ⟨ps++[L]++[List.replicate z 32],os++[o],left-L.length-4,_,_,_,_,rfl,⟨?_,?_,iJ (yM z) I5.ro,λ p hp=>?_,?_,by omega,?_,?_⟩⟩
   . rw[HJ s50,Iw (l₁:=ps++[L])];rfl
   . rw[HB (by decide)];exact I5.e1
   . rcases Hz.mp hp with hp|hp
     . exact I5.l4 p hp
     . rw[IP.mp hp];exact d3 (by decide)
   . rw[n5,n5,He];omega
   . rw[GX];show(ps++[L]).length+1<=39;omega
   . rw[GX,GX];show os.length+1<=_+1;rw[GX];show _<=ps.length+1+1;omega
end Prog
namespace Row
open PySem L2 L3 Prog
open PySem.Spec hiding items?
open PyProof.Rows hiding St
theorem wj:(("abs":Str))≠"__name__":=by decide+kernel
theorem bE:(("len":Str))≠"__name__":=by decide+kernel
theorem mR:(("all":Str))≠"__name__":=by decide+kernel
theorem jd:(("int":Str))≠"__name__":=by decide+kernel
theorem bZ:(("tuple":Str))≠"__name__":=by decide+kernel
theorem CZ:(("any":Str))≠"__name__":=by decide+kernel
theorem bK:(("isinstance":Str))≠"__name__":=by decide+kernel
theorem oM:(("bool":Str))≠"__name__":=by decide+kernel
theorem ky:(("str":Str))≠"__name__":=by decide+kernel
theorem qL:(("max":Str))≠"__name__":=by decide+kernel
theorem xM:(("min":Str))≠"__name__":=by decide+kernel
structure Bl(mg:Str->Option Value):Prop where
 zv:mg "abs"=none
 bS:mg "len"=none
 qg:mg "all"=none
 k6:mg "int"=none
 cE:mg "tuple"=none
 Er:mg "any"=none
 mY:mg "zip"=none
 tw:mg "enumerate"=none
 bQ:mg "isinstance"=none
 rm:mg "bool"=none
 lj:mg "range"=none
 nQ:mg "str"=none
 vp:mg "max"=none
 zx:mg "min"=none
structure Zl(mg:Str->Option Value):Prop where
 ow:mg "MOST_FIGURES"=some (.int (12) 265)
 nZ:mg "MOST_NUMBERS"=some (.int (8) 267)
 xu:mg "FIGURES"=some (.str "0123456789" 263)
 fO:mg "MOST_ROWS"=some (.ref 68)
 nY:mg "PARTS"=some (.ref 69)
theorem yh:VF mz so ["one","other"] ["abs"]:= .of (by decide+kernel)
theorem Dn:VF qK xB ["top","bottom"] ["common"]:= .of (by decide+kernel)
theorem zR:VF oK tK ["n"] []:= .of (by decide+kernel)
theorem aM:VF dg gR ["text"] ["len","MOST_FIGURES","all"]:= .of (by decide+kernel)
theorem c7:VF iP lK ["text","line"] ["is_number_text","int"]:= .of (by decide+kernel)
theorem aD:VF gg jV ["text","line"] ["number_of","whole","part"]:= .of (by decide+kernel)
theorem cw:VF gG rg ["text","read","line"] ["len","MOST_NUMBERS","tuple"]:= .of (by decide+kernel)
theorem bM:VF fX oR ["text","most","line"] ["tuple","len","any"]:= .of (by decide+kernel)
theorem bF:VF iK lP ["text","line"] ["fraction_of","row_of","len"]:= .of (by decide+kernel)
theorem a5:VF jA mP ["sort","text","line"] ["MOST_ROWS","rows_of","square_of","fraction_of","number_of","row_of"]:= .of (by decide+kernel)
theorem bJ:VF qD wQ ["sort","value","rows"] ["MOST_ROWS","len"]:= .of (by decide+kernel)
theorem fj:VF eV j7 ["sorts","values"] ["zip"]:= .of (by decide+kernel)
theorem aq:VF fb nH ["text","line"] ["PARTS","len","zip","rows_among","all","tuple"]:= .of (by decide+kernel)
theorem cB:VF fN lU ["text"] ["enumerate","tuple"]:= .of (by decide+kernel)
theorem xv:VF ke pz ["_law_script","_law_k"] ["len","abs","int"]:= .of (by decide+kernel)
theorem vB:VF jC nc ["_law_box_here","_law_many"] []:= .of (by decide+kernel)
theorem sH:VF iq lI ["_law_box_here"] ["_law_take"]:= .of (by decide+kernel)
theorem qv:VF gQ j4 ["_law_box_here"] ["_law_take","_law_small"]:= .of (by decide+kernel)
theorem q_:VF gO km ["_law_top","_law_bottom"] ["abs","int"]:= .of (by decide+kernel)
theorem ay:VF eK mD ["_law_found","_law_due"] ["tuple","isinstance","len","zip","all","bool","int"]:= .of (by decide+kernel)
theorem sT:VF iD lW [] []:= .of (by decide+kernel)
theorem ib:VF j0 oZ ["_law_box_here"] ["_law_take"]:= .of (by decide+kernel)
theorem cC:VF iB lH ["_law_box_here","_law_sign"] ["_law_take"]:= .of (by decide+kernel)
theorem aC:VF dJ ij ["_law_box_here","_law_wide"] ["range","tuple","str","_law_gap"]:= .of (by decide+kernel)
theorem mL:VF eM gF ["_law_box_here","_law_low"] ["_law_small","max","_law_take","str","_law_lowest"]:= .of (by decide+kernel)
theorem ak:VF b_ lG ["_law_box_here","_law_kind","_law_many","_law_wide"] ["_law_drawn_part","range","_law_gap","tuple","int","_law_drawn_row","_law_take","_law_round"]:= .of (by decide+kernel)
theorem ai:VF dz lV ["_law_box_here"] ["_law_kinds","_law_take","int","min","_law_gap","_law_round","tuple"]:= .of (by decide+kernel)
theorem au:VF c8 iI ["_law_found","_law_due"] ["str","isinstance","tuple","len","zip","all","_law_is"]:= .of (by decide+kernel)
theorem aE:VF mQ zO ["_law_script"] ["len","min","max","range","_law_box","_law_order","_law_take","tuple","orders_of","_law_alike"]:= .of (by decide+kernel)
structure Ev(w:World)(mg:Str->Option Value)(h:Heap):Prop where
 X:(KX w.params).In h
 G:h.Ns mainGlobals mg
section
variable {w:World}{mg:Str->Option Value}{h:Heap}(base:Heap)(e:Ev w mg h)
include e
set_option hygiene false
local macro_rules| `(tactic|nofun)=> `(tactic|repeat' first
 |(show JA _ _ _;first|exact ah|refine ae ?_ ?_)
 |(show JE (dv _ _ _ _ _ _ _) _ _;first|exact aO|refine dF ?_ ?_|first|refine aW c1.1 c1.2 (hr.mono (by decide)) ?_ (by decide+kernel) rfl|refine aW c2.1 c2.2 (hr.mono (by decide)) ?_ (by decide+kernel) rfl|refine aW c3.1 c3.2 (hr.mono (by decide)) ?_ (by decide+kernel) rfl|refine aW c4.1 c4.2 (hr.mono (by decide)) ?_ (by decide+kernel) rfl|refine aW c5.1 c5.2 (hr.mono (by decide)) ?_ (by decide+kernel) rfl|refine bf zo ?_ B.zv rfl wj (by decide+kernel) rfl|refine bf bU ?_ B.bS rfl bE (by decide+kernel) rfl|refine dN pR ?_ B.k6 rfl jd (by decide+kernel) rfl|refine dN uX ?_ B.nQ rfl ky (by decide+kernel) rfl|refine bf (uO rfl) ?_ B.vp rfl qL (by decide+kernel) rfl|refine cn (by first|exact cX|exact qz|exact zf|exact zI|exact zP|exact qf) ?_ ?_|refine cO (by first|exact cx hr|exact x6|exact uW|exact oz|exact gS) (aR _) ?_ ?_|refine fe ?_|refine pW ?_|refine ql ?_|refine vJ ?_|exact a_)
 |(show JE _ _ _;first|exact v.nm _|exact aO|refine dF ?_ ?_|first|refine aW c1.1 c1.2 (hr.mono (by decide)) ?_ (by decide+kernel) v.gM|refine aW c2.1 c2.2 (hr.mono (by decide)) ?_ (by decide+kernel) v.gM|refine aW c3.1 c3.2 (hr.mono (by decide)) ?_ (by decide+kernel) v.gM|refine aW c4.1 c4.2 (hr.mono (by decide)) ?_ (by decide+kernel) v.gM|refine aW c5.1 c5.2 (hr.mono (by decide)) ?_ (by decide+kernel) v.gM|refine bf zo ?_ B.zv rfl wj (by decide+kernel) v.gM|refine bf bU ?_ B.bS rfl bE (by decide+kernel) v.gM|refine dN pR ?_ B.k6 rfl jd (by decide+kernel) v.gM|refine dN uX ?_ B.nQ rfl ky (by decide+kernel) v.gM|refine bf (uO rfl) ?_ B.vp rfl qL (by decide+kernel) v.gM|refine cn (by first|exact cX|exact qz|exact zf|exact zI|exact zP|exact qf) ?_ ?_|refine cO (by first|exact cx hr|exact x6|exact uW|exact oz|exact gS) (aR _) ?_ ?_|refine fe ?_|refine pW ?_|refine ql ?_|refine vJ ?_|exact a_)
 |(show JB _ _ _;first|refine av ?_ ?_|refine aI ?_|exact br)
 |(show JS _ _ _;first|refine bw nd v.lM ?_|refine bH ?_ ?_ ?_|refine aZ ?_|refine yO ?_ ?_|refine yd ?_ ?_ ?_|refine Cy nd (by decide) v.loc v.loc ?_)
 |(show JT _ _ _;first|refine bu (by first|exact cx hr|exact x6|exact uW|exact oz|exact gS) (aR _) ?_ ?_|(show JT _ (.BoolOp _ _ _) _;refine fR ?_))
 |exact c_
 |intro _ _ _ _)
def Fk(w:World)(mg:Str->Option Value)(base:Heap)(n:Str)(s:Stmt)(ps:List Str)(a:Addr)(m:Value)(c:Addr)(k:Nat)(S:bC):Prop:=dX (KX w.params) mg n n s ps a (Hd.fd s n n m c)/\cK PW w (KX w.params) mg base fA k a (Hd.fd s n n m c) ps (hX S)
omit e in
theorem fk{n:Str}{s:Stmt}{N gl ps:List Str}{a:Addr}{m:Value}{c:Addr}{k:Nat}{S:bC}{t:DS}{base:Heap}(d:dX (KX w.params) mg n n s ps a (Hd.fd s n n m c))(v:VF s N ps gl)(g:VS (aA s) N gl->N.Nodup->∀(cdv:Value) (A:Around) (outer:List Env) (z:Shared) (H:Hp) (E:XK),bW k (A.deeper (envOfC n (aA s) z.heap.objs.size a cdv))->JB (jx fA PW w (KX w.params) mg base N n (aA s) a cdv A outer z H E).oX (dD s) t)(q:∀ds st K,S ds st K->ds.length=ps.length/\t {nx:=λ _ st2=>K .aH st2,rt:=K} (aY N ds) st):Fk w mg base n s ps a m c (k+1) S:=⟨d,vi d.fn v.sc (g v.v v.sc.nd) q⟩
local macro_rules| `(tactic|ac_rfl)=> `(tactic|first|exact Hd.GF e.X e.G (by kernel_rfl) λ _ _ _ _ _ _=>rfl|exact Hd.GI e.X e.G (by kernel_rfl) λ _ _ _ _ _ _ _=>rfl|exact Hd.BD e.X e.G (by kernel_rfl) λ _ _ _ _ _ _ _ _=>rfl|exact Hd.Gn e.X e.G (by kernel_rfl) λ _ _ _ _ _ _ _ _ _=>rfl|exact Hd.GJ e.X e.G (by kernel_rfl) λ _ _ _ _ _ _ _ _ _ _=>rfl)
theorem Bt:Bl mg:=⟨HI e.X e.G (by kernel_rfl),HI e.X e.G (by kernel_rfl),HI e.X e.G (by kernel_rfl),HI e.X e.G (by kernel_rfl),HI e.X e.G (by kernel_rfl),HI e.X e.G (by kernel_rfl),HI e.X e.G (by kernel_rfl),HI e.X e.G (by kernel_rfl),HI e.X e.G (by kernel_rfl),HI e.X e.G (by kernel_rfl),HI e.X e.G (by kernel_rfl),HI e.X e.G (by kernel_rfl),HI e.X e.G (by kernel_rfl),HI e.X e.G (by kernel_rfl)⟩
theorem Zt:Zl mg:=⟨Jd e.X e.G (by kernel_rfl),Jd e.X e.G (by kernel_rfl),Jd e.X e.G (by kernel_rfl),Jd e.X e.G (by kernel_rfl),Jd e.X e.G (by kernel_rfl)⟩
omit e base in
theorem C4:∀a kvs,lZ a=some kvs->fu PW w (KX w.params) a kvs:=λ a kvs h=>by
 unfold lZ at h;split at h
 . cases h;exact t7 (l:=[Hd.e "rows" 269 (.int (8) 270),Hd.e "few rows" 271 (.int (5) 272)]) (n:=2) (by kernel_rfl) (by decide) (by decide+kernel)
 . cases h;exact t7 (l:=[Hd.e "standing" 276 (.ref 70),Hd.e "inside" 278 (.ref 71),Hd.e "dividing" 281 (.ref 72),Hd.e "rests" 283 (.ref 73),Hd.e "short" 285 (.ref 74),Hd.e "nearest" 287 (.ref 75),Hd.e "shortest" 290 (.ref 76),Hd.e "near" 292 (.ref 77),Hd.e "answers" 296 (.ref 78),Hd.e "small" 299 (.ref 79),Hd.e "together" 304 (.ref 80),Hd.e "shared" 307 (.ref 81),Hd.e "plan" 310 (.ref 82),Hd.e "under" 316 (.ref 83)]) (n:=14) (by kernel_rfl) (by decide) (by decide+kernel)
 . cases h
theorem jI:∀a kvs,lZ a=some kvs->fu PW w (KX w.params) a kvs:=C4
omit e base in
theorem DN:∀c ts,ig c=some ts->∀H,cZ (KX w.params) H c (ts.map V.str):=λ c ts h H=>by
 unfold ig at h;split at h
 . cases h;exact .inr ⟨⟨.type "tuple",none,(.seq #[(.str "rows" 277)] 0),#[]⟩,_,_,by kernel_rfl,rfl,rfl,by decide,.cons ⟨_,rfl⟩ (.nil)⟩
 . cases h;exact .inr ⟨⟨.type "tuple",none,(.seq #[(.str "rows" 279),(.str "row" 280)] 0),#[]⟩,_,_,by kernel_rfl,rfl,rfl,by decide,.cons ⟨_,rfl⟩ (.cons ⟨_,rfl⟩ (.nil))⟩
 . cases h;exact .inr ⟨⟨.type "tuple",none,(.seq #[(.str "rows" 282)] 0),#[]⟩,_,_,by kernel_rfl,rfl,rfl,by decide,.cons ⟨_,rfl⟩ (.nil)⟩
 . cases h;exact .inr ⟨⟨.type "tuple",none,(.seq #[(.str "rows" 284)] 0),#[]⟩,_,_,by kernel_rfl,rfl,rfl,by decide,.cons ⟨_,rfl⟩ (.nil)⟩
 . cases h;exact .inr ⟨⟨.type "tuple",none,(.seq #[(.str "rows" 286)] 0),#[]⟩,_,_,by kernel_rfl,rfl,rfl,by decide,.cons ⟨_,rfl⟩ (.nil)⟩
 . cases h;exact .inr ⟨⟨.type "tuple",none,(.seq #[(.str "few rows" 288),(.str "point" 289)] 0),#[]⟩,_,_,by kernel_rfl,rfl,rfl,by decide,.cons ⟨_,rfl⟩ (.cons ⟨_,rfl⟩ (.nil))⟩
 . cases h;exact .inr ⟨⟨.type "tuple",none,(.seq #[(.str "few rows" 291)] 0),#[]⟩,_,_,by kernel_rfl,rfl,rfl,by decide,.cons ⟨_,rfl⟩ (.nil)⟩
 . cases h;exact .inr ⟨⟨.type "tuple",none,(.seq #[(.str "few rows" 293),(.str "point" 294),(.str "square" 295)] 0),#[]⟩,_,_,by kernel_rfl,rfl,rfl,by decide,.cons ⟨_,rfl⟩ (.cons ⟨_,rfl⟩ (.cons ⟨_,rfl⟩ (.nil)))⟩
 . cases h;exact .inr ⟨⟨.type "tuple",none,(.seq #[(.str "rows" 297),(.str "due" 298)] 0),#[]⟩,_,_,by kernel_rfl,rfl,rfl,by decide,.cons ⟨_,rfl⟩ (.cons ⟨_,rfl⟩ (.nil))⟩
 . cases h;exact .inr ⟨⟨.type "tuple",none,(.seq #[(.str "rows" 300),(.str "due" 301),(.str "row" 302),(.str "row" 303)] 0),#[]⟩,_,_,by kernel_rfl,rfl,rfl,by decide,.cons ⟨_,rfl⟩ (.cons ⟨_,rfl⟩ (.cons ⟨_,rfl⟩ (.cons ⟨_,rfl⟩ (.nil))))⟩
 . cases h;exact .inr ⟨⟨.type "tuple",none,(.seq #[(.str "rows" 305),(.str "rows" 306)] 0),#[]⟩,_,_,by kernel_rfl,rfl,rfl,by decide,.cons ⟨_,rfl⟩ (.cons ⟨_,rfl⟩ (.nil))⟩
 . cases h;exact .inr ⟨⟨.type "tuple",none,(.seq #[(.str "rows" 308),(.str "rows" 309)] 0),#[]⟩,_,_,by kernel_rfl,rfl,rfl,by decide,.cons ⟨_,rfl⟩ (.cons ⟨_,rfl⟩ (.nil))⟩
 . cases h;exact .inr ⟨⟨.type "tuple",none,(.seq #[(.str "row" 311),(.str "rows" 312),(.str "due" 313),(.str "row" 314),(.str "row" 315)] 0),#[]⟩,_,_,by kernel_rfl,rfl,rfl,by decide,.cons ⟨_,rfl⟩ (.cons ⟨_,rfl⟩ (.cons ⟨_,rfl⟩ (.cons ⟨_,rfl⟩ (.cons ⟨_,rfl⟩ (.nil)))))⟩
 . cases h;exact .inr ⟨⟨.type "tuple",none,(.seq #[(.str "row" 317),(.str "rows" 318),(.str "due" 319),(.str "row" 320),(.str "row" 321)] 0),#[]⟩,_,_,by kernel_rfl,rfl,rfl,by decide,.cons ⟨_,rfl⟩ (.cons ⟨_,rfl⟩ (.cons ⟨_,rfl⟩ (.cons ⟨_,rfl⟩ (.cons ⟨_,rfl⟩ (.nil)))))⟩
 . cases h
theorem p0:∀c ts,ig c=some ts->∀H,cZ (KX w.params) H c (ts.map V.str):=DN
theorem yZ:Fk w mg base "common" mz ["one","other"] 53 uf 52 1 mm:=by
 have B:=Bt e;exact fk (by ac_rfl) yh (λ v nd _ _ _ _ _ _ hr=>by nofun) vS
theorem CK:Fk w mg base "part" qK ["top","bottom"] 60 uf 59 2 rJ:=by
 have c1:=yZ base e;have B:=Bt e;exact fk (by ac_rfl) Dn (λ v nd _ _ _ _ _ _ hr=>by nofun) AV
theorem A1:Fk w mg base "whole" oK ["n"] 67 uf 66 1 oA:=by
 have B:=Bt e;exact fk (by ac_rfl) zR (λ v nd _ _ _ _ _ _ hr=>by nofun) yk
theorem mi:Fk w mg base "is_number_text" dg ["text"] 88 d6 87 1 eO:=by
 have B:=Bt e;have Z:=Zt e
 exact fk (by ac_rfl) aM (λ v nd cdv A outer s H E hr=>(av (bw aM.sc.nd (aM.v.l 1) (zN (dk (fh sV PySem.F.slot_str_startswith PySem.F.type_str_startswith vR (aM.v.nm 0) a_)) (yX (aM.v.nm 0) (Bb aO) Bg) (aM.v.nm 0)))
  (av (bH (fR (jH (f9 (sd oy oy aO (bf bU (ae (aM.v.nm 1) ah) B.bS rfl bE (aM.v.d 0) (aM.v.g 0)) (um Z.ow (aM.v.d 1) (aM.v.g 1)))) (gI (f9 (dk (bf (pZ rfl) (ae (cz (Nc:=["figure"]) (bg.look (aA dg) ["text","figures"] (by decide+kernel)) (Dv (aM.v.nm 1)) (λ _ _ _ _=>(g0 (show(["figure"]:List Str).Nodup by decide+kernel))) (λ _ _ _ _=>bO) (λ _ _ _ _=>(cO ET (by rfl) bY (Dw rfl Z.xu))) c_) ah) B.qg rfl mR (aM.v.d 2) (aM.v.g 2))))))) (aI (aZ vz)) br)
  (aI (aZ (DB (cO gS (aR _) (E8 (aM.v.nm 1) aO) a_) (kN (cO (cx hr) (aR _) (aM.v.nm 0) a_)))))))) lC
theorem fT:Fk w mg base "number_of" iP ["text","line"] 95 d6 94 2 eg:=by
 have c1:=mi base e;have B:=Bt e
 exact fk (by ac_rfl) c7 (λ v nd cdv A outer s H E hr=>(av (bH (f9 (dk (aW c1.1 c1.2 (hr.mono (by decide)) (ae (c7.v.nm 0) ah) (c7.v.d 0) (c7.v.g 0)))) (aI eJ) br)
  (aI (aZ (dN CF (ae (c7.v.nm 0) ah) B.k6 rfl jd (c7.v.d 1) (c7.v.g 1)))))) r_
theorem gh:Fk w mg base "fraction_of" gg ["text","line"] 102 d6 101 3 gf:=by
 have c1:=fT base e;have c2:=A1 base e;have c3:=CK base e
 exact fk (by ac_rfl) aD (λ v nd cdv A outer s H E hr=>(av (bw aD.sc.nd (aD.v.l 2) (fh oW J_ Ka uj (aD.v.nm 0) a_))
  (av (bw aD.sc.nd (aD.v.l 3) (aW c1.1 c1.2 (hr.mono (by decide)) (ae (dF (aD.v.nm 2) aO) (ae (aD.v.nm 1) ah)) (aD.v.d 0) (aD.v.g 0)))
  (av (bH (bu (cx hr) (aR _) (dF (aD.v.nm 2) aO) a_) (aI (aZ (aW c2.1 c2.2 (hr.mono (by decide)) (ae (aD.v.nm 3) ah) (aD.v.d 1) (aD.v.g 1)))) br)
  (av (bw aD.sc.nd (aD.v.l 4) (aW c1.1 c1.2 (hr.mono (by decide)) (ae (dF (aD.v.nm 2) aO) (ae (aD.v.nm 1) ah)) (aD.v.d 0) (aD.v.g 0)))
  (av (bH (bu oy (aR _) (aD.v.nm 4) aO) (aI eJ) br)
  (aI (aZ (aW c3.1 c3.2 (hr.mono (by decide)) (ae (aD.v.nm 3) (ae (aD.v.nm 4) ah)) (aD.v.d 2) (aD.v.g 2)))))))))) oG
theorem mj:Fk w mg base "row_of" gG ["text","read","line"] 107 d6 106 4 eH:=by
 have c1:=fT base e;have c2:=gh base e;have B:=Bt e;have Z:=Zt e
 exact fk (by ac_rfl) cw (λ v nd cdv A outer s H E hr=>(av (jg cw.sc.nd (cw.v.l 3) (Nc:=["each"]) (bg.look (aA gG) ["text","read","line","texts"] (by decide+kernel)) (eD (fh gz IV IW jP (cw.v.nm 0) a_)) (λ _ _ _ _=>(g0 (show(["each"]:List Str).Nodup by decide+kernel))) (λ _ _ _ _=>(rO (bu gS (aR _) bY a_))) (λ _ _ _ _=>bY) c_)
  (av (bH (f9 (sd oy oy aO (bf bU (ae (cw.v.nm 3) ah) B.bS rfl bE (cw.v.d 0) (cw.v.g 0)) (um Z.nZ (cw.v.d 1) (cw.v.g 1)))) (aI eJ) br)
  (aI (aZ (dN dU (ae (cz (Nc:=["each","read","line"]) (bg.look (aA gG) ["text","read","line","texts"] (by decide+kernel)) (eD (cw.v.nm 3)) (λ _ _ _ _=>(g0 (show(["each","read","line"]:List Str).Nodup by decide+kernel))) (λ _ _ _ _=>bO) (λ _ _ _ _=>(Bj (S:=vY) (λ f hf=>by rcases hf with rfl|rfl<;>first|exact⟨_,_,_,c1.2,hr.mono (by decide),c1.1.fn.kp,c1.1.bd⟩|exact⟨_,_,_,c2.2,hr.mono (by decide),c2.1.fn.kp,c2.1.bd⟩) rfl (by first|exact Or.inl rfl|exact Or.inr (Or.inl rfl)|exact Or.inr (Or.inr rfl)) (ae bY (ae bY ah)))) c_) ah) B.cE rfl bZ (cw.v.d 2) (cw.v.g 2))))))) xk
theorem wx:Fk w mg base "rows_of" fX ["text","most","line"] 112 d6 111 5 kn:=by
 have c1:=fT base e;have c2:=mj base e;have B:=Bt e
 exact fk (by ac_rfl) bM (λ v nd cdv A outer s H E hr=>(av (bw bM.sc.nd (bM.v.l 3) (dN dU (ae (cz (Nc:=["each","line"]) (bg.look (aA fX) ["text","most","line","rows"] (by decide+kernel)) (eD (fh gz IV IW jP (bM.v.nm 0) a_)) (λ _ _ _ _=>(g0 (show(["each","line"]:List Str).Nodup by decide+kernel))) (λ _ _ _ _=>bO) (λ _ _ _ _=>(aW c2.1 c2.2 (hr.mono (by decide)) (ae bY (ae (e_ rfl c1.1.mg) (ae bY ah))) (by decide+kernel) rfl)) c_) ah) B.cE rfl bZ (bM.v.d 0) (bM.v.g 0)))
  (av (bH (fR (jH (bu uW (aR _) (bf bU (ae (bM.v.nm 3) ah) B.bS rfl bE (bM.v.d 1) (bM.v.g 1)) (bM.v.nm 1)) (gI (dk (bf (E5 rfl) (ae (cz (Nc:=["row","rows"]) (bg.look (aA fX) ["text","most","line","rows"] (by decide+kernel)) (eD (bM.v.nm 3)) (λ _ _ _ _=>(g0 (show(["row","rows"]:List Str).Nodup by decide+kernel))) (λ _ _ _ _=>bO) (λ _ _ _ _=>(cO gS (aR _) (bf bU (ae bY ah) B.bS rfl bE (by decide+kernel) rfl) (bf bU (ae (dF bY aO) ah) B.bS rfl bE (by decide+kernel) rfl))) c_) ah) B.Er rfl CZ (bM.v.d 2) (bM.v.g 2)))))) (aI eJ) br)
  (aI (aZ (bM.v.nm 3)))))) vt
theorem sQ:Fk w mg base "square_of" iK ["text","line"] 119 d6 118 5 iy:=by
 have c1:=gh base e;have c2:=mj base e;have B:=Bt e
 exact fk (by ac_rfl) bF (λ v nd cdv A outer s H E hr=>(av (bw bF.sc.nd (bF.v.l 2) (aW c2.1 c2.2 (hr.mono (by decide)) (ae (bF.v.nm 0) (ae (e_ (bF.v.g 0) c1.1.mg) (ae (bF.v.nm 1) ah))) (bF.v.d 1) (bF.v.g 1)))
  (av (bH (fR (jH (bu gS (aR _) (bf bU (ae (bF.v.nm 2) ah) B.bS rfl bE (bF.v.d 2) (bF.v.g 2)) aO) (gI (bu oz (aR _) (dF (dF (bF.v.nm 2) aO) aO) aO)))) (aI eJ) br)
  (aI (aZ (dF (bF.v.nm 2) aO)))))) rE
theorem u_:Fk w mg base "value_of" jA ["sort","text","line"] 126 d6 125 6 jz:=by
 have c1:=wx base e;have c2:=sQ base e;have c3:=gh base e;have c4:=fT base e;have c5:=mj base e;have Z:=Zt e
 exact fk (by ac_rfl) a5 (λ v nd cdv A outer s H E hr=>(av (bH (bu (uC (jI e)) (by rfl) (a5.v.nm 0) (e_ (a5.v.g 0) Z.fO)) (aI (aZ (aW c1.1 c1.2 (hr.mono (by decide)) (ae (a5.v.nm 1) (ae (vm (jI e) (e_ (a5.v.g 0) Z.fO) (a5.v.nm 0)) (ae (a5.v.nm 2) ah))) (a5.v.d 1) (a5.v.g 1)))) br)
  (av (bH (bu (cx hr) (aR _) (a5.v.nm 0) a_) (aI (aZ (aW c2.1 c2.2 (hr.mono (by decide)) (ae (a5.v.nm 1) (ae (a5.v.nm 2) ah)) (a5.v.d 2) (a5.v.g 2)))) br)
  (aI (aZ (aW c5.1 c5.2 (hr.mono (by decide)) (ae (a5.v.nm 1) (ae (zN (bu (cx hr) (aR _) (a5.v.nm 0) a_) (e_ (a5.v.g 3) c3.1.mg) (e_ (a5.v.g 4) c4.1.mg)) (ae (a5.v.nm 2) ah))) (a5.v.d 5) (a5.v.g 5))))))) sI
theorem Cu:Fk w mg base "fits" qD ["sort","value","rows"] 133 d6 132 1 rh:=by
 have B:=Bt e;have Z:=Zt e
 exact fk (by ac_rfl) bJ (λ v nd cdv A outer s H E hr=>(av (bH (bu (uC (jI e)) (by rfl) (bJ.v.nm 0) (e_ (bJ.v.g 0) Z.fO)) (aI (aZ (cO (cx hr) (aR _) (bf bU (ae (dF (bJ.v.nm 1) aO) ah) B.bS rfl bE (bJ.v.d 1) (bJ.v.g 1)) (bf bU (ae (dF (bJ.v.nm 2) aO) ah) B.bS rfl bE (bJ.v.d 1) (bJ.v.g 1))))) br)
  (av (bH (bu (cx hr) (aR _) (bJ.v.nm 0) a_) (aI (aZ (cO (cx hr) (aR _) (bf bU (ae (bJ.v.nm 1) ah) B.bS rfl bE (bJ.v.d 1) (bJ.v.g 1)) (bf bU (ae (bJ.v.nm 2) ah) B.bS rfl bE (bJ.v.d 1) (bJ.v.g 1))))) br)
  (aI (aZ (DB (cO (cx hr) (aR _) (bJ.v.nm 0) a_) (kN (cO (cx hr) (aR _) (bf bU (ae (bJ.v.nm 1) ah) B.bS rfl bE (bJ.v.d 1) (bJ.v.g 1)) (bf bU (ae (dF (bJ.v.nm 2) aO) ah) B.bS rfl bE (bJ.v.d 1) (bJ.v.g 1)))))))))) An
theorem qU:Fk w mg base "rows_among" eV ["sorts","values"] 138 d6 137 1 gU:=by
 have B:=Bt e;have Z:=Zt e;exact fk (by ac_rfl) fj (λ v nd cdv A outer s H E hr=>(aI (aZ (dF (cz (Nc:=["sort","value"]) (bg.look (aA eV) ["sorts","values"] (by decide+kernel)) (qV (p0 e) (fj.v.g 0) B.mY (ae (fj.v.nm 0) (ae (fj.v.nm 1) ah))) (λ _ _ _ _=>(dH rfl (show(["sort","value"]:List Str).Nodup by decide+kernel))) (λ _ _ _ _=>(rO (bu (uC (jI e)) (by rfl) bY (e_ rfl Z.fO)))) (λ _ _ _ _=>bY) cN) aO)))) pL
theorem vw:Fk w mg base "order_of" fb ["text","line"] 143 d6 142 7 jR:=by
 have c1:=u_ base e;have c2:=qU base e;have c3:=Cu base e;have B:=Bt e;have Z:=Zt e
 exact fk (by ac_rfl) aq (λ v nd cdv A outer s H E hr=>(av (bw aq.sc.nd (aq.v.l 2) (fh oW J_ Ka uj (fh jO Jt Ju md (aq.v.nm 0) a_) a_))
  (av (bw aq.sc.nd (aq.v.l 3) (dF (aq.v.nm 2) aO))
  (av (bw aq.sc.nd (aq.v.l 4) (fh gz IV IW jP (dF (aq.v.nm 2) aO) a_))
  (av (bH (fR (jH (bu (yv (jI e)) (by rfl) (aq.v.nm 3) (e_ (aq.v.g 0) Z.nY)) (gI (bu gS (aR _) (bf bU (ae (aq.v.nm 4) ah) B.bS rfl bE (aq.v.d 1) (aq.v.g 1)) (bf (C2 (p0 e)) (ae (vm (jI e) (e_ (aq.v.g 0) Z.nY) (aq.v.nm 3)) ah) B.bS rfl bE (aq.v.d 1) (aq.v.g 1)))))) (aI eJ) br)
  (av (bw aq.sc.nd (aq.v.l 5) (vm (jI e) (e_ (aq.v.g 0) Z.nY) (aq.v.nm 3)))
  (av (jg aq.sc.nd (aq.v.l 6) (Nc:=["sort","each","line"]) (bg.look (aA fb) ["text","line","halves","word","texts","sorts","values","rows"] (by decide+kernel)) (qV (p0 e) (aq.v.g 2) B.mY (ae (aq.v.nm 5) (ae (aq.v.nm 4) ah))) (λ _ _ _ _=>(dH rfl (show(["sort","each","line"]:List Str).Nodup by decide+kernel))) (λ _ _ _ _=>bO) (λ _ _ _ _=>(aW c1.1 c1.2 (hr.mono (by decide)) (ae bY (ae bY (ae bY ah))) (by decide+kernel) rfl)) cN)
  (av (bw aq.sc.nd (aq.v.l 7) (aW c2.1 c2.2 (hr.mono (by decide)) (ae (aq.v.nm 5) (ae (aq.v.nm 6) ah)) (aq.v.d 3) (aq.v.g 3)))
  (av (bH (f9 (dk (bf (pZ rfl) (ae (cz (Nc:=["sort","value","rows"]) (bg.look (aA fb) ["text","line","halves","word","texts","sorts","values","rows"] (by decide+kernel)) (qV (p0 e) (aq.v.g 2) B.mY (ae (aq.v.nm 5) (ae (aq.v.nm 6) ah))) (λ _ _ _ _=>(dH rfl (show(["sort","value","rows"]:List Str).Nodup by decide+kernel))) (λ _ _ _ _=>bO) (λ _ _ _ _=>(aW c3.1 c3.2 (hr.mono (by decide)) (ae bY (ae bY (ae bY ah))) (by decide+kernel) rfl)) cN) ah) B.qg rfl mR (aq.v.d 4) (aq.v.g 4)))) (aI eJ) br)
  (aI (aZ (cn cX (fe (ae (aq.v.nm 3) ah)) (dN dU (ae (aq.v.nm 6) ah) B.cE rfl bZ (aq.v.d 5) (aq.v.g 5)))))))))))))) td
theorem sM:Fk w mg base "orders_of" fN ["text"] 148 d6 147 8 eA:=by
 have c1:=vw base e;have B:=Bt e
 exact fk (by ac_rfl) cB (λ v nd cdv A outer s H E hr=>(av (bw cB.sc.nd (cB.v.l 1) (fh gz IV IW jP (cB.v.nm 0) a_))
  (aI (aZ (dN dU (ae (cz (Nc:=["line","row"]) (bg.look (aA fN) ["text","rows"] (by decide+kernel)) (CT (cB.v.g 0) B.tw (ae (cB.v.nm 1) ah)) (λ _ _ _ _=>(dH rfl (show(["line","row"]:List Str).Nodup by decide+kernel))) (λ _ _ _ _=>(rO (bu gS (aR _) (fh jO Jt Ju md bY a_) a_))) (λ _ _ _ _=>(aW c1.1 c1.2 (hr.mono (by decide)) (ae bY (ae bY ah)) (by decide+kernel) rfl)) cN) ah) B.cE rfl bZ (cB.v.d 1) (cB.v.g 1)))))) qM
theorem xi:Fk w mg base "_law_box" ke ["_law_script","_law_k"] 155 cq 154 1 kr:=by
 have B:=Bt e;exact fk (by ac_rfl) xv (λ v nd _ _ _ _ _ _ hr=>by nofun) u4
theorem cY:Fk w mg base "_law_take" jC ["_law_box_here","_law_many"] 162 cq 161 1 aL:=by
 have B:=Bt e;exact fk (by ac_rfl) vB (λ v nd _ _ _ _ _ _ hr=>by nofun) sY
theorem lN:Fk w mg base "_law_small" iq ["_law_box_here"] 169 cq 168 2 fQ:=by
 have c1:=cY base e;have B:=Bt e;exact fk (by ac_rfl) sH (λ v nd _ _ _ _ _ _ hr=>by nofun) qC
theorem rN:Fk w mg base "_law_number" gQ ["_law_box_here"] 176 cq 175 3 gX:=by
 have c1:=cY base e;have c2:=lN base e;have B:=Bt e;exact fk (by ac_rfl) qv (λ v nd _ _ _ _ _ _ hr=>by nofun) pH
theorem qF:Fk w mg base "_law_lowest" gO ["_law_top","_law_bottom"] 183 cq 182 1 gH:=by
 have B:=Bt e;exact fk (by ac_rfl) q_ (λ v nd _ _ _ _ _ _ hr=>by nofun) pK
theorem qp:dX (KX w.params) mg "_law_is" "_law_is" eK ["_law_found","_law_due"] 188 (Hd.fd eK "_law_is" "_law_is" cq 187):=Hd.BD e.X e.G (by kernel_rfl) λ _ _ _ _ _ _ _ _=>rfl
theorem nL:∀n:Nat,cK PW w (KX w.params) mg base fA (0+n) 188 (Hd.fd eK "_law_is" "_law_is" cq 187) ["_law_found","_law_due"] (hX (fE n))
 |0=>rQ (uV)
 |n+1=>by
  have GR:=nL n;have F:=qp e;have B:=Bt e;exact vi (N:=mD) F.fn ay.sc (λ cdv A outer s H E hr=>(av (bH (dk (bf fP (ae (ay.v.nm 1) (ae (iw B.cE rfl bZ (ay.v.d 0) (ay.v.g 0)) ah)) B.bQ rfl bK (ay.v.d 1) (ay.v.g 1))) (av (bH (fR (jH (f9 (dk (bf fP (ae (ay.v.nm 0) (ae (iw B.cE rfl bZ (ay.v.d 0) (ay.v.g 0)) ah)) B.bQ rfl bK (ay.v.d 1) (ay.v.g 1)))) (gI (bu gS (aR _) (bf bU (ae (ay.v.nm 0) ah) B.bS rfl bE (ay.v.d 2) (ay.v.g 2)) (bf bU (ae (ay.v.nm 1) ah) B.bS rfl bE (ay.v.d 2) (ay.v.g 2)))))) (aI (aZ vz)) br)
  (aI (aZ (bf (pZ rfl) (ae (cz (Nc:=["_law_one","_law_other"]) (bg.look (aA eK) ["_law_found","_law_due"] (by decide+kernel)) (zw (ay.v.g 3) B.mY (ae (ay.v.nm 0) (ae (ay.v.nm 1) ah))) (λ _ _ _ _=>(dH rfl (show(["_law_one","_law_other"]:List Str).Nodup by decide+kernel))) (λ _ _ _ _=>bO) (λ _ _ _ _=>(aW F GR hr (ae bY (ae bY ah)) (by decide+kernel) rfl)) cN) ah) B.qg rfl mR (ay.v.d 4) (ay.v.g 4))))) br)
  (av (bH (dk (bf fP (ae (ay.v.nm 1) (ae (iw B.rm rfl oM (ay.v.d 5) (ay.v.g 5)) ah)) B.bQ rfl bK (ay.v.d 1) (ay.v.g 1))) (aI (aZ (m9 (bf fP (ae (ay.v.nm 0) (ae (iw B.rm rfl oM (ay.v.d 5) (ay.v.g 5)) ah)) B.bQ rfl bK (ay.v.d 1) (ay.v.g 1)) (kN (cO (cx hr) (aR _) (ay.v.nm 0) (ay.v.nm 1)))))) br)
  (aI (aZ (m9 (bf fP (ae (ay.v.nm 0) (ae (iw B.k6 rfl jd (ay.v.d 6) (ay.v.g 6)) ah)) B.bQ rfl bK (ay.v.d 1) (ay.v.g 1)) (m9 (E2 (bf fP (ae (ay.v.nm 0) (ae (iw B.rm rfl oM (ay.v.d 5) (ay.v.g 5)) ah)) B.bQ rfl bK (ay.v.d 1) (ay.v.g 1))) (kN (cO (cx hr) (aR _) (ay.v.nm 0) (ay.v.nm 1)))))))))) (wX n)
theorem yT:Fk w mg base "_law_is" eK ["_law_found","_law_due"] 188 cq 187 4 (fE 4):=⟨qp e,nL base e 4⟩
theorem sZ:Fk w mg base "_law_kinds" iD [] 195 cq 194 1 iN:=by
 have B:=Bt e;exact fk (by ac_rfl) sT (λ v nd _ _ _ _ _ _ hr=>by nofun) rH
theorem kE:Fk w mg base "_law_gap" j0 ["_law_box_here"] 202 cq 201 2 eP:=by
 have c1:=cY base e;exact fk (by ac_rfl) ib (λ v nd cdv A outer s H E hr=>(aI (aZ (cn iR a_ (cn cX aO (cn qz (aW c1.1 c1.2 (hr.mono (by decide)) (ae (ib.v.nm 0) (ae aO ah)) (ib.v.d 0) (ib.v.g 0)) aO)))))) uz
theorem lD:Fk w mg base "_law_round" iB ["_law_box_here","_law_sign"] 209 cq 208 2 dE:=by
 have c1:=cY base e;exact fk (by ac_rfl) cC (λ v nd cdv A outer s H E hr=>(aI (aZ (cn cX (cn cX (cn iR a_ (aW c1.1 c1.2 (hr.mono (by decide)) (ae (cC.v.nm 0) (ae aO ah)) (cC.v.d 0) (cC.v.g 0))) (cC.v.nm 1)) (cn iR a_ (aW c1.1 c1.2 (hr.mono (by decide)) (ae (cC.v.nm 0) (ae aO ah)) (cC.v.d 0) (cC.v.g 0))))))) r9
theorem ni:Fk w mg base "_law_drawn_row" dJ ["_law_box_here","_law_wide"] 214 cq 213 4 cP:=by
 have c1:=rN base e;have c2:=kE base e;have B:=Bt e
 exact fk (by ac_rfl) aC (λ v nd cdv A outer s H E hr=>(av (bw aC.sc.nd (aC.v.l 2) (dN dU (ae (cz (Nc:=["_law_j","_law_box_here"]) (bg.look (aA dJ) ["_law_box_here","_law_wide","_law_row","_law_text","_law_one"] (by decide+kernel)) (jM (aC.v.g 0) B.lj (ae (aC.v.nm 1) ah)) (λ _ _ _ _=>(g0 (show(["_law_j","_law_box_here"]:List Str).Nodup by decide+kernel))) (λ _ _ _ _=>bO) (λ _ _ _ _=>(aW c1.1 c1.2 (hr.mono (by decide)) (ae bY ah) (by decide+kernel) rfl)) c_) ah) B.cE rfl bZ (aC.v.d 1) (aC.v.g 1)))
  (av (bw aC.sc.nd (aC.v.l 3) a_)
  (av (wV (eD (aC.v.nm 2)) (g0 aC.sc.nd) (aI (bw aC.sc.nd (aC.v.l 3) (cn cX (cn cX (aC.v.nm 3) (dN uX (ae (aC.v.nm 4) ah) B.nQ rfl ky (aC.v.d 2) (aC.v.g 2))) (aW c2.1 c2.2 (hr.mono (by decide)) (ae (aC.v.nm 0) ah) (aC.v.d 3) (aC.v.g 3))))))
  (aI (aZ (fe (ae (aC.v.nm 2) (ae (fh jO Jt Ju md (aC.v.nm 3) a_) ah))))))))) mn
theorem mO:Fk w mg base "_law_drawn_part" eM ["_law_box_here","_law_low"] 221 cq 220 3 dh:=by
 have c1:=lN base e;have c2:=cY base e;have c3:=qF base e;have B:=Bt e;exact fk (by ac_rfl) mL (λ v nd _ _ _ _ _ _ hr=>by nofun) lA
theorem sW:Fk w mg base "_law_drawn" b_ ["_law_box_here","_law_kind","_law_many","_law_wide"] 226 cq 225 5 fU:=by
 have c1:=mO base e;have c2:=kE base e;have c3:=ni base e;have c4:=cY base e;have c5:=lD base e;have B:=Bt e
 exact fk (by ac_rfl) ak (λ v nd cdv A outer s H E hr=>(av (bH (bu (cx hr) (aR _) (ak.v.nm 1) a_) (aI (aZ (aW c1.1 c1.2 (hr.mono (by decide)) (ae (ak.v.nm 0) (ae aO ah)) (ak.v.d 0) (ak.v.g 0)))) br)
  (av (bH (bu (cx hr) (aR _) (ak.v.nm 1) a_) (av (jg ak.sc.nd (ak.v.l 4) (Nc:=["_law_j","_law_box_here"]) (bg.look (aA b_) ["_law_box_here","_law_kind","_law_many","_law_wide","_law_some"] (by decide+kernel)) (jM (ak.v.g 1) B.lj (ae (ak.v.nm 3) ah)) (λ _ _ _ _=>(g0 (show(["_law_j","_law_box_here"]:List Str).Nodup by decide+kernel))) (λ _ _ _ _=>bO) (λ _ _ _ _=>(aW c1.1 c1.2 (hr.mono (by decide)) (ae bY (ae (vJ aO) ah)) (by decide+kernel) rfl)) c_)
  (aI (aZ (fe (ae (dN dU (ae (cz (Nc:=["_law_one","_law_text"]) (bg.look (aA b_) ["_law_box_here","_law_kind","_law_many","_law_wide","_law_some"] (by decide+kernel)) (eD (ak.v.nm 4)) (λ _ _ _ _=>(dH rfl (show(["_law_one","_law_text"]:List Str).Nodup by decide+kernel))) (λ _ _ _ _=>bO) (λ _ _ _ _=>bY) cN) ah) B.cE rfl bZ (ak.v.d 3) (ak.v.g 3)) (ae (fh g9 IY IZ kU (aW c2.1 c2.2 (hr.mono (by decide)) (ae (ak.v.nm 0) ah) (ak.v.d 2) (ak.v.g 2)) (cz (Nc:=["_law_one","_law_text"]) (bg.look (aA b_) ["_law_box_here","_law_kind","_law_many","_law_wide","_law_some"] (by decide+kernel)) (eD (ak.v.nm 4)) (λ _ _ _ _=>(dH rfl (show(["_law_one","_law_text"]:List Str).Nodup by decide+kernel))) (λ _ _ _ _=>bO) (λ _ _ _ _=>bY) cN)) ah)))))) br)
  (av (bH (fR (jH (bu (cx hr) (aR _) (ak.v.nm 1) a_) (gI (bu (cx hr) (aR _) (ak.v.nm 1) a_)))) (aI (aZ (aW c3.1 c3.2 (hr.mono (by decide)) (ae (ak.v.nm 0) (ae (dF (pW (ae (ak.v.nm 3) (ae (ak.v.nm 2) ah))) (dN pR (ae (cO (cx hr) (aR _) (ak.v.nm 1) a_) ah) B.k6 rfl jd (ak.v.d 4) (ak.v.g 4))) ah)) (ak.v.d 5) (ak.v.g 5)))) br)
  (av (bH (bu (cx hr) (aR _) (ak.v.nm 1) a_) (aI (bw ak.sc.nd (ak.v.l 2) (cn cX aO (aW c4.1 c4.2 (hr.mono (by decide)) (ae (ak.v.nm 0) (ae aO ah)) (ak.v.d 6) (ak.v.g 6))))) br)
  (av (jg ak.sc.nd (ak.v.l 4) (Nc:=["_law_k","_law_box_here","_law_wide"]) (bg.look (aA b_) ["_law_box_here","_law_kind","_law_many","_law_wide","_law_some"] (by decide+kernel)) (jM (ak.v.g 1) B.lj (ae (ak.v.nm 2) ah)) (λ _ _ _ _=>(g0 (show(["_law_k","_law_box_here","_law_wide"]:List Str).Nodup by decide+kernel))) (λ _ _ _ _=>bO) (λ _ _ _ _=>(aW c3.1 c3.2 (hr.mono (by decide)) (ae bY (ae bY ah)) (by decide+kernel) rfl)) c_)
  (aI (aZ (fe (ae (dN dU (ae (cz (Nc:=["_law_row","_law_text"]) (bg.look (aA b_) ["_law_box_here","_law_kind","_law_many","_law_wide","_law_some"] (by decide+kernel)) (eD (ak.v.nm 4)) (λ _ _ _ _=>(dH rfl (show(["_law_row","_law_text"]:List Str).Nodup by decide+kernel))) (λ _ _ _ _=>bO) (λ _ _ _ _=>bY) cN) ah) B.cE rfl bZ (ak.v.d 3) (ak.v.g 3)) (ae (fh g9 IY IZ kU (aW c5.1 c5.2 (hr.mono (by decide)) (ae (ak.v.nm 0) (ae a_ ah)) (ak.v.d 7) (ak.v.g 7)) (cz (Nc:=["_law_row","_law_text"]) (bg.look (aA b_) ["_law_box_here","_law_kind","_law_many","_law_wide","_law_some"] (by decide+kernel)) (eD (ak.v.nm 4)) (λ _ _ _ _=>(dH rfl (show(["_law_row","_law_text"]:List Str).Nodup by decide+kernel))) (λ _ _ _ _=>bO) (λ _ _ _ _=>bY) cN)) ah))))))))))) qI
theorem tq:Fk w mg base "_law_order" dz ["_law_box_here"] 231 cq 230 6 iF:=by
 have c1:=sZ base e;have c2:=cY base e;have c3:=sW base e;have c4:=kE base e;have c5:=lD base e;have B:=Bt e
 exact fk (by ac_rfl) ai (λ v nd cdv A outer s H E hr=>(av (w_ (dF (En c1.1 c1.2 (hr.mono (by decide)) (ai.v.d 0) (ai.v.g 0)) (aW c2.1 c2.2 (hr.mono (by decide)) (ae (ai.v.nm 0) (ae aO ah)) (ai.v.d 1) (ai.v.g 1))) (dH rfl ai.sc.nd))
  (av (bw ai.sc.nd (ai.v.l 3) (dF (pW (ae aO (ae aO ah))) (dN pR (ae (cO (cx hr) (aR _) (aW c2.1 c2.2 (hr.mono (by decide)) (ae (ai.v.nm 0) (ae aO ah)) (ai.v.d 1) (ai.v.g 1)) aO) ah) B.k6 rfl jd (ai.v.d 2) (ai.v.g 2))))
  (av (bw ai.sc.nd (ai.v.l 4) (cn cX aO (aW c2.1 c2.2 (hr.mono (by decide)) (ae (ai.v.nm 0) (ae (ai.v.nm 3) ah)) (ai.v.d 1) (ai.v.g 1))))
  (av (bH (bu Bz (by rfl) (ai.v.nm 1) (fe (ae a_ (ae a_ (ae a_ ah))))) (aI (bw ai.sc.nd (ai.v.l 4) (bf (zM rfl) (ae (ai.v.nm 4) (ae aO ah)) B.zx rfl xM (ai.v.d 3) (ai.v.g 3)))) br)
  (av (bw ai.sc.nd (ai.v.l 5) (cn cX aO (aW c2.1 c2.2 (hr.mono (by decide)) (ae (ai.v.nm 0) (ae (ai.v.nm 3) ah)) (ai.v.d 1) (ai.v.g 1))))
  (av (jg ai.sc.nd (ai.v.l 6) (Nc:=["_law_kind","_law_box_here","_law_many","_law_wide"]) (bg.look (aA dz) ["_law_box_here","_law_word","_law_kinds_here","_law_most","_law_many","_law_wide","_law_some","_law_text"] (by decide+kernel)) (eD (ai.v.nm 2)) (λ _ _ _ _=>(g0 (show(["_law_kind","_law_box_here","_law_many","_law_wide"]:List Str).Nodup by decide+kernel))) (λ _ _ _ _=>bO) (λ _ _ _ _=>(aW c3.1 c3.2 (hr.mono (by decide)) (ae bY (ae bY (ae bY (ae bY ah)))) (by decide+kernel) rfl)) c_)
  (av (bw ai.sc.nd (ai.v.l 7) (cn cX (cn cX (ai.v.nm 1) (aW c4.1 c4.2 (hr.mono (by decide)) (ae (ai.v.nm 0) ah) (ai.v.d 4) (ai.v.g 4))) (fh g9 IY IZ kU (aW c5.1 c5.2 (hr.mono (by decide)) (ae (ai.v.nm 0) (ae a_ ah)) (ai.v.d 5) (ai.v.g 5)) (cz (Nc:=["_law_thing","_law_text"]) (bg.look (aA dz) ["_law_box_here","_law_word","_law_kinds_here","_law_most","_law_many","_law_wide","_law_some","_law_text"] (by decide+kernel)) (eD (ai.v.nm 6)) (λ _ _ _ _=>(dH rfl (show(["_law_thing","_law_text"]:List Str).Nodup by decide+kernel))) (λ _ _ _ _=>bO) (λ _ _ _ _=>bY) cN))))
  (aI (aZ (fe (ae (cn cX (fe (ae (ai.v.nm 1) ah)) (dN dU (ae (cz (Nc:=["_law_thing","_law_text"]) (bg.look (aA dz) ["_law_box_here","_law_word","_law_kinds_here","_law_most","_law_many","_law_wide","_law_some","_law_text"] (by decide+kernel)) (eD (ai.v.nm 6)) (λ _ _ _ _=>(dH rfl (show(["_law_thing","_law_text"]:List Str).Nodup by decide+kernel))) (λ _ _ _ _=>bO) (λ _ _ _ _=>bY) cN) ah) B.cE rfl bZ (ai.v.d 6) (ai.v.g 6))) (ae (cn cX (cn cX (cn iR a_ (aW c2.1 c2.2 (hr.mono (by decide)) (ae (ai.v.nm 0) (ae aO ah)) (ai.v.d 1) (ai.v.g 1))) (ai.v.nm 7)) (cn iR a_ (aW c2.1 c2.2 (hr.mono (by decide)) (ae (ai.v.nm 0) (ae aO ah)) (ai.v.d 1) (ai.v.g 1)))) ah))))))))))))) rq
theorem lX:dX (KX w.params) mg "_law_alike" "_law_alike" c8 ["_law_found","_law_due"] 236 (Hd.fd c8 "_law_alike" "_law_alike" cq 235):=Hd.BD e.X e.G (by kernel_rfl) λ _ _ _ _ _ _ _ _=>rfl
theorem jU:∀n:Nat,cK PW w (KX w.params) mg base fA (4+n) 236 (Hd.fd c8 "_law_alike" "_law_alike" cq 235) ["_law_found","_law_due"] (hX (dw n))
 |0=>rQ (pQ)
 |n+1=>by
  have GR:=jU n;have F:=lX e;have c1:=yT base e;have B:=Bt e;exact vi (N:=iI) F.fn au.sc (λ cdv A outer s H E hr=>(av (bH (dk (bf fP (ae (au.v.nm 1) (ae (iw B.nQ rfl ky (au.v.d 0) (au.v.g 0)) ah)) B.bQ rfl bK (au.v.d 1) (au.v.g 1))) (aI (aZ (m9 (bf fP (ae (au.v.nm 0) (ae (iw B.nQ rfl ky (au.v.d 0) (au.v.g 0)) ah)) B.bQ rfl bK (au.v.d 1) (au.v.g 1)) (kN (cO (cx hr) (aR _) (au.v.nm 0) (au.v.nm 1)))))) br)
  (av (bH (dk (bf fP (ae (au.v.nm 1) (ae (iw B.cE rfl bZ (au.v.d 2) (au.v.g 2)) ah)) B.bQ rfl bK (au.v.d 1) (au.v.g 1))) (av (bH (fR (jH (f9 (dk (bf fP (ae (au.v.nm 0) (ae (iw B.cE rfl bZ (au.v.d 2) (au.v.g 2)) ah)) B.bQ rfl bK (au.v.d 1) (au.v.g 1)))) (gI (bu gS (aR _) (bf bU (ae (au.v.nm 0) ah) B.bS rfl bE (au.v.d 3) (au.v.g 3)) (bf bU (ae (au.v.nm 1) ah) B.bS rfl bE (au.v.d 3) (au.v.g 3)))))) (aI (aZ vz)) br)
  (aI (aZ (bf (pZ rfl) (ae (cz (Nc:=["_law_one","_law_other"]) (bg.look (aA c8) ["_law_found","_law_due"] (by decide+kernel)) (zw (au.v.g 4) B.mY (ae (au.v.nm 0) (ae (au.v.nm 1) ah))) (λ _ _ _ _=>(dH rfl (show(["_law_one","_law_other"]:List Str).Nodup by decide+kernel))) (λ _ _ _ _=>bO) (λ _ _ _ _=>(aW F GR hr (ae bY (ae bY ah)) (by decide+kernel) rfl)) cN) ah) B.qg rfl mR (au.v.d 5) (au.v.g 5))))) br)
  (aI (aZ (aW c1.1 c1.2 (hr.mono (Nat.le_add_right 4 n)) (ae (au.v.nm 0) (ae (au.v.nm 1) ah)) (au.v.d 6) (au.v.g 6))))))) (qH n)
theorem sP:Fk w mg base "_law_alike" c8 ["_law_found","_law_due"] 236 cq 235 9 (dw 5):=⟨lX e,jU base e 5⟩
theorem D_:Fk w mg base "law" mQ ["_law_script"] 243 cq 242 10 y9:=by
 have c1:=xi base e;have c2:=tq base e;have c3:=cY base e;have c4:=sM base e;have c5:=sP base e;have B:=Bt e
 exact fk (by ac_rfl) aE (λ v nd cdv A outer s H E hr=>(av (bw aE.sc.nd (aE.v.l 1) (ql ah))
  (av (bw aE.sc.nd (aE.v.l 2) (ql ah))
  (av (bw aE.sc.nd (aE.v.l 3) aO)
  (av (wV (jM (aE.v.g 3) B.lj (ae (bf (uO rfl) (ae aO (ae (bf (zM rfl) (ae (bf bU (ae (aE.v.nm 0) ah) B.bS rfl bE (aE.v.d 0) (aE.v.g 0)) (ae aO ah)) B.zx rfl xM (aE.v.d 1) (aE.v.g 1)) ah)) B.vp rfl qL (aE.v.d 2) (aE.v.g 2)) ah)) (g0 aE.sc.nd) (av (bw aE.sc.nd (aE.v.l 5) (aW c1.1 c1.2 (hr.mono (by decide)) (ae (aE.v.nm 0) (ae (aE.v.nm 4) ah)) (aE.v.d 4) (aE.v.g 4)))
  (av (w_ (aW c2.1 c2.2 (hr.mono (by decide)) (ae (aE.v.nm 5) ah) (aE.v.d 5) (aE.v.g 5)) (dH rfl aE.sc.nd))
  (aI (bH (fR (xI (bu oy (aR _) (cn cX (bf bU (ae (aE.v.nm 7) ah) B.bS rfl bE (aE.v.d 0) (aE.v.g 0)) aO) (aE.v.nm 3)) (uc (bu oz (aR _) (bf bU (ae (aE.v.nm 1) ah) B.bS rfl bE (aE.v.d 0) (aE.v.g 0)) aO)))) (av (bw aE.sc.nd (aE.v.l 3) (cn qf (cn qf (aE.v.nm 3) (bf bU (ae (aE.v.nm 7) ah) B.bS rfl bE (aE.v.d 0) (aE.v.g 0))) aO))
  (av (ot (j8 (aE.v.nm 1) (aE.v.nm 7)))
  (av (ot (j8 (aE.v.nm 2) (aE.v.nm 6)))
  (aI (bH (fR (xI (bu (cx hr) (aR _) (aW c3.1 c3.2 (hr.mono (by decide)) (ae (aE.v.nm 5) (ae aO ah)) (aE.v.d 6) (aE.v.g 6)) aO) (uc (bu oz (aR _) (bf bU (ae (aE.v.nm 1) ah) B.bS rfl bE (aE.v.d 0) (aE.v.g 0)) aO)))) (aI (ot (j8 (aE.v.nm 1) (cn iR a_ (aW c3.1 c3.2 (hr.mono (by decide)) (ae (aE.v.nm 5) (ae aO ah)) (aE.v.d 6) (aE.v.g 6)))))) br))))) br)))))
  (av (bH (f9 (dk (aW c5.1 c5.2 (hr.mono (by decide)) (ae (aW c4.1 c4.2 (hr.mono (by decide)) (ae (fh g9 IY IZ kU a_ (aE.v.nm 1)) ah) (aE.v.d 8) (aE.v.g 8)) (ae (dN dU (ae (aE.v.nm 2) ah) B.cE rfl bZ (aE.v.d 7) (aE.v.g 7)) ah)) (aE.v.d 9) (aE.v.g 9)))) (aI (aZ vz)) br)
  (aI (aZ (m9 (cO (cx hr) (aR _) (aW c4.1 c4.2 (hr.mono (by decide)) (ae a_ ah) (aE.v.d 8) (aE.v.g 8)) (fe ah)) (kN (cO (cx hr) (aR _) (aW c4.1 c4.2 (hr.mono (by decide)) (ae a_ ah) (aE.v.d 8) (aE.v.g 8)) (fe ah)))))))))))) CB
end
def dL:DefRec:=match mQ with
 | .FunctionDef n a b _ _ _ sc _ _ pos=>⟨n,a,b,sc,pos⟩
 |_=>⟨"",L2.fG (.Pass ⟨0,0,0,0⟩),[],L2.aA (.Pass ⟨0,0,0,0⟩),⟨0,0,0,0⟩⟩
theorem yc:PySem.Challenge.rw_latticeworks_k81_orders_read.wellSaid=true:=by decide+kernel
end Row
open PySem PySem.W PyProof.Rows
set_option maxRecDepth 100000 in
set_option maxHeartbeats 0 in
theorem PySem.Challenge.cw_latticeworks_k81_orders_read_holds : PySem.Challenge.rw_latticeworks_k81_orders_read.Holds := by
 refine PySem.W.holds_law Row.yc λ yc=>?_;refine PySem.W.holds_open (r:=PySem.Challenge.rw_latticeworks_k81_orders_read.row) (q:=PySem.W.view Row.PW [1,2,4,5,6,8,9,10,11,12,13,14,15,16,17,18,19,20,21,22,23,25,26,27,28,29,30,31,32,33,34,35,36,37,38,39]) (loose:=["MOST_ROWS","PARTS"]) (Xt:=λ _=>true) (XP:=λ _ _=>True) (YP:=(PySem.W.kmHook Row.KX Row.KA (λ _=>rfl) []).says) (d:=Row.dL) (kwd:=[]) Row.left ((PySem.W.kmHook Row.KX Row.KA (λ _=>rfl) []).of) ((PySem.W.kmHook Row.KX Row.KA (λ _=>rfl) []).keeps) (λ _ _=>trivial) (λ _ _ _ _ _=>trivial) (by kernel_rfl) (by kernel_rfl) (by kernel_rfl) (λ s _=>PySem.W.recFacts_of (R:=[]) rfl) (by kernel_rfl) yc (by decide+kernel) ⟨rfl,rfl,rfl,rfl,rfl,by decide+kernel⟩ ?hw ?hc;case hw=>w_witness2
 refine L2.D5 (n:=63) (k:=10) (x:="_law_script") (ts:=[]) (K:=Row.KX) (sp:=λ w=>L3.wY (Row.KX w.params) []) rfl (by decide) (by kernel_rfl) ⟨rfl,by decide,by decide⟩ (by kernel_rfl) rfl (λ w h Y=>⟨PySem.W.km_in_of Y,⟨(λ q hq=>by cases hq),(λ q hq=>by cases hq),λ q hq=>by cases hq⟩⟩) ?F λ _ _ a ns hl hE=>⟨a,ns,rfl,hE,hl,λ _=>rfl⟩
 intro w mg fa h X G hmg;have e2:=hmg.symm.trans (Jd (v:= .ref 243) X G (by kernel_rfl));cases e2;exact⟨Hd.fd Row.mQ "law" "law" Row.cq 242,λ s v=> .of_eq rfl,λ base _ _=>(Row.D_ base ⟨X,G⟩).2.imp λ vs H Q E h=>L3.vZ (tl:=[]) (by kernel_rfl) rfl (by decide) h⟩
