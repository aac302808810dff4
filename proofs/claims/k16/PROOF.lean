import PyProof.Rows.All
import Wide.All
import OpenK.AllK
import Wide.FinOn
import Lean
import PyProof.EqAt
import PyProof.EqKinds
import PyProof.TupleCall
import PyProof.NeKinds
import KE.KUnpack
import PySem.Challenge.RW_latticeworks_k16_inside_or_not
set_option Elab.async false
set_option linter.all false
set_option maxRecDepth 100000
namespace L2
open PySem PySem.Spec PyProof.Rows
noncomputable abbrev Key:=Sum Int Str
noncomputable def EM:Key→Value→Bool
 | .inl k,v=>Value.isInt k v
 | .inr x,v=>Value.isStrOf x v
noncomputable def MQ(w:World):Key→Int
 | .inl k=>hashInt k
 | .inr x=>hashStr w x
theorem eN:∀ {k:Key} {v:Value},EM k v=true→(∃i t,k=Sum.inl i∧v=Value.int i t)∨(∃x t,k=Sum.inr x∧v=Value.str x t)
 | .inl i,v,h=>by
   obtain⟨t,e⟩:=Value.isInt_shape (k:=i) (v:=v) h
   exact .inl ⟨i,t,rfl,e⟩
 | .inr x,v,h=>by
   obtain⟨t,e⟩:=Value.isStrOf_shape (x:=x) (v:=v) h
   exact .inr ⟨x,t,rfl,e⟩
theorem J9(a b:Int):decide ((Sum.inl a:Key)=Sum.inl b)=(a==b):=by
 by_cases e:a=b
 · subst e;simp
 · have h:¬(Sum.inl a:Key)=Sum.inl b:=fun q=>e (Sum.inl.inj q)
   rw[decide_eq_false h]
   exact(beq_eq_false_iff_ne.mpr e).symm
theorem Kk(a b:Str):decide ((Sum.inr a:Key)=Sum.inr b)=decide (a=b):=by
 by_cases e:a=b
 · subst e;simp
 · have h:¬(Sum.inr a:Key)=Sum.inr b:=fun q=>e (Sum.inr.inj q)
   rw[decide_eq_false h,decide_eq_false e]
theorem Jy(a:Int)(b:Str):decide ((Sum.inl a:Key)=Sum.inr b)=false:=decide_eq_false (fun q=>nomatch q)
theorem Jl(a:Str)(b:Int):decide ((Sum.inr a:Key)=Sum.inl b)=false:=decide_eq_false (fun q=>nomatch q)
noncomputable def zy(prog:Program)(w:World):PySem.KeyKind prog w Key where
 is:=EM
 hash:=MQ w
 inj:=fun v a b ha hb=>by
  rcases eN ha with⟨i,t,rfl,rfl⟩|⟨x,t,rfl,rfl⟩
  · rcases eN hb with⟨j,u,rfl,e⟩|⟨y,u,rfl,e⟩
    · injection e with e1 _;rw[e1]
    · exact nomatch e
  · rcases eN hb with⟨j,u,rfl,e⟩|⟨y,u,rfl,e⟩
    · exact nomatch e
    · injection e with e1 _;rw[e1]
 byValue:=fun k v h=>by
  rcases eN h with⟨i,t,rfl,rfl⟩|⟨x,t,rfl,rfl⟩<;>rfl
 pyHash:=fun hv h=>by
  rcases eN hv with⟨i,t,rfl,rfl⟩|⟨x,t,rfl,rfl⟩
  · exact wpAny_pyHash_int h
  · exact wpAny_pyHash_str h
 eqBool:=fun hu hv h=>by
  rcases eN hu with⟨i,t,rfl,rfl⟩|⟨x,t,rfl,rfl⟩
  · rcases eN hv with⟨j,u,rfl,rfl⟩|⟨y,u,rfl,rfl⟩
    · rw[J9]at h;exact wpAny_eqBool_int h
    · rw[Jy]at h;exact SeqAt.EqAt.int_str i t y u _ _ _ _ h
  · rcases eN hv with⟨j,u,rfl,rfl⟩|⟨y,u,rfl,rfl⟩
    · rw[Jl]at h;exact SeqAt.EqAt.str_int x t j u _ _ _ _ h
    · rw[Kk]at h;exact wpAny_eqBool_str h
 «strs» :=fun k x t v h=>by
  rcases eN h with⟨i,u,rfl,e⟩|⟨y,u,rfl,e⟩
  · exact nomatch e
  · injection e with e1 _
    subst e1
    cases v<;>rfl
end L2
namespace L2
open PySem PySem.Spec PyProof.Rows
inductive V where
 |aG|bl (b:Bool)|int (i:Int)|str (x:Str)|sG (b:Array UInt8)|rY (b:UInt64)|ref (a:Addr)|ty (n:String)
 deriving DecidableEq
noncomputable def RelV:V→Value→Prop
 | .aG,u=>u=Value.none
 | .bl b,u=>u=Value.bool b
 | .int i,u=>∃t,u=Value.int i t
 | .str x,u=>∃t,u=Value.str x t
 | .sG b,u=>∃t,u=Value.bytes b t
 | .rY b,u=>∃t,u=Value.float b t
 | .ref a,u=>u=Value.ref a
 | .ty n,u=>u=Value.type n
noncomputable abbrev Vals:List V→List Value→Prop:=Paired RelV
theorem Vals.length{xs:List V}{us:List Value}(r:Vals xs us):xs.length=us.length:=Paired.length r
theorem Vals.get:∀ {xs:List V} {us:List Value} {i:Nat} {x:V},Vals xs us→xs[i]?=some x→∃u,us[i]?=some u∧RelV x u
 |_,_,_,_,.nil,e=>by simp at e
 |_,_,0,_,.cons r _,e=>by simp at e;subst e;exact⟨_,rfl,r⟩
 |_,_,i+1,x,.cons _ t,e=>by
  obtain⟨u,h1,h2⟩:=Vals.get (i:=i) (x:=x) t (by simpa using e)
  exact⟨u,by simpa using h1,h2⟩
theorem Vals.set{x:V}{u:Value}(r:RelV x u):∀ {xs:List V} {us:List Value} (i:Nat),Vals xs us→Vals (xs.set i x) (us.set i u)
 |_,_,_,.nil=> .nil
 |_,_,0,.cons _ t=> .cons r t
 |_,_,i+1,.cons q t=> .cons q (Vals.set r i t)
theorem Vals.append:∀ {xs ys:List V} {us ws:List Value},Vals xs us→Vals ys ws→Vals (xs++ys) (us++ws)
 |_,_,_,_,.nil,s=>s
 |_,_,_,_,.cons r t,s=> .cons r (Vals.append t s)
theorem Vals.take:∀ {xs:List V} {us:List Value} (n:Nat),Vals xs us→Vals (xs.take n) (us.take n)
 |_,_,0,_=> .nil
 |_,_,_+1,.nil=> .nil
 |_,_,n+1,.cons r t=> .cons r (Vals.take n t)
theorem Vals.drop:∀ {xs:List V} {us:List Value} (n:Nat),Vals xs us→Vals (xs.drop n) (us.drop n)
 |_,_,0,r=>r
 |_,_,_+1,.nil=> .nil
 |_,_,n+1,.cons _ t=>Vals.drop n t
noncomputable def nS:Option V→Option Value→Prop
 |some v,some u=>RelV v u
 |none,none=>True
 |_,_=>False
noncomputable def KV{κ:Type}:List (κ×V)→List (κ×Value)→Prop:=Paired fun(p:κ×V) (q:κ×Value)=>p.1=q.1∧RelV p.2 q.2
noncomputable def kV:Key→V
 | .inl i=> .int i
 | .inr x=> .str x
inductive HO where
 |lst (xs:List V)
 |tup (xs:List V)
 |dK (kvs:List (Key×V))|dT (kvs:List (List Key×V))
 |set (S:Int→Bool) (n:Nat)
 |ins (C dx:Addr) (fs:List (Str×V))
 |own (x:Addr)
 |xd (fs:List (Str×V))
 |met (f x:Addr)
 |Ka (lo hi:Int)
 |fW (o:Obj) (u:HO)
 |js (ps:Array Value)
 |ext (φ:Heap→Prop)
noncomputable abbrev Hp:=Addr→Option HO
noncomputable def upd(H:Hp)(a:Addr)(o:HO):Hp:=fun b=>if b=a then some o else H b
theorem aZ{H:Hp}{a:Addr}{o:HO}:upd H a o a=some o:=by unfold upd;rw[if_pos rfl]
theorem aC{H:Hp}{a b:Addr}{o:HO}(h:b≠a):upd H a o b=H b:=by unfold upd;rw[if_neg h]
theorem Hm{H:Hp}{a:Addr}{o u:HO}:upd (upd H a o) a u=upd H a u:=by
 funext b;unfold upd;split<;>rfl
theorem dm{H:Hp}{a b:Addr}{o:HO}(h:H a=some o)(h':H b=none):a≠b:=by
 intro e;subst e;rw[h]at h';cases h'
section
variable (P:Program)(w:World)
noncomputable def dj(H:Hp)(h:Heap)(a:Addr):HO→Prop
 | .lst xs=>xs.length≤sizeLine∧∃(aq:List Value) (n:Nat),Vals xs aq∧h.get? a=some {cls:= .type "list",data:= .seq aq.toArray n}
 | .tup xs=>xs.length≤sizeLine∧∃aq:List Value,Vals xs aq∧IsTup h a aq.toArray
 | .dK kvs=>kvs.length≤sizeLine∧(a==sysModules)=false∧∃vs,KV kvs vs∧h.DictOf (zy P w) a vs
 | .dT kvs=>kvs.length≤sizeLine∧(a==sysModules)=false∧∃xs:List (List Key×Addr×Value),
    Paired (fun(p:List Key×V) (q:List Key×Addr×Value)=>p.1=q.1∧H q.2.1=some (.tup (p.1.map kV))∧RelV p.2 q.2.2) kvs xs∧
    ∃o es ep,h.get? a=some o∧o.ExactDict∧o.data= .dict es ep∧es.toList=xs.map (entryOfKey (tupleKind (zy P w)))∧(xs.map (·.1)).Nodup
 | .set S n=>h.SetOf (intKind P w) a S n
 | .ins C dx fs=>H dx=some (.own a)∧fs.length≤1000∧dx≠a∧h.get? a=some (PySem.W.instObj C dx)∧
    ∃mA,h.Ns1 dx mA∧(∀f,nS (fs.lookup f) (mA f))∧PySem.Within mA (fs.map (·.1))
 | .own _=>∃o,h.get? a=some o
 | .xd fs=>∃mA,h.Ns1 a mA∧∀f,nS (fs.lookup f) (mA f)
 | .Ka lo hi=>∃t u v,h.get? a=some {cls:= .type "range",data:= .fields #[.int lo t,.int hi u,.int 1 v]}
 | .fW o u=>h.get? a=some o∧dj H h a u
 | .js ps=>h.get? a=some {cls:= .none,data:= .fields ps}
 | .met f x=>h.get? a=some (PySem.W.methodObj (.ref f) (.ref x))
 | .ext φ=>φ h∧(∃o,h.get? a=some o)∧∀h1 h2:Heap,φ h1→(∀o,h1.get? a=some o→h2.get? a=some o)→φ h2
noncomputable def gN(H:Hp)(h:Heap):Prop:=∀a o,H a=some o→dj P w H h a o
end
section
variable {P:Program}{w:World}{H H':Hp}{h h':Heap}{a:Addr}{o:HO}
theorem dj.lt(x:dj P w H h a o):a<h.objs.size:=by
 cases o with
 |lst xs=>obtain⟨_,_,_,_,e⟩:=x;exact Heap.lt_size e
 |tup xs=>obtain⟨_,_,_,p⟩:=x;exact p.lt
 |dK kvs=>obtain⟨_,_,_,_,o,_,_,e,_⟩:=x;exact Heap.lt_size e
 |dT kvs=>obtain⟨_,_,_,_,o,_,_,e,_⟩:=x;exact Heap.lt_size e
 |set S n=>obtain⟨o,_,_,_,e,_⟩:=x;exact Heap.lt_size e
 |ins C dx fs=>obtain⟨_,_,_,e,_⟩:=x;exact Heap.lt_size e
 |own y=>obtain⟨_,e⟩:=x;exact Heap.lt_size e
 |xd fs=>obtain⟨_,⟨_,_,_,e,_⟩,_⟩:=x;exact Heap.lt_size e
 |Ka lo hi=>obtain⟨_,_,_,e⟩:=x;exact Heap.lt_size e
 |fW ob u=>obtain⟨e,_⟩:=x;exact Heap.lt_size e
 |js ps=>exact Heap.lt_size (show h.get? a=some _ from x)
 |met f y=>exact Heap.lt_size (show h.get? a=some _ from x)
 |ext φ=>obtain⟨_,⟨_,e⟩,_⟩:=x;exact Heap.lt_size e
theorem Paired.Df{α β:Type}{F G:α→β→Prop}:∀ {l₁:List α} {l₂:List β},Paired F l₁ l₂→(∀a b,F a b→G a b)→Paired G l₁ l₂
 |_,_,.nil,_=> .nil
 |_,_,.cons r t,f=> .cons (f _ _ r) (Paired.Df t f)
theorem dj.oj(x:dj P w H h a o)(k:∀b u,(b=a∨H b=some (.own a))→h.get? b=some u→h'.get? b=some u)
 (ho:∀b,H b=some (.own a)→H' b=some (.own a)) (ht:∀b xs,H b=some (.tup xs)→H' b=some (.tup xs)):dj P w H' h' a o:=by
 induction o with
 |lst xs=>obtain⟨z,aq,n,r,e⟩:=x;exact⟨z,aq,n,r,k _ _ (.inl rfl) e⟩
 |tup xs=>obtain⟨z,aq,r,ob,e,c⟩:=x;exact⟨z,aq,r,ob,k _ _ (.inl rfl) e,c⟩
 |dK kvs=>obtain⟨z,y,vs,r,ob,es,ep,e,c⟩:=x;exact⟨z,y,vs,r,ob,es,ep,k _ _ (.inl rfl) e,c⟩
 |dT kvs=>
  obtain⟨z,y,xs,r,ob,es,ep,e,c⟩:=x
  exact⟨z,y,xs,Paired.Df r fun p q z=>⟨z.1,ht _ _ z.2.1,z.2.2⟩,ob,es,ep,k _ _ (.inl rfl) e,c⟩
 |set S n=>obtain⟨ob,es,ep,t,e,c⟩:=x;exact⟨ob,es,ep,t,k _ _ (.inl rfl) e,c⟩
 |ins C dx fs=>
  obtain⟨d,z,ne,e,mA,⟨od,es,ep,e2,c⟩,r⟩:=x
  exact⟨ho _ d,z,ne,k _ _ (.inl rfl) e,mA,⟨od,es,ep,k _ _ (.inr d) e2,c⟩,r⟩
 |own y=>obtain⟨ob,e⟩:=x;exact⟨ob,k _ _ (.inl rfl) e⟩
 |xd fs=>obtain⟨mA,⟨od,es,ep,e,c⟩,r⟩:=x;exact⟨mA,⟨od,es,ep,k _ _ (.inl rfl) e,c⟩,r⟩
 |Ka lo hi=>obtain⟨t,u,v,e⟩:=x;exact⟨t,u,v,k _ _ (.inl rfl) e⟩
 |fW ob u ih=>obtain⟨e,q⟩:=x;exact⟨k _ _ (.inl rfl) e,ih q⟩
 |js ps=>
  have e:h.get? a=some {cls:= .none,data:= .fields ps}:=x
  show h'.get? a=some {cls:= .none,data:= .fields ps}
  exact k a _ (.inl rfl) e
 |met f y=>
  have e:h.get? a=some (PySem.W.methodObj (.ref f) (.ref y)):=x
  show h'.get? a=some (PySem.W.methodObj (.ref f) (.ref y))
  exact k a _ (.inl rfl) e
 |ext φ=>obtain⟨p,⟨o,e⟩,st⟩:=x;exact⟨st _ _ p fun o q=>k _ _ (.inl rfl) q,⟨o,k _ _ (.inl rfl) e⟩,st⟩
theorem gN.lt(x:gN P w H h)(e:H a=some o):a<h.objs.size:=(x a o e).lt
theorem gN.fresh(x:gN P w H h)(e:h.objs.size≤a):H a=none:=by
 cases q:H a with
 |none=>rfl
 |some u=>exact absurd (Nat.lt_of_lt_of_le (x.lt q) e) (Nat.lt_irrefl _)
theorem gN.kept(x:gN P w H h)(k:∀b u,h.get? b=some u→h'.get? b=some u):gN P w H h':=fun a o e=>
 (x a o e).oj (fun b u _ q=>k b u q) (fun _ q=>q) fun _ _ q=>q
theorem gN.laid(x:gN P w H h)(k:∀b u,h.get? b=some u→h'.get? b=some u)(hp:h.objs.size≤a)(new:dj P w (upd H a o) h' a o):gN P w (upd H a o) h':=fun b u e=>by
 have hn:=x.fresh hp
 by_cases hb:b=a
 · subst hb;rw[aZ]at e;cases e;exact new
 · rw[aC hb]at e
   exact(x b u e).oj (fun c v _ q=>k c v q) (fun c q=>by rw[aC (dm q hn)];exact q) fun c xs q=>by rw[aC (dm q hn)];exact q
end
noncomputable def Rd(H:Hp)(a:Addr)(u:HO):Prop:=H a=some u∨∃o,H a=some (.fW o u)
theorem Rd.of{H:Hp}{a:Addr}{u:HO}(h:H a=some u):Rd H a u:= .inl h
theorem Rd.ok{P:Program}{w:World}{H:Hp}{h:Heap}{a:Addr}{u:HO}(r:Rd H a u)(x:gN P w H h):dj P w H h a u:=by
 rcases r with r|⟨o,r⟩
 · exact x a u r
 · obtain⟨_,q⟩:=x a _ r
   exact q
noncomputable def E9:Option HO→Prop
 |some (.lst _)=>True
 |some (.dK _)=>True
 |some (.dT _)=>True
 |some (.set _ _)=>True
 |some (.ins _ _ _)=>True
 |some (.ext _)=>True
 |_=>False
section
variable {P:Program}{w:World}{H:Hp}{h h':Heap}{x e:Addr}{o':HO}
theorem gN.write(ok:gN P w H h)(mu:E9 (H x))(he:e=x∨H e=some (.own x))(k:∀b u,b≠e→h.get? b=some u→h'.get? b=some u)(heo:∃u,h'.get? e=some u)
 (new:dj P w (upd H x o') h' x o'):gN P w (upd H x o') h':=fun b u q=>by
 have nown:∀c y,H c=some (.own y)→c≠x:=fun c y r z=>by subst z;rw[r]at mu;exact mu
 have ntup:∀c xs,H c=some (.tup xs)→c≠x:=fun c xs r z=>by subst z;rw[r]at mu;exact mu
 by_cases hb:b=x
 · subst hb;rw[aZ]at q;cases q;exact new
 · rw[aC hb]at q
   by_cases hbe:b=e
   · have q':H b=some (.own x):=by
      rcases he with z|z
      · exact absurd (hbe.trans z) hb
      · rw[hbe];exact z
     rw[q]at q';cases q'
     obtain⟨v,hv⟩:=heo
     exact⟨v,by rw[hbe];exact hv⟩
   · refine(ok b u q).oj (fun c v hc r=>k c v ?_ r) (fun c r=>by rw[aC (nown c b r)];exact r) fun c xs r=>by rw[aC (ntup c xs r)];exact r
     rcases hc with rfl|hc
     · exact hbe
     · rintro rfl
       rcases he with z|z
       · exact nown c b hc z
       · rw[hc]at z;cases z;exact hb rfl
end
structure Un(fs ex:List Addr)(H H':Hp)(h h':Heap):Prop where
 keep:∀b o,h.get? b=some o→H b=none→b∉fs→b∉ex→h'.get? b=some o
 slot:∀b o,h.get? b=some o→H b=none→b∈fs→b∉ex→∃sl,h'.get? b=some {o with slots:=sl}
 free:∀b o,h.get? b=some o→H b=none→b∉ex→H' b=none
 there:∀b o,h.get? b=some o→b∉ex→∃o',h'.get? b=some o'
 nY:∀b xs,H b=some (.tup xs)→H' b=some (.tup xs)
 mJ:∀b o u,H b=some (.fW o u)→H' b=some (.fW o u)
 mK:∀b ps,H b=some (.js ps)→∃more,H' b=some (.js (ps++more))
section
variable {fs fs' ex ex':List Addr}{H H1 H2:Hp}{h h1 h2 h':Heap}{a x e:Addr}{o:HO}
theorem Un.any(u:Un fs ex H H1 h h1){b:Addr}{ob:Obj}(q:h.get? b=some ob)(n:H b=none)(hx:b∉ex):∃sl,h1.get? b=some {ob with slots:=sl}:=by
 by_cases hb:b∈fs
 · exact u.slot b ob q n hb hx
 · exact⟨ob.slots,u.keep b ob q n hb hx⟩
theorem Un.kept(k:∀b u,h.get? b=some u→h'.get? b=some u):Un fs ex H H h h':=
 ⟨fun b ob q _ _ _=>k b ob q,fun b ob q _ _ _=>⟨ob.slots,k b ob q⟩,fun _ _ _ n _=>n,fun b ob q _=>⟨ob,k b ob q⟩,fun _ _ q=>q,fun _ _ _ q=>q,fun _ ps q=>⟨#[],by rw[q];simp⟩⟩
theorem Un.refl:Un fs ex H H h h:=Un.kept fun _ _ q=>q
theorem Un.laid(k:∀b u,h.get? b=some u→h'.get? b=some u)(hp:h.objs.size≤a)(hn:H a=none):Un fs ex H (upd H a o) h h' where
 keep:=fun b u q _ _ _=>k b u q
 slot:=fun b u q _ _ _=>⟨u.slots,k b u q⟩
 free:=fun b u q n _=>by rw[aC (Nat.ne_of_lt (Nat.lt_of_lt_of_le (Heap.lt_size q) hp))];exact n
 there:=fun b u q _=>⟨u,k b u q⟩
 nY:=fun b xs q=>by rw[aC (dm q hn)];exact q
 mJ:=fun b u xs q=>by rw[aC (dm q hn)];exact q
 mK:=fun b ps q=>⟨#[],by rw[aC (dm q hn),q];simp⟩
theorem Un.write(mu:E9 (H x))(he:e=x∨H e=some (.own x))(k:∀b u,b≠e→h.get? b=some u→h'.get? b=some u)(heo:∃u,h'.get? e=some u):Un fs ex H (upd H x o) h h':=by
 have hx:∀b,H b=none→b≠x:=fun b n z=>by subst z;rw[n]at mu;exact mu
 have hb:∀b,H b=none→b≠e:=fun b n z=>by
  subst z
  rcases he with r|r
  · exact hx b n r
  · rw[n]at r;cases r
 have hm:∀b u,H b=some u→¬E9 (some u)→b≠x:=fun b u q nm z=>by subst z;rw[q]at mu;exact nm mu
 refine⟨fun b u q n _ _=>k b u (hb b n) q,fun b u q n _ _=>⟨u.slots,k b u (hb b n) q⟩,fun b u q n _=>by rw[aC (hx b n)];exact n,fun b u q _=>?_,
  fun b xs q=>by rw[aC (hm b _ q fun z=>z)];exact q,fun b u xs q=>by rw[aC (hm b _ q fun z=>z)];exact q,fun b ps q=>⟨#[],by rw[aC (hm b _ q fun z=>z),q];simp⟩⟩
 by_cases hbe:b=e
 · subst hbe;exact heo
 · exact⟨u,k b u hbe q⟩
end
noncomputable def Fu(h:Heap)(H:Hp):List Addr:=(List.range h.objs.size).filter fun a=>(H a).isSome
noncomputable def nQ(h:Heap)(H:Hp):Heap:=PySem.W.hideAll h (Fu h H)
theorem CK(h:Heap)(H:Hp):(nQ h H).objs.size=h.objs.size:=PySem.W.hideAll_size _ _
theorem pE{h:Heap}{H:Hp}{b:Addr}{o:Obj}(e:h.get? b=some o)(n:H b=none):(nQ h H).get? b=some o:=
 PySem.W.hideAll_get _ e fun hm=>by
  have q:(H b).isSome=true:=(List.mem_filter.mp hm).2
  rw[n]at q;simp at q
theorem Hg{h:Heap}{H:Hp}{b:Addr}{o:Obj}(e:(nQ h H).get? b=some o):h.get? b=some o∧H b=none:=by
 have e':h.get? b=some o:=PySem.W.of_hideAll (Fu h H) e
 refine⟨e',?_⟩
 cases q:H b with
 |none=>rfl
 |some x=>
  have hm:b∈Fu h H:=List.mem_filter.mpr ⟨List.mem_range.mpr (Heap.lt_size e'),by simp[q]⟩
  have z:(nQ h H).get? b=none:=PySem.W.hideAll_none (Fu h H) hm
  rw[z]at e;cases e
noncomputable def F0(g h:Heap)(L:Addr):List (Addr×Obj):=(List.range h.objs.size).filterMap fun a=>if a=L∨(g.get? a).isSome=true then none else(h.get? a).map fun o=>(a,o)
noncomputable def rest(g h:Heap)(L d:Addr):List (Addr×Obj):=(F0 g h L).filter fun p=>decide (p.1≠d)
end L2
namespace L2
open PySem PySem.Spec PyProof.Rows
structure Mod(K:PySem.W.Frag)(mg:Str→Option Value)(base:Heap):Prop where
 CG:K.In base
 glob:base.Ns mainGlobals mg
 blt:∃mb,base.Ns builtinsNs mb∧∀x:Str,x≠"__name__"→mb x=bootBuiltins x
 nolimit:base.NoLimit
 seer:base.NoSeer
 bmain:∃bm ob,mg "__builtins__"=some (.ref bm)∧bm≠builtinsNs∧base.get? bm=some ob∧ob.cls= .type "module"∧ob.dict=some builtinsNs∧ob.data= .plain
structure Cx where
 prog:Program
 w:World
 K:PySem.W.Frag
 mg:Str→Option Value
 base:Heap
 A:Around
 N:List Str
 s₀:Shared
 H₀:Hp
 env:Env
 outer:List Env
 stack:List Env
 ex:List Addr
 fn:Str→Bool
 calm:Bool
 pn:List (Addr×Obj)
 xe:Value→Shared→Prop
noncomputable def oG(l:List Env):List Addr:=l.filterMap (·.frame)
noncomputable abbrev Cx.fs(X:Cx):List Addr:=oG X.outer
noncomputable def xU(sc:Scope)(x:Str):Prop:=sc.names.lookup x=some .local∨sc.names.lookup x=some .cell∨sc.names.lookup x=some .free
noncomputable def Loc(sc:Scope)(x:Str):Prop:=sc.names.lookup x=some .local∨sc.names.lookup x=some .cell
noncomputable def Look(env:Env)(h:Heap)(m:Str→Option Value)(x:Str)(u:Value):Prop:=
 (env.kindOf x=some .local∧m x=some u)∨((env.kindOf x=some .cell∨env.kindOf x=some .free)∧∃c,env.cells.lookup x=some c∧h.IsCell c (some u))
structure Cx.Ok(X:Cx):Prop where
 mod:Mod X.K X.mg X.base
 kind:X.env.scope.kind= .function
 glob:X.env.globals=mainGlobals
 blt:X.env.builtins=builtinsNs
 above:X.s₀.heap.objs.size≤X.env.locals
 inj:∀x y c,X.env.cells.lookup x=some c→X.env.cells.lookup y=some c→x=y
 has:∀x,(X.env.kindOf x=some .cell∨X.env.kindOf x=some .free)→∃c,X.env.cells.lookup x=some c
 xw:∀x c,X.fn x=true→X.env.cells.lookup x=some c→X.s₀.heap.objs.size≤c
 hd:X.calm=true→X.A.handled=none
 frames:X.A.frames=some X.stack
 zU:X.stack=X.outer∨(X.stack=X.env::X.outer∧X.env.frame=some X.env.locals)
 BL:∀b∈X.ex,b≠X.env.locals∧∀x c,X.env.cells.lookup x=some c→c≠b
 bs:∀b o,X.base.get? b=some o→X.s₀.heap.get? b=some o∧X.H₀ b=none
 qb:X.base.objs.size≤X.s₀.heap.objs.size
 sY:∀b o,X.base.get? b=some o→b∉X.ex
 tx:∀b∈X.ex,b∉X.fs
 jV:X.s₀.heap.FunFrames X.base X.outer
 ue:∀b∈X.fs,X.H₀ b=none
 gt:X.prog.given.tree=none
structure Inv(X:Cx)(pins:List (Addr×Obj))(σ:List (Option V))(H:Hp)(s:Shared):Prop where
 ok:X.Ok
 os:s.os=X.s₀.os
 bare:AllBare s.gens
 base:Un X.fs X.ex X.H₀ H X.s₀.heap s.heap
 loc:∃m,s.heap.Ns X.env.locals m∧∀(i:Nat) (x:Str) (v:V),X.N[i]?=some x→σ[i]?=some (some v)→xU X.env.scope x→∃u,RelV v u∧Look X.env s.heap m x u
 cell:∀x c,X.env.cells.lookup x=some c→∃v,s.heap.IsCell c v
 free:H X.env.locals=none
 h7:∀x c,X.env.cells.lookup x=some c→H c=none
 pin:∀p∈X.pn++pins,s.heap.get? p.1=some p.2∧H p.1=none∧p.1≠X.env.locals∧p.1∉X.fs∧∀v,p.2.data≠ .cell v
 aI:gN X.prog X.w H s.heap
 len:σ.length=X.N.length
section
variable {X:Cx}{pins:List (Addr×Obj)}{σ:List (Option V)}{H H':Hp}{s:Shared}{h':Heap}
theorem Cx.Ok.MB(ok:X.Ok){b:Addr}{o:Obj}(e:X.base.get? b=some o):b∉X.fs:=fun hb=>by
 have:=(ok.jV.mem hb).1
 rw[e]at this;cases this
theorem Inv.bs(I:Inv X pins σ H s):∀b o,X.base.get? b=some o→s.heap.get? b=some o∧H b=none:=fun b o e=>
 ⟨I.base.keep b o (I.ok.bs b o e).1 (I.ok.bs b o e).2 (I.ok.MB e) (I.ok.sY b o e),I.base.free b o (I.ok.bs b o e).1 (I.ok.bs b o e).2 (I.ok.sY b o e)⟩
theorem Inv.bk(I:Inv X pins σ H s):∀b o,X.base.get? b=some o→s.heap.get? b=some o:=fun b o e=>(I.bs b o e).1
theorem Inv.mod(I:Inv X pins σ H s):Mod X.K X.mg X.base:=I.ok.mod
theorem Inv.gw(I:Inv X pins σ H s):X.K.In s.heap:=I.ok.mod.CG.keeps I.bk
theorem Inv.nolimit(I:Inv X pins σ H s):s.heap.NoLimit:=I.ok.mod.nolimit.keeps I.bk
theorem Inv.lt(I:Inv X pins σ H s):X.env.locals<s.heap.objs.size:=let⟨_,hn,_⟩:=I.loc;hn.lt
theorem Inv.sz(I:Inv X pins σ H s):X.s₀.heap.objs.size≤s.heap.objs.size:=Nat.le_trans I.ok.above (Nat.le_of_lt I.lt)
theorem Inv.Jo(I:Inv X pins σ H s){a:Addr}(h:s.heap.objs.size≤a):a∉X.fs:=fun hb=>by
 obtain⟨_,o,ho,_⟩:=I.ok.jV.mem hb
 exact absurd (Nat.lt_of_lt_of_le (Heap.lt_size ho) (Nat.le_trans I.sz h)) (Nat.lt_irrefl _)
theorem Inv.yy(I:Inv X pins σ H s):∀x c,X.env.cells.lookup x=some c→c≠X.env.locals:=fun x c e z=>by
 obtain⟨v,o,ho,hd⟩:=I.cell x c e
 obtain⟨m,⟨o',es,ep,ho',hd',_⟩,_⟩:=I.loc
 rw[z,ho']at ho;cases ho;rw[hd']at hd;cases hd
theorem Inv.jV(I:Inv X pins σ H s):s.heap.FunFrames X.base X.outer:=by
 have all:∀(l:List Env),(∀b∈oG l,b∈X.fs)→X.s₀.heap.FunFrames X.base l→s.heap.FunFrames X.base l:=by
  intro l
  induction l with
  |nil=>intro _ _;trivial
  |cons env r ih=>
   intro hs hl
   obtain⟨hk,⟨L,o,hf,hn,ho,hd⟩,hr⟩:=hl
   have hL:L∈X.fs:=hs L (by unfold oG;rw[List.filterMap_cons,hf];exact List.mem_cons_self)
   obtain⟨sl,e⟩:=I.base.slot L o ho (I.ok.ue L hL) hL fun z=>I.ok.tx L z hL
   exact⟨hk,⟨L,_,hf,hn,e,hd⟩,ih (fun b hb=>hs b (by unfold oG;rw[List.filterMap_cons,hf];exact List.mem_cons_of_mem _ hb)) hr⟩
 exact all X.outer (fun _ hb=>hb) I.ok.jV
theorem Inv.stack(I:Inv X pins σ H s):s.heap.FunFrames X.base X.stack:=by
 rcases I.ok.zU with e|⟨e,hf⟩
 · rw[e];exact I.jV
 · rw[e]
   obtain⟨m,hn,_⟩:=I.loc
   refine .cons (by rw[I.ok.kind];decide) hf hn ?_ I.jV
   exact Heap.get?_none_of_le (Nat.le_trans I.ok.qb I.ok.above)
theorem Inv.yN(I:Inv X pins σ H s):∀b∈oG X.stack,b∈X.env.locals::X.fs:=fun b hb=>by
 rcases I.ok.zU with e|⟨e,hf⟩
 · rw[e]at hb;exact List.mem_cons_of_mem _ hb
 · rw[e]at hb
   unfold oG at hb
   rw[List.filterMap_cons,hf]at hb
   exact hb
theorem Inv.ve(I:Inv X pins σ H s):∀b∈oG X.stack,H b=none:=fun b hb=>by
 rcases List.mem_cons.mp (I.yN b hb)with e|hb
 · rw[e];exact I.free
 · obtain⟨_,o,ho,_⟩:=I.ok.jV.mem hb
   exact I.base.free b o ho (I.ok.ue b hb) fun z=>I.ok.tx b z hb
theorem Inv.step{g':Array GenState}{t':Nat}{d':Drawn}{ch:List Addr}(I:Inv X pins σ H s)
 (hch:∀b∈ch,(b∈X.ex∨X.s₀.heap.objs.size≤b)∧b≠X.env.locals∧(∀x c,X.env.cells.lookup x=some c→c≠b)∧∀p∈X.pn++pins,p.1≠b)
 (keep:∀b o,b≠X.env.locals→b∉X.fs→b∉ch→s.heap.get? b=some o→H b=none→h'.get? b=some o)
 (slot:∀b o,b≠X.env.locals→b∈X.fs→b∉ch→s.heap.get? b=some o→H b=none→∃sl,h'.get? b=some {o with slots:=sl}) (free:∀b o,b∉ch→s.heap.get? b=some o→H b=none→H' b=none)
 (there:∀b o,b∉ch→s.heap.get? b=some o→∃o',h'.get? b=some o')
 (nY:∀b xs,H b=some (.tup xs)→H' b=some (.tup xs)) (mJ:∀b o u,H b=some (.fW o u)→H' b=some (.fW o u)) (mK:∀b ps,H b=some (.js ps)→∃more,H' b=some (.js (ps++more)))
 (ns:∀m,s.heap.Ns X.env.locals m→h'.Ns X.env.locals m) (aI:gN X.prog X.w H' h') (hg:AllBare g'):
 Inv X pins σ H' {s with heap:=h',gens:=g',drawn:=d',toks:=t'}:=by
 have neL:∀b o,X.s₀.heap.get? b=some o→b≠X.env.locals:=fun b o e=>Nat.ne_of_lt (Nat.lt_of_lt_of_le (Heap.lt_size e) I.ok.above)
 have neC:∀b o,X.s₀.heap.get? b=some o→b∉X.ex→b∉ch:=fun b o e hx hb=>by
  rcases(hch b hb).1 with z|z
  · exact hx z
  · exact absurd (Nat.lt_of_lt_of_le (Heap.lt_size e) z) (Nat.lt_irrefl _)
 have cellK:∀x c,X.env.cells.lookup x=some c→∀v,s.heap.IsCell c v→h'.IsCell c v:=fun x c e v ⟨o,ho,hd⟩=>by
  have nch:c∉ch:=fun z=>(hch c z).2.2.1 x c e rfl
  by_cases hc:c∈X.fs
  · obtain⟨sl,q⟩:=slot c o (I.yy x c e) hc nch ho (I.h7 x c e)
    exact⟨_,q,hd⟩
  · exact⟨o,keep c o (I.yy x c e) hc nch ho (I.h7 x c e),hd⟩
 refine⟨I.ok,I.os,hg,⟨fun b o e n hb hx=>?_,fun b o e n hb hx=>?_,fun b o e n hx=>?_,fun b o e hx=>?_,fun b xs e=>nY b xs (I.base.nY b xs e),fun b o xs e=>mJ b o xs (I.base.mJ b o xs e),fun b ps e=>?_⟩,?_,fun x c e=>?_,?_,fun x c e=>?_,fun p hp=>?_,aI,I.len⟩
 · exact keep b o (neL b o e) hb (neC b o e hx) (I.base.keep b o e n hb hx) (I.base.free b o e n hx)
 · obtain⟨sl,e1⟩:=I.base.slot b o e n hb hx
   obtain⟨sl',e2⟩:=slot b _ (neL b o e) hb (neC b o e hx) e1 (I.base.free b o e n hx)
   exact⟨sl',e2⟩
 · obtain⟨o',e1⟩:=I.base.there b o e hx
   exact free b o' (neC b o e hx) e1 (I.base.free b o e n hx)
 · obtain⟨o',e1⟩:=I.base.there b o e hx
   exact there b o' (neC b o e hx) e1
 · obtain⟨m1,e1⟩:=I.base.mK b ps e
   obtain⟨m2,e2⟩:=mK b _ e1
   exact⟨m1++m2,by rw[e2,Array.append_assoc]⟩
 · obtain⟨m,hn,hl⟩:=I.loc
   refine⟨m,ns m hn,fun i x v e1 e2 e3=>?_⟩
   obtain⟨u,r,l⟩:=hl i x v e1 e2 e3
   refine⟨u,r,?_⟩
   rcases l with l|⟨k,c,e,z⟩
   · exact .inl l
   · exact .inr ⟨k,c,e,cellK x c e _ z⟩
 · obtain⟨v,z⟩:=I.cell x c e
   exact⟨v,cellK x c e v z⟩
 · obtain⟨m,⟨o,_,_,ho,_⟩,_⟩:=I.loc
   exact free _ o (fun z=>(hch _ z).2.1 rfl) ho I.free
 · obtain⟨v,o,ho,hd⟩:=I.cell x c e
   exact free c o (fun z=>(hch c z).2.2.1 x c e rfl) ho (I.h7 x c e)
 · obtain⟨e,n,ne,nf,d⟩:=I.pin p hp
   have nch:p.1∉ch:=fun z=>(hch p.1 z).2.2.2 p hp rfl
   exact⟨keep p.1 p.2 ne nf nch e n,free p.1 p.2 nch e n,ne,nf,d⟩
theorem Inv.un{t':Nat}(I:Inv X pins σ H s)(u:Un X.fs [] H H' s.heap h')(aI:gN X.prog X.w H' h'):Inv X pins σ H' {s with heap:=h',toks:=t'}:=by
 obtain⟨m,⟨o,es,ep,ho,r⟩,_⟩:=id I.loc
 obtain⟨sl,hL⟩:=u.any ho I.free (by simp)
 exact I.step (g':=s.gens) (d':=s.drawn) (ch:=[]) (fun _ z=>nomatch z) (fun b o _ hb _ e n=>u.keep b o e n hb (by simp)) (fun b o _ hb _ e n=>u.slot b o e n hb (by simp)) (fun b o _ e n=>u.free b o e n (by simp)) (fun b o _ e=>u.there b o e (by simp)) u.nY u.mJ u.mK (fun m' hm=>by
  obtain⟨o',es',ep',ho',r'⟩:=hm
  rw[ho]at ho';cases ho'
  exact⟨_,es',ep',hL,r'⟩) aI I.bare
theorem Inv.call{g':Array GenState}{t':Nat}{d':Drawn}{ch:List Addr}(I:Inv X pins σ H s)(u:Un (oG X.stack) ch H H' s.heap h')(aI:gN X.prog X.w H' h')(hg:AllBare g')
 (hch:∀b∈ch,(b∈X.ex∨X.s₀.heap.objs.size≤b)∧b≠X.env.locals∧(∀x c,X.env.cells.lookup x=some c→c≠b)∧∀p∈X.pn++pins,p.1≠b):
 Inv X pins σ H' {s with heap:=h',gens:=g',drawn:=d',toks:=t'}:=by
 obtain⟨m,⟨o,es,ep,ho,r⟩,_⟩:=id I.loc
 obtain⟨sl,hL⟩:=u.any ho I.free fun z=>(hch _ z).2.1 rfl
 exact I.step (ch:=ch) hch (fun b o hL hb hc e n=>u.keep b o e n (fun z=>(List.mem_cons.mp (I.yN b z)).elim hL hb) hc) (fun b o _ _ hc e n=>u.any e n hc) (fun b o hc e n=>u.free b o e n hc) (fun b o hc e=>u.there b o e hc) u.nY u.mJ u.mK (fun m' hm=>by
  obtain⟨o',es',ep',ho',r'⟩:=hm
  rw[ho]at ho';cases ho'
  exact⟨_,es',ep',hL,r'⟩) aI hg
theorem Inv.turned{t':Nat}{it:Addr}(I:Inv X pins σ H s)(k:∀b o,b≠it→s.heap.get? b=some o→h'.get? b=some o)(hn:H it=none)(hL:it≠X.env.locals)
 (h1:it∈X.ex∨X.s₀.heap.objs.size≤it) (h2:∀x c,X.env.cells.lookup x=some c→c≠it) (h3:∀p∈X.pn++pins,p.1≠it):Inv X pins σ H {s with heap:=h',toks:=t'}:=by
 have nit:∀b u,H b=some u→b≠it:=fun b u e z=>by rw[z,hn]at e;cases e
 refine I.step (g':=s.gens) (d':=s.drawn) (ch:=[it]) (fun b hb=>?_) (fun b o _ _ hc e _=>k b o (fun z=>hc (by simp[z])) e) (fun b o _ _ hc e _=>⟨o.slots,k b o (fun z=>hc (by simp[z])) e⟩) (fun _ _ _ _ n=>n)
  (fun b o hc e=>⟨o,k b o (fun z=>hc (by simp[z])) e⟩) (fun _ _ e=>e) (fun _ _ _ e=>e) (fun b ps e=>⟨#[],by rw[e];simp⟩) (fun m hm=>?_) (fun b u e=>?_) I.bare
 · have e:b=it:=by simpa using hb
   subst e
   exact⟨h1,hL,h2,h3⟩
 · obtain⟨o,es,ep,ho,r⟩:=hm
   exact⟨o,es,ep,k _ o (Ne.symm hL) ho,r⟩
 · refine(I.aI b u e).oj (fun c v hc q=>k c v ?_ q) (fun _ q=>q) fun _ _ q=>q
   rcases hc with z|z
   · rw[z];exact nit b u e
   · exact nit c _ z
theorem Inv.tok(I:Inv X pins σ H s)(t:Nat):Inv X pins σ H {s with toks:=t}:=I.un (h':=s.heap) (t':=t) Un.refl I.aI
theorem Inv.kept{t':Nat}(I:Inv X pins σ H s)(k:∀b u,s.heap.get? b=some u→h'.get? b=some u):Inv X pins σ H {s with heap:=h',toks:=t'}:=I.un (Un.kept k) (I.aI.kept k)
theorem Inv.laid{a:Addr}{o:HO}{t':Nat}(I:Inv X pins σ H s)(k:∀b u,s.heap.get? b=some u→h'.get? b=some u)(hp:s.heap.objs.size≤a)(new:dj X.prog X.w (upd H a o) h' a o):
 Inv X pins σ (upd H a o) {s with heap:=h',toks:=t'}:=I.un (Un.laid k hp (I.aI.fresh hp)) (I.aI.laid k hp new)
theorem Inv.write{x e:Addr}{o:HO}{t':Nat}(I:Inv X pins σ H s)(mu:E9 (H x))(he:e=x∨H e=some (.own x))(k:∀b u,b≠e→s.heap.get? b=some u→h'.get? b=some u)(heo:∃u,h'.get? e=some u)
 (new:dj X.prog X.w (upd H x o) h' x o):Inv X pins σ (upd H x o) {s with heap:=h',toks:=t'}:=I.un (Un.write mu he k heo) (I.aI.write mu he k heo new)
theorem Inv.q_{pins':List (Addr×Obj)}(I:Inv X pins σ H s)(h:∀p∈pins',s.heap.get? p.1=some p.2∧H p.1=none∧p.1≠X.env.locals∧p.1∉X.fs∧∀v,p.2.data≠ .cell v):Inv X pins' σ H s:=
 ⟨I.ok,I.os,I.bare,I.base,I.loc,I.cell,I.free,I.h7,fun p hp=>(List.mem_append.mp hp).elim (fun z=>I.pin p (List.mem_append_left _ z)) (h p),I.aI,I.len⟩
theorem x4{N:List Str}(hN:N.Nodup){i j:Nat}{x:Str}(a:N[i]?=some x)(b:N[j]?=some x):i=j:=by
 obtain⟨h1,e1⟩:=List.getElem?_eq_some_iff.mp a
 obtain⟨h2,e2⟩:=List.getElem?_eq_some_iff.mp b
 exact(List.getElem_inj hN).mp (e1.trans e2.symm)
theorem vz{M:Model}{A:Around}{E:Value→Shared→Prop}{i:Nat}{x:Str}{v:V}{u:Value}{Q:Unit→Shared→Prop}(I:Inv X pins σ H s)(hN:X.N.Nodup)(hi:X.N[i]?=some x)(hx:Loc X.env.scope x)(r:RelV v u)
 (h:∀s',Inv X pins (σ.set i (some v)) H s'→(∃a,Heap.SameBut a s.heap s'.heap∧(a=X.env.locals∨X.env.cells.lookup x=some a))→Q () s') (hf:X.fn x=true∨X.env.scope.names.lookup x=some .local:=by first|exact .inl rfl|exact .inr rfl|assumption):wpAny M A (storeName X.env x u) Q E s:=by
 obtain⟨m,hn,hl⟩:=id I.loc
 have hcls:(X.env.scope.kind== .class||(X.env.scope.kind== .module&&X.env.locals != X.env.globals))=false:=by rw[I.ok.kind];rfl
 have hiσ:i<σ.length:=by rw[I.len];exact(List.getElem?_eq_some_iff.mp hi).1
 have yy:=I.yy
 have tracked:∀ {a:Addr} {h':Heap},(∃o,s.heap.get? a=some o∧H a=none)→Heap.SameBut a s.heap h'→gN X.prog X.w H h':=fun{a h'} ha hs b ob e=>by
  obtain⟨_,_,hfree⟩:=ha
  refine(I.aI b ob e).oj (fun c w' hc q=>(hs.2 c ?_).trans q) (fun _ q=>q) fun _ _ q=>q
  rintro rfl
  rcases hc with rfl|hc
  · rw[hfree]at e;cases e
  · rw[hfree]at hc;cases hc
 rcases hx with hk|hk
 · refine wpAny_storeName_local hk hn (fun h' hn' hs=>?_) hcls
   obtain⟨oL,_,_,hoL,_⟩:=id hn
   refine h _ ⟨I.ok,I.os,I.bare,⟨fun b o e n hb hx=>?_,fun b o e n hb hx=>?_,I.base.free,fun b o e hx=>?_,I.base.nY,I.base.mJ,I.base.mK⟩,⟨_,hn',fun j y v' e1 e2 e3=>?_⟩,fun y c e=>?_,I.free,I.h7,fun p hp=>?_,tracked ⟨oL,hoL,I.free⟩ hs,by simpa using I.len⟩ ⟨_,hs,.inl rfl⟩
   · exact(hs.2 b (Nat.ne_of_lt (Nat.lt_of_lt_of_le (Heap.lt_size e) I.ok.above))).trans (I.base.keep b o e n hb hx)
   · obtain⟨sl,e1⟩:=I.base.slot b o e n hb hx
     exact⟨sl,(hs.2 b (Nat.ne_of_lt (Nat.lt_of_lt_of_le (Heap.lt_size e) I.ok.above))).trans e1⟩
   · obtain⟨o',e1⟩:=I.base.there b o e hx
     exact⟨o',(hs.2 b (Nat.ne_of_lt (Nat.lt_of_lt_of_le (Heap.lt_size e) I.ok.above))).trans e1⟩
   · by_cases hj:j=i
     · subst hj
       rw[hi]at e1;cases e1
       rw[List.getElem?_set_self hiσ]at e2
       cases e2
       exact⟨u,r,.inl ⟨hk,by simp⟩⟩
     · rw[List.getElem?_set_ne (Ne.symm hj)]at e2
       obtain⟨u',r',q⟩:=hl j y v' e1 e2 e3
       refine⟨u',r',?_⟩
       rcases q with⟨k,e⟩|⟨k,c,e,z⟩
       · refine .inl ⟨k,?_⟩
         have:y≠x:=fun e=>hj (x4 hN e1 (e▸hi))
         simp[this,e]
       · exact .inr ⟨k,c,e,z.sameBut hs (yy y c e)⟩
   · obtain⟨w',z⟩:=I.cell y c e
     exact⟨w',z.sameBut hs (yy y c e)⟩
   · obtain⟨e,n,ne,nf,d⟩:=I.pin p hp
     exact⟨(hs.2 p.1 ne).trans e,n,ne,nf,d⟩
 · have hfn:X.fn x=true:=by
    rcases hf with z|z
    · exact z
    · rw[z]at hk;cases hk
   obtain⟨c,hc⟩:=I.ok.has x (.inl hk)
   obtain⟨w',z⟩:=I.cell x c hc
   refine wpAny_storeName_cell I.ok.kind hk hc z (fun h' hc' hs=>?_)
   obtain⟨oc,hoc,hocd⟩:=id z
   refine h {s with heap:=h'} ⟨I.ok,I.os,I.bare,⟨fun b o e n hb hx=>?_,fun b o e n hb hx=>?_,I.base.free,fun b o e hx=>?_,I.base.nY,I.base.mJ,I.base.mK⟩,⟨m,hn.sameBut hs (Ne.symm (yy x c hc)),fun j y v' e1 e2 e3=>?_⟩,fun y c' e=>?_,I.free,I.h7,fun p hp=>?_,tracked ⟨oc,hoc,I.h7 x c hc⟩ hs,by simpa using I.len⟩ ⟨c,hs,.inr hc⟩
   · exact(hs.2 b (Nat.ne_of_lt (Nat.lt_of_lt_of_le (Heap.lt_size e) (I.ok.xw x c hfn hc)))).trans (I.base.keep b o e n hb hx)
   · obtain⟨sl,e1⟩:=I.base.slot b o e n hb hx
     exact⟨sl,(hs.2 b (Nat.ne_of_lt (Nat.lt_of_lt_of_le (Heap.lt_size e) (I.ok.xw x c hfn hc)))).trans e1⟩
   · obtain⟨o',e1⟩:=I.base.there b o e hx
     exact⟨o',(hs.2 b (Nat.ne_of_lt (Nat.lt_of_lt_of_le (Heap.lt_size e) (I.ok.xw x c hfn hc)))).trans e1⟩
   · by_cases hj:j=i
     · subst hj
       rw[hi]at e1;cases e1
       rw[List.getElem?_set_self hiσ]at e2
       cases e2
       exact⟨u,r,.inr ⟨.inl hk,c,hc,hc'⟩⟩
     · rw[List.getElem?_set_ne (Ne.symm hj)]at e2
       obtain⟨u',r',q⟩:=hl j y v' e1 e2 e3
       refine⟨u',r',?_⟩
       rcases q with q|⟨k,c',e,z'⟩
       · exact .inl q
       · refine .inr ⟨k,c',e,z'.sameBut hs ?_⟩
         rintro rfl
         exact hj (x4 hN e1 (I.ok.inj _ _ _ e hc▸hi))
   · by_cases hcc:c'=c
     · subst hcc;exact⟨_,hc'⟩
     · obtain⟨w2,z2⟩:=I.cell y c' e
       exact⟨w2,z2.sameBut hs hcc⟩
   · obtain⟨e,n,ne,nf,d⟩:=I.pin p hp
     refine⟨(hs.2 p.1 ?_).trans e,n,ne,nf,d⟩
     intro q
     rw[q,hoc]at e
     have q':oc=p.2:=Option.some.inj e
     exact d w' (by rw[←q'];exact hocd)
theorem m6{M:Model}{A:Around}{E:Value→Shared→Prop}{i:Nat}{x:Str}{v:V}{u:Value}{Q:Unit→Shared→Prop}(I:Inv X pins σ H s)(hN:X.N.Nodup)(hi:X.N[i]?=some x)(hx:Loc X.env.scope x)(r:RelV v u)
 (h:∀s',Inv X pins (σ.set i (some v)) H s'→Q () s') (hf:X.fn x=true∨X.env.scope.names.lookup x=some .local:=by first|exact .inl rfl|exact .inr rfl|assumption):wpAny M A (storeName X.env x u) Q E s:=
 vz I hN hi hx r (fun s' I' _=>h s' I') hf
theorem Inv.AW{s':Shared}{ch:List Addr}(I:Inv X pins σ H s)(ho:s'.os=s.os)(u:Un (oG X.stack) ch H H' s.heap s'.heap)(aI:gN X.prog X.w H' s'.heap)(hg:AllBare s'.gens)
 (hch:∀b∈ch,(b∈X.ex∨X.s₀.heap.objs.size≤b)∧b≠X.env.locals∧(∀x c,X.env.cells.lookup x=some c→c≠b)∧∀p∈X.pn++pins,p.1≠b):Inv X pins σ H' s':=by
 obtain⟨h',g',d',t',o'⟩:=s'
 have e:o'=s.os:=ho
 subst e
 exact I.call (g':=g') (t':=t') (d':=d') u aI hg hch
end
noncomputable abbrev XK:=Value→Option Addr→Hp→Prop
noncomputable abbrev St:=List (Option V)
noncomputable abbrev VK:=V→Hp→Prop
noncomputable abbrev TE:=St→Hp→VK→Prop
noncomputable abbrev TT:=St→Hp→(Bool→Hp→Prop)→Prop
noncomputable abbrev TA:=St→Hp→(List V→Hp→Prop)→Prop
structure Ends where
 nx:St→Hp→Prop
 rt:VK
 bk:St→Hp→Prop:=fun _ _=>False
 ct:St→Hp→Prop:=fun _ _=>False
noncomputable abbrev TS:=Ends→St→Hp→Prop
noncomputable def EP(X:Cx)(pins:List (Addr×Obj))(σ:St)(Q:VK)(u:Value)(s':Shared):Prop:=∃v H',Inv X pins σ H' s'∧RelV v u∧Q v H'
noncomputable def TP(X:Cx)(pins:List (Addr×Obj))(σ:St)(Q:Bool→Hp→Prop)(b:Bool)(s':Shared):Prop:=∃H',Inv X pins σ H' s'∧Q b H'
noncomputable def AP(X:Cx)(pins:List (Addr×Obj))(σ:St)(Q:List V→Hp→Prop)(us:List Value)(s':Shared):Prop:=∃vs H',Inv X pins σ H' s'∧Vals vs us∧Q vs H'
noncomputable def SP(X:Cx)(pins:List (Addr×Obj))(D:Ends)(f:Flow)(s':Shared):Prop:=
 match f with
 | .next=>∃σ' H',Inv X pins σ' H' s'∧D.nx σ' H'
 | .brk=>∃σ' H',Inv X pins σ' H' s'∧D.bk σ' H'
 | .cont=>∃σ' H',Inv X pins σ' H' s'∧D.ct σ' H'
 | .ret u=>∃v σ' H',Inv X pins σ' H' s'∧RelV v u∧D.rt v H'
noncomputable def PE(X:Cx)(e:Expr)(t:TE):Prop:=
 ∀(pins:List (Addr×Obj)) (s:Shared) (σ:St) (H:Hp) (Q:VK),Inv X pins σ H s→t σ H Q→wpAny (model X.prog X.w) X.A (eval e X.env) (EP X pins σ Q) X.xe s
noncomputable def PT(X:Cx)(e:Expr)(t:TT):Prop:=
 ∀(pins:List (Addr×Obj)) (s:Shared) (σ:St) (H:Hp) (Q:Bool→Hp→Prop),Inv X pins σ H s→t σ H Q→wpAny (model X.prog X.w) X.A (isTrue e X.env (eval e X.env)) (TP X pins σ Q) X.xe s
noncomputable def PW(X:Cx)(e:Expr)(t:TT):Prop:=
 ∀(whole:Sem Value) (pins:List (Addr×Obj)) (s:Shared) (σ:St) (H:Hp) (Q:Bool→Hp→Prop),Inv X pins σ H s→t σ H Q→wpAny (model X.prog X.w) X.A (isTrue e X.env whole) (TP X pins σ Q) X.xe s
theorem PW.pt{X:Cx}{e:Expr}{t:TT}(h:PW X e t):PT X e t:=h _
noncomputable def PA(X:Cx)(es:List Expr)(t:TA):Prop:=
 ∀(pos:Pos) (pins:List (Addr×Obj)) (s:Shared) (σ:St) (H:Hp) (Q:List V→Hp→Prop),Inv X pins σ H s→t σ H Q→wpAny (model X.prog X.w) X.A (spliced (backTo pos (starEach es X.env))) (AP X pins σ Q) X.xe s
noncomputable def PS(X:Cx)(st:Stmt)(t:TS):Prop:=
 ∀(pins:List (Addr×Obj)) (s:Shared) (σ:St) (H:Hp) (D:Ends),Inv X pins σ H s→t D σ H→wpAny (model X.prog X.w) X.A (exec st X.env) (SP X pins D) X.xe s
noncomputable def gv(X:Cx)(st:List Stmt)(t:TS):Prop:=
 ∀(pins:List (Addr×Obj)) (s:Shared) (σ:St) (H:Hp) (D:Ends),Inv X pins σ H s→t D σ H→wpAny (model X.prog X.w) X.A (execs st X.env) (SP X pins D) X.xe s
theorem bU{α:Type}{t:Sem α}{Q Q':α→Shared→Prop}{M:Model}{A:Around}{E:Value→Shared→Prop}{s:Shared}(h:wpAny M A t Q E s)(hQ:∀a s,Q a s→Q' a s):wpAny M A t Q' E s:=wpAny_mono h hQ fun _ _ x=>x
end L2
namespace L2
open PySem PySem.Spec PyProof.Rows
section
variable {X:Cx}
noncomputable def Hx(i:Nat):TE:=fun σ H Q=>∃v,σ[i]?=some (some v)∧Q v H
noncomputable def tC(v:V):TE:=fun _ H Q=>Q v H
theorem Jt{i:Nat}{x:Str}{pos:Pos}(hN:X.N[i]?=some x)(hv:xU X.env.scope x)(hd:(x==("__debug__":Str))=false:=by decide)(hcd:(x==("__classdict__":Str))=false:=by decide):PE X (.Name x pos) (Hx i):=by
 intro pins s σ H Q I h
 obtain⟨v,e,h⟩:=h
 obtain⟨m,hn,hl⟩:=I.loc
 obtain⟨u,r,l⟩:=hl i x v hN e hv
 have fin:EP X pins σ Q u s:=⟨v,H,I,r,h⟩
 rcases l with⟨hk,hm⟩|⟨hk,c,hc,hcell⟩
 · exact wpAny_Name (wpAny_loadName_local I.ok.kind hk hn hm fin) hd
 · rcases hk with hk|hk
   · exact wpAny_Name (wpAny_loadName_cell I.ok.kind hk hc hcell fin) hd
   · exact wpAny_Name (wpAny_loadName_free I.ok.kind hk hc hcell fin hcd) hd
theorem JR{i j pos}:PE X (.Constant (.int i) j pos) (tC (.int i)):=fun _ _ _ H _ I h=>wpAny_Constant_int ⟨.int i,H,I.tok _,⟨_,rfl⟩,h⟩
theorem Kr{b j pos}:PE X (.Constant (.bool b) j pos) (tC (.bl b)):=fun _ _ _ H _ I h=>Constant_bool ⟨.bl b,H,I,rfl,h⟩
theorem IB{j pos}:PE X (.Constant .none j pos) (tC .aG):=fun _ _ _ H _ I h=>Constant_none ⟨.aG,H,I,rfl,h⟩
theorem JD{x j pos}:PE X (.Constant (.str x) j pos) (tC (.str x)):=fun _ _ _ H _ I h=>Calls.Constant_str ⟨.str x,H,I.tok _,⟨_,rfl⟩,h⟩
noncomputable def Gl(X:Cx)(x:Str):Prop:=X.env.kindOf x=some .globalImplicit
theorem zV{E:Value→Shared→Prop}{pins:List (Addr×Obj)}{s:Shared}{σ:St}{H:Hp}{x:Str}{u:Value}{pos:Pos}{Q:Value→Shared→Prop}(I:Inv X pins σ H s)(hg:Gl X x)(hm:X.mg x=some u)(h:Q u s)
 (hd:(x==("__debug__":Str))=false:=by decide):wpAny (model X.prog X.w) X.A (eval (.Name x pos) X.env) Q E s:=
 Calls.Name_function_global I.ok.kind hg (Calls.loadGlobal_global (by rw[I.ok.glob];exact I.mod.glob.keeps I.bk) hm h) hd
theorem ka{E:Value→Shared→Prop}{pins:List (Addr×Obj)}{s:Shared}{σ:St}{H:Hp}{x:Str}{u:Value}{pos:Pos}{Q:Value→Shared→Prop}(I:Inv X pins σ H s)(hg:Gl X x)(hm:X.mg x=none)(hv:bootBuiltins x=some u)(h:Q u s)
 (hn:x≠"__name__":=by decide) (hd:(x==("__debug__":Str))=false:=by decide):wpAny (model X.prog X.w) X.A (eval (.Name x pos) X.env) Q E s:=by
 obtain⟨mb,h1,h2⟩:=I.mod.blt
 exact Calls.Name_function_global I.ok.kind hg (Calls.loadGlobal_builtin (by rw[I.ok.glob];exact I.mod.glob.keeps I.bk) hm (by rw[I.ok.blt];exact h1.keeps I.bk) ((h2 x hn).trans hv) h) hd
theorem Hi{x:Str}{v:V}{u:Value}{pos:Pos}(hg:Gl X x)(hm:X.mg x=none)(hv:bootBuiltins x=some u)(r:RelV v u)(hn:x≠"__name__":=by decide)(hd:(x==("__debug__":Str))=false:=by decide):PE X (.Name x pos) (tC v):=
 fun _ _ _ H _ I h=>ka I hg hm hv ⟨v,H,I,r,h⟩ hn hd
variable {a b:Expr}{ta tb:TE}{pos:Pos}
noncomputable def tB(t:TE):TT:=fun σ H Q=>t σ H fun x H1=>∃c,x= .bl c∧Q c H1
theorem Ih{e:Expr}{t:TE}(h:PE X e t)(he:∀whole,isTrue e X.env whole=(do let v ←whole;standAt e.pos;holding [v] (truthy v)):=by intro _;rfl):PT X e (tB t):=by
 intro pins s σ H Q I hw
 refine isTrue_plain (bU (h pins s σ H _ I hw) fun v s1 ⟨x,H1,I1,r1,q1⟩=>?_) (he _)
 obtain⟨d,rfl,q⟩:=q1
 cases r1
 exact wpAny_truthy_bool ⟨H1,I1,q⟩
variable {tA tB':TT}{rest:List Expr}
noncomputable def Ir(t u:TT):TT:=fun σ H Q=>t σ H fun c H1=>if c=true then u σ H1 Q else Q false H1
noncomputable def Mp(t u:TT):TT:=fun σ H Q=>t σ H fun c H1=>if c=true then Q true H1 else u σ H1 Q
noncomputable def Nj(t:TT):TT:=fun σ H Q=>t σ H fun c H1=>Q (!c) H1
theorem pw_and1(ha:PT X a tA):PW X (.BoolOp .And [a] pos) tA:=by
 intro wh pins s σ H Q I h
 refine isTrue_and (bU (ha pins s σ H Q I h) fun c s1 e=>?_)
 cases c with
 |true=>exact isTrue_and_nil e
 |false=>exact e
theorem pw_or1(ha:PT X a tA):PW X (.BoolOp .Or [a] pos) tA:=by
 intro wh pins s σ H Q I h
 refine isTrue_or (bU (ha pins s σ H Q I h) fun c s1 e=>?_)
 cases c with
 |false=>exact isTrue_or_nil e
 |true=>exact e
theorem pw_and(ha:PT X a tA)(hb:PW X (.BoolOp .And (b::rest) pos) tB'):PW X (.BoolOp .And (a::b::rest) pos) (Ir tA tB'):=by
 intro wh pins s σ H Q I h
 refine isTrue_and (bU (ha pins s σ H _ I h) fun c s1 ⟨H1,I1,q1⟩=>?_)
 cases c with
 |true=>exact hb wh pins s1 σ H1 Q I1 q1
 |false=>exact⟨H1,I1,q1⟩
theorem pw_or(ha:PT X a tA)(hb:PW X (.BoolOp .Or (b::rest) pos) tB'):PW X (.BoolOp .Or (a::b::rest) pos) (Mp tA tB'):=by
 intro wh pins s σ H Q I h
 refine isTrue_or (bU (ha pins s σ H _ I h) fun c s1 ⟨H1,I1,q1⟩=>?_)
 cases c with
 |true=>exact⟨H1,I1,q1⟩
 |false=>exact hb wh pins s1 σ H1 Q I1 q1
theorem Im(ha:PT X a tA):PT X (.UnaryOp .Not a pos) (Nj tA):=by
 intro pins s σ H Q I h
 exact isTrue_not (ha pins s σ H (fun c H1=>Q (!c) H1) I h)
noncomputable def Ky(ta tb:TE):TE:=fun σ H Q=>ta σ H fun x H1=>∃c,x= .bl c∧if c=true then tb σ H1 Q else Q (.bl false) H1
noncomputable def MC(ta tb:TE):TE:=fun σ H Q=>ta σ H fun x H1=>∃c,x= .bl c∧if c=true then Q (.bl true) H1 else tb σ H1 Q
noncomputable def Le(ta:TE):TE:=fun σ H Q=>ta σ H fun x H1=>∃c,x= .bl c∧Q (.bl (!c)) H1
theorem Hu{op}{t:TE}(h:PE X a t):PE X (.BoolOp op [a] pos) t:=fun pins s σ H Q I hw=>BoolOp_one (h pins s σ H Q I hw)
theorem IE(ha:PE X a ta)(hb:PE X (.BoolOp .And (b::rest) pos) tb):PE X (.BoolOp .And (a::b::rest) pos) (Ky ta tb):=by
 intro pins s σ H Q I h
 refine BoolOp_and (bU (ha pins s σ H _ I h) fun v s1 ⟨x,H1,I1,r1,q1⟩=>?_)
 obtain⟨c,rfl,q1⟩:=q1
 cases r1
 refine wpAny_truthy_bool ?_
 cases c with
 |true=>exact hb pins s1 σ H1 Q I1 q1
 |false=>exact⟨.bl false,H1,I1,rfl,q1⟩
theorem L5(ha:PE X a ta)(hb:PE X (.BoolOp .Or (b::rest) pos) tb):PE X (.BoolOp .Or (a::b::rest) pos) (MC ta tb):=by
 intro pins s σ H Q I h
 refine BoolOp_or (bU (ha pins s σ H _ I h) fun v s1 ⟨x,H1,I1,r1,q1⟩=>?_)
 obtain⟨c,rfl,q1⟩:=q1
 cases r1
 refine wpAny_truthy_bool ?_
 cases c with
 |false=>exact hb pins s1 σ H1 Q I1 q1
 |true=>exact⟨.bl true,H1,I1,rfl,q1⟩
theorem Ic(ha:PE X a ta):PE X (.UnaryOp .Not a pos) (Le ta):=by
 intro pins s σ H Q I h
 refine UnaryOp_ (bU (ha pins s σ H _ I h) fun v s1 ⟨x,H1,I1,r1,q1⟩=>?_)
 obtain⟨c,rfl,q1⟩:=q1
 cases r1
 exact not_of (wpAny_truthy_bool ⟨.bl (!c),H1,I1,rfl,q1⟩)
noncomputable def Np(t:TT)(ta tb:TE):TE:=fun σ H Q=>t σ H fun c H1=>if c=true then ta σ H1 Q else tb σ H1 Q
theorem Eb{c:Expr}(hc:PT X c tA)(ha:PE X a ta)(hb:PE X b tb):PE X (.IfExp c a b pos) (Np tA ta tb):=by
 intro pins s σ H Q I h
 refine wpAny_IfExp (bU (hc pins s σ H _ I h) fun d s1 ⟨H1,I1,q1⟩=>?_)
 cases d with
 |true=>exact ha pins s1 σ H1 Q I1 q1
 |false=>exact hb pins s1 σ H1 Q I1 q1
end
end L2
namespace L2
open PySem PySem.Spec PyProof.Rows
noncomputable def k_(K:PySem.W.Frag)(H:Hp)(a:Addr)(xs:List V):Prop:=
 Rd H a (.lst xs)∨
  ∃(o:Obj) (aq:Array Value) (n:Nat),K.lookup a=some o∧o.cls= .type "list"∧o.dict=none∧o.data= .seq aq n∧aq.size≤sizeLine∧Vals xs aq.toList
noncomputable def iE(K:PySem.W.Frag)(H:Hp)(a:Addr)(xs:List V):Prop:=
 Rd H a (.tup xs)∨
  ∃(o:Obj) (aq:Array Value) (n:Nat),K.lookup a=some o∧o.cls= .type "tuple"∧o.data= .seq aq n∧aq.size≤sizeLine∧Vals xs aq.toList
noncomputable def MI:Value→Option V
 | .none=>some .aG
 | .bool b=>some (.bl b)
 | .int i _=>some (.int i)
 | .str x _=>some (.str x)
 | .bytes b _=>some (.sG b)
 | .float b _=>some (.rY b)
 | .ref a=>some (.ref a)
 | .type n=>some (.ty n)
 |_=>none
theorem RelV.abs{x:V}{u:Value}(r:RelV x u):MI u=some x:=by
 cases x with
 |aG=>cases r;rfl
 |bl _=>cases r;rfl
 |int _=>obtain⟨t,rfl⟩:=r;rfl
 |str _=>obtain⟨t,rfl⟩:=r;rfl
 |sG _=>obtain⟨t,rfl⟩:=r;rfl
 |rY _=>obtain⟨t,rfl⟩:=r;rfl
 |ref _=>cases r;rfl
 |ty _=>cases r;rfl
theorem RelV.inj{x y:V}{u:Value}(r:RelV x u)(q:RelV y u):x=y:=Option.some.inj (r.abs.symm.trans q.abs)
theorem Vals.inj:∀ {xs ys:List V} {us:List Value},Vals xs us→Vals ys us→xs=ys
 |_,_,_,.nil,.nil=>rfl
 |_,_,_,.cons r t,.cons r' t'=>by rw[r.inj r',Vals.inj t t']
section
variable {X:Cx}{pins:List (Addr×Obj)}{σ:St}{H:Hp}{s:Shared}{a:Addr}{xs ys:List V}
theorem k_.of{K:PySem.W.Frag}(h:H a=some (.lst xs)):k_ K H a xs:= .inl (.inl h)
theorem iE.of{K:PySem.W.Frag}(h:H a=some (.tup xs)):iE K H a xs:= .inl (.inl h)
theorem Inv.list(I:Inv X pins σ H s)(h:k_ X.K H a xs):∃aq:List Value,Vals xs aq∧PlainL s.heap a aq.toArray∧xs.length≤sizeLine:=by
 rcases h with h|⟨o,aq,n,hk,hc,hd,hs,hz,r⟩
 · obtain⟨z,aq,n,r,e⟩:=h.ok I.aI
   exact⟨aq,r,⟨_,n,e,rfl,rfl,rfl⟩,z⟩
 · refine⟨aq.toList,r,⟨o,n,I.gw a o hk,hc,hd,by simpa using hs⟩,?_⟩
   have e:=r.length
   simp only[Array.length_toList]at e
   omega
theorem Inv.tuple(I:Inv X pins σ H s)(h:iE X.K H a xs):∃aq:List Value,Vals xs aq∧IsTup s.heap a aq.toArray∧xs.length≤sizeLine:=by
 rcases h with h|⟨o,aq,n,hk,hc,hs,hz,r⟩
 · obtain⟨z,aq,r,p⟩:=h.ok I.aI
   exact⟨aq,r,p,z⟩
 · refine⟨aq.toList,r,⟨o,I.gw a o hk,hc,n,by simpa using hs⟩,?_⟩
   have e:=r.length
   simp only[Array.length_toList]at e
   omega
theorem Inv.x8(I:Inv X pins σ H s)(h:k_ X.K H a xs)(h':k_ X.K H a ys):xs=ys:=by
 obtain⟨aq,r,⟨o,n,e,_,_,d⟩,_⟩:=I.list h
 obtain⟨its',r',⟨o',n',e',_,_,d'⟩,_⟩:=I.list h'
 rw[e]at e';cases e'
 rw[d]at d'
 injection d' with d1 _
 have:aq=its':=by simpa using congrArg Array.toList d1
 subst this
 exact r.inj r'
theorem Inv.vq(I:Inv X pins σ H s)(h:iE X.K H a xs)(h':iE X.K H a ys):xs=ys:=by
 obtain⟨aq,r,⟨o,e,_,n,d⟩,_⟩:=I.tuple h
 obtain⟨its',r',⟨o',e',_,n',d'⟩,_⟩:=I.tuple h'
 rw[e]at e';cases e'
 rw[d]at d'
 injection d' with d1 _
 have:aq=its':=by simpa using congrArg Array.toList d1
 subst this
 exact r.inj r'
end
noncomputable abbrev Cx.nU(X:Cx)(E:Value→Shared→Prop):Cx:={X with xe:=E}
noncomputable abbrev Cx.uB(X:Cx):Cx:=X.nU fun _ _=>False
theorem Cx.Ok.nU{X:Cx}(ok:X.Ok)(E:Value→Shared→Prop):(X.nU E).Ok:=
 ⟨ok.mod,ok.kind,ok.glob,ok.blt,ok.above,ok.inj,ok.has,ok.xw,ok.hd,ok.frames,ok.zU,ok.BL,ok.bs,ok.qb,ok.sY,ok.tx,ok.jV,ok.ue,ok.gt⟩
theorem Cx.Ok.lg{X:Cx}{E:Value→Shared→Prop}(ok:(X.nU E).Ok):X.Ok:=
 ⟨ok.mod,ok.kind,ok.glob,ok.blt,ok.above,ok.inj,ok.has,ok.xw,ok.hd,ok.frames,ok.zU,ok.BL,ok.bs,ok.qb,ok.sY,ok.tx,ok.jV,ok.ue,ok.gt⟩
section
variable {X:Cx}{pins:List (Addr×Obj)}{σ:St}{H:Hp}{s:Shared}{E:Value→Shared→Prop}
theorem Inv.nU(I:Inv X pins σ H s)(E:Value→Shared→Prop):Inv (X.nU E) pins σ H s:=⟨I.ok.nU E,I.os,I.bare,I.base,I.loc,I.cell,I.free,I.h7,I.pin,I.aI,I.len⟩
theorem Inv.lg(I:Inv (X.nU E) pins σ H s):Inv X pins σ H s:=⟨I.ok.lg,I.os,I.bare,I.base,I.loc,I.cell,I.free,I.h7,I.pin,I.aI,I.len⟩
theorem SP.lg{D:Ends}{f:Flow}{s':Shared}(h:SP (X.nU E) pins D f s'):SP X pins D f s':=by
 cases f with
 |next=>obtain⟨σ',H',I,q⟩:=h;exact⟨σ',H',I.lg,q⟩
 |brk=>obtain⟨σ',H',I,q⟩:=h;exact⟨σ',H',I.lg,q⟩
 |cont=>obtain⟨σ',H',I,q⟩:=h;exact⟨σ',H',I.lg,q⟩
 |ret u=>obtain⟨v,σ',H',I,r,q⟩:=h;exact⟨v,σ',H',I.lg,r,q⟩
theorem gv.uB{st:List Stmt}{t:TS}(h:gv X.uB st t):gv X st t:=fun pins s σ H D I hw=>
 wpAny_mono (h pins s σ H D (I.nU _) hw) (fun _ _ q=>q.lg) fun _ _ z=>False.elim z
end
section
variable {X:Cx}{st:Stmt}{rest:List Stmt}{t u:TS}{e:Expr}{te:TE}{pos:Pos}
noncomputable def KQ:TS:=fun D σ H=>D.nx σ H
noncomputable def MA(t u:TS):TS:=fun D σ H=>t {D with nx:=u D} σ H
theorem Gu:gv X [] KQ:=fun _ _ σ H _ I h=>wpAny_execs_nil ⟨σ,H,I,h⟩
theorem DZ(h1:PS X st t)(h2:gv X rest u):gv X (st::rest) (MA t u):=by
 intro pins s σ H D I h
 refine wpAny_execs_cons (bU (h1 pins s σ H {D with nx:=u D} I h) fun f s1 q=>?_)
 cases f with
 |next=>
  obtain⟨σ',H',I',q⟩:=q
  exact h2 pins s1 σ' H' D I' q
 |ret v=>exact q
 |brk=>exact q
 |cont=>exact q
theorem G7(h1:PS X st t):gv X [st] t:=by
 intro pins s σ H D I h
 refine wpAny_execs_cons (bU (h1 pins s σ H D I h) fun f s1 q=>?_)
 cases f with
 |next=>exact wpAny_execs_nil q
 |ret v=>exact q
 |brk=>exact q
 |cont=>exact q
theorem Inv.quiet{pins:List (Addr×Obj)}{σ:St}{H:Hp}{s:Shared}(I:Inv X pins σ H s):interactive X.env=false:=by simp[interactive,I.ok.kind]
noncomputable def K9(te:TE):TS:=fun D σ H=>te σ H fun _ H1=>D.nx σ H1
theorem G9(he:PE X e te)(hs:swapsWith e none pos.line X.env=pure false:=by rfl):PS X (.Expr e pos) (K9 te):=by
 intro pins s σ H D I h
 exact wpAny_Expr_any (bU (he pins s σ H _ I h) fun v s1 ⟨x,H1,I1,r1,q1⟩=>⟨σ,H1,I1,q1⟩) I.quiet hs
noncomputable def MW(te:TE):TS:=fun D σ H=>te σ H D.rt
theorem HZ(he:PE X e te):PS X (.Return (some e) pos) (MW te):=by
 intro pins s σ H D I h
 exact wpAny_Return_some (bU (he pins s σ H _ I h) fun v s1 ⟨x,H1,I1,r1,q1⟩=>⟨x,σ,H1,I1,r1,q1⟩)
noncomputable def MP(c:TT)(t u:TS):TS:=fun D σ H=>c σ H fun b H1=>if b=true then t D σ H1 else u D σ H1
theorem LD{c:Expr}{a b:List Stmt}{tc:TT}(hc:PT X c tc)(ha:gv X a t)(hb:gv X b u):PS X (.If c a b pos) (MP tc t u):=by
 intro pins s σ H D I h
 refine wpAny_If (bU (hc pins s σ H _ I h) fun d s1 ⟨H1,I1,q1⟩=>?_)
 cases d with
 |true=>exact ha pins s1 σ H1 D I1 q1
 |false=>exact hb pins s1 σ H1 D I1 q1
end
noncomputable abbrev TG:=V→St→Hp→(St→Hp→Prop)→Prop
noncomputable abbrev xr:=List V→St→Hp→(St→Hp→Prop)→Prop
noncomputable def PG(X:Cx)(target:Expr)(t:TG):Prop:=
 ∀(pins:List (Addr×Obj)) (s:Shared) (σ:St) (H:Hp) (v:V) (u:Value) (Q:St→Hp→Prop),Inv X pins σ H s→RelV v u→t v σ H Q→
  wpAny (model X.prog X.w) X.A (assign target X.env u) (fun _ s'=>∃σ' H',Inv X pins σ' H' s'∧Q σ' H') X.xe s
noncomputable def ET(X:Cx)(ts:List Expr)(t:xr):Prop:=
 ∀(pins:List (Addr×Obj)) (s:Shared) (σ:St) (H:Hp) (vs:List V) (us:List Value) (Q:St→Hp→Prop),Inv X pins σ H s→Vals vs us→t vs σ H Q→
  wpAny (model X.prog X.w) X.A (assignInOrder ((assignEach ts X.env).map (·.2)) us) (fun _ s'=>∃σ' H',Inv X pins σ' H' s'∧Q σ' H') X.xe s
noncomputable abbrev Dm:=V→V→V→Hp→(Hp→Prop)→Prop
noncomputable def Jf(X:Cx)(t:Dm):Prop:=
 ∀(pins:List (Addr×Obj)) (s:Shared) (σ:St) (H:Hp) (o i v:V) (ov iv u:Value) (Q:Hp→Prop),Inv X pins σ H s→RelV o ov→RelV i iv→RelV v u→t o i v H Q→
  wpAny (model X.prog X.w) X.A (setItem ov iv u) (fun _ s'=>∃H',Inv X pins σ H' s'∧Q H') X.xe s
noncomputable abbrev EZ:=V→V→Hp→VK→Prop
noncomputable def JV(X:Cx)(op:Operator)(t:EZ):Prop:=
 ∀(pins:List (Addr×Obj)) (s:Shared) (σ:St) (H:Hp) (x y:V) (v u:Value) (Q:VK),Inv X pins σ H s→RelV x v→RelV y u→t x y H Q→
  wpAny (model X.prog X.w) X.A (inplaceOp op v u) (EP X pins σ Q) X.xe s
section
variable {X:Cx}{pos:Pos}
noncomputable def mf(i:Nat):TG:=fun v σ H Q=>Q (σ.set i (some v)) H
theorem u3{i:Nat}{x:Str}(hN:X.N.Nodup)(hi:X.N[i]?=some x)(hx:Loc X.env.scope x)(hf:X.fn x=true∨X.env.scope.names.lookup x=some .local:=by first|exact .inl rfl|exact .inr rfl|assumption):PG X (.Name x pos) (mf i):=by
 intro pins s σ H v u Q I r h
 exact wpAny_assign_Name (m6 I hN hi hx r (fun s' I'=>⟨_,H,I',h⟩) hf)
noncomputable def ID:xr:=fun vs σ H Q=>vs=[]∧Q σ H
noncomputable def Af(t:TG)(u:xr):xr:=fun vs σ H Q=>∃v r,vs=v::r∧t v σ H fun σ' H'=>u r σ' H' Q
theorem F8:ET X [] ID:=by
 intro pins s σ H vs us Q I r h
 obtain⟨e,h⟩:=h
 subst e
 cases r
 exact assignInOrder_nil ⟨σ,H,I,h⟩
theorem xl{e:Expr}{es:List Expr}{t:TG}{u:xr}(h1:PG X e t)(h2:ET X es u)
 (hs:(assignEach (e::es) X.env).map (·.2)=assign e X.env::(assignEach es X.env).map (·.2):=by rfl):ET X (e::es) (Af t u):=by
 intro pins s σ H vs us Q I r h
 obtain⟨v,vr,e1,h⟩:=h
 subst e1
 cases r with
 |cons r rr=>
  rw[hs]
  refine assignInOrder_cons (bU (h1 pins s σ H _ _ _ I r h) fun _ s1 ⟨σ1,H1,I1,q1⟩=>?_)
  exact h2 pins s1 σ1 H1 _ _ Q I1 rr q1
noncomputable def JQ(K:PySem.W.Frag)(n:Nat)(t:xr):TG:=fun v σ H Q=>∃a xs,v= .ref a∧iE K H a xs∧xs.length=n∧t xs σ H Q
theorem IS{es:List Expr}{k:Nat}{t:xr}{n:Nat}(hc:X.calm=true)(h:ET X es t)
 (hn:(assignEach es X.env).length=n:=by rfl) (hst:(assignEach es X.env).findIdx? (·.1)=none:=by rfl):PG X (.Tuple es k pos) (JQ X.K n t):=by
 intro pins s σ H v u Q I r hw
 obtain⟨a,xs,e1,hq,hl,hw⟩:=hw
 subst e1
 cases r
 obtain⟨aq,rv,ht,hz⟩:=I.tuple hq
 refine assign_Tuple_tuple (I.ok.hd hc) ht (by simp[hn,←hl,rv.length]) hst fun h' hx=>?_
 have I1:Inv X pins σ H {s with heap:=h'}:=I.kept (t':=s.toks) fun b o e=>hx b o (Nat.ne_of_lt (Heap.lt_size e)) e
 exact h pins _ σ H xs _ Q I1 (by simpa using rv) hw
noncomputable def z8(to ti:TE)(t:Dm):TG:=fun v σ H Q=>to σ H fun o H1=>ti σ H1 fun i H2=>t o i v H2 fun H3=>Q σ H3
theorem Ik{o i:Expr}{to ti:TE}{t:Dm}(ho:PE X o to)(hi:PE X i ti)(hs:Jf X t)
 (ha:∀v,assign (.Subscript o i pos) X.env v=(do
   let ov ←holding [v] (eval o X.env)
   let iv ←holding [v,ov] (eval i X.env)
   standAt pos
   holding [v,ov,iv] (setItem ov iv v)
   release [v,ov,iv] []):=by intro _;rfl):PG X (.Subscript o i pos) (z8 to ti t):=by
 intro pins s σ H v u Q I r h
 rw[ha]
 refine wpAny_bind (wpAny_holding (bU (ho pins s σ H _ I h) fun ov s1 ⟨x,H1,I1,r1,q1⟩=>?_))
 refine wpAny_bind (wpAny_holding (bU (hi pins s1 σ H1 _ I1 q1) fun iv s2 ⟨y,H2,I2,r2,q2⟩=>?_))
 refine wpAny_bind (wpAny_standAt (wpAny_bind (wpAny_holding (bU (hs pins s2 σ H2 x y v ov iv u _ I2 r1 r2 r q2) fun _ s3 ⟨H3,I3,q3⟩=>?_))))
 exact wpAny_release ⟨σ,H3,I3,q3⟩
noncomputable def nZ(te:TE)(g:TG):TS:=fun D σ H=>te σ H fun x H1=>g x σ H1 D.nx
theorem Bx{tg e:Expr}{te:TE}{g:TG}(he:PE X e te)(hg:PG X tg g)(hs:swapsWithSole [tg] e pos.line X.env=pure false:=by rfl)(hw:swappedStores [tg] e X.env=pure none:=by rfl)
 (h1:(assignEach [tg] X.env).map (·.2)=[assign tg X.env]:=by rfl):PS X (.Assign [tg] e pos) (nZ te g):=by
 intro pins s σ H D I h
 refine wpAny_Assign_stores (bU (he pins s σ H _ I h) fun v s1 ⟨x,H1,I1,r1,q1⟩=>?_) hs hw
 rw[h1]
 exact bU (hg pins s1 σ H1 x v _ I1 r1 q1) fun _ s2 q=>q
theorem HF{i:Nat}{x:Str}{e:Expr}{te:TE}{pos':Pos}(hN:X.N.Nodup)(hi:X.N[i]?=some x)(hx:Loc X.env.scope x)(he:PE X e te)(hs:swapsWith e (some (.Name x pos')) pos.line X.env=pure false:=by rfl)(hf:X.fn x=true∨X.env.scope.names.lookup x=some .local:=by first|exact .inl rfl|exact .inr rfl|assumption):
 PS X (.Assign [.Name x pos'] e pos) (nZ te (mf i)):=by
 intro pins s σ H D I h
 refine wpAny_Assign_Name (bU (he pins s σ H _ I h) fun v s1 ⟨y,H1,I1,r1,q1⟩=>?_) hs
 exact m6 I1 hN hi hx r1 (fun s2 I2=>⟨_,H1,I2,q1⟩) hf
noncomputable def JH(i j:Nat)(ta:TA):TS:=fun D σ H=>ta σ H fun vs H1=>∃v w,vs=[v,w]∧D.nx ((σ.set i (some v)).set j (some w)) H1
theorem Jw{i j:Nat}{x y:Str}{a b:Expr}{ta:TA}{px py pt:Pos}{kt k2 pt2}(hc:X.calm=true)(hN:X.N.Nodup)(hi:X.N[i]?=some x)(hj:X.N[j]?=some y)(hij:i≠j)
 (hx:X.env.scope.names.lookup x=some .local) (hy:X.env.scope.names.lookup y=some .local) (ha:PA X [a,b] ta)
 (hw:swappedStores [.Tuple [.Name x px,.Name y py] kt pt] (.Tuple [a,b] k2 pt2) X.env=pure (some [x,y]))
 (hs:swapsWithSole [.Tuple [.Name x px,.Name y py] kt pt] (.Tuple [a,b] k2 pt2) pos.line X.env=pure false:=by rfl):
 PS X (.Assign [.Tuple [.Name x px,.Name y py] kt pt] (.Tuple [a,b] k2 pt2) pos) (JH i j ta):=by
 intro pins s σ H D I h
 rw[exec_Assign_arm]
 refine wpAny_bind (wpAny_standAt ?_)
 rw[hs]
 refine wpAny_bind (wpAny_pure ?_)
 rw[if_neg (by decide)]
 refine wpAny_bind (Tuple_ (bU (ha _ pins s σ H _ I h) fun us s1 ⟨vs,H1,I1,r1,q1⟩=>?_))
 obtain⟨v,w,e1,q1⟩:=q1
 subst e1
 obtain⟨u1,u2,rfl,rv,rw'⟩:∃u1 u2,us=[u1,u2]∧RelV v u1∧RelV w u2:=by
  cases r1 with
  |cons p q=>
   cases q with
   |cons p' q'=>
    cases q'
    exact⟨_,_,rfl,p,p'⟩
 refine wpAny_newObj_type ?_ (by show 2≤sizeLine;decide)
 have I2:Inv X pins σ H1 {s1 with heap:=s1.heap.push {cls:= .type "tuple",data:= .seq [u1,u2].toArray}}:=I1.kept (t':=s1.toks) fun b o e=>Heap.get?_push_of_some _ e
 rw[hw]
 refine wpAny_bind (wpAny_pure ?_)
 show wpAny (model X.prog X.w) X.A (do rule "assign.swapped-stores";let items ←unpackItems (.ref s1.heap.objs.size) 2 none;assignInOrder [fun v=>bindName X.env y v,fun v=>bindName X.env x v] items.reverse;pure Flow.next) _ _ _
 refine wpAny_bind (wpAny_rule (wpAny_bind (unpackItems_tuple (items:= #[u1,u2]) (I.ok.hd hc) (IsTup.new s1.heap _) fun h' hx'=>?_)))
 have I3:=I2.kept (h':=h') (t':=s1.toks) fun b o e=>hx' b o (Nat.ne_of_lt (Heap.lt_size e)) e
 show wpAny _ _ (assignInOrder [fun v=>bindName X.env y v,fun v=>bindName X.env x v] [u2,u1] >>= fun _=>pure Flow.next) _ _ _
 refine wpAny_bind (assignInOrder_cons (wpAny_bindName (m6 I3 hN hj (.inl hy) rw' (fun s2 I4=>?_) (.inr hy))))
 refine assignInOrder_cons (wpAny_bindName (m6 I4 hN hi (.inl hx) rv (fun s3 I5=>assignInOrder_nil (wpAny_pure ?_)) (.inr hx)))
 rw[List.set_comm _ _ (Ne.symm hij)]at I5
 exact⟨_,H1,I5,q1⟩
noncomputable def Jz(i:Nat)(te:TE)(ti:EZ):TS:=fun D σ H=>∃x,σ[i]?=some (some x)∧te σ H fun y H1=>ti x y H1 fun z H2=>D.nx (σ.set i (some z)) H2
theorem Kj{i:Nat}{x:Str}{e:Expr}{te:TE}{op:Operator}{ti:EZ}{pos':Pos}(hN:X.N.Nodup)(hi:X.N[i]?=some x)(hx:Loc X.env.scope x)(he:PE X e te)(ho:JV X op ti)(hf:X.fn x=true∨X.env.scope.names.lookup x=some .local:=by first|exact .inl rfl|exact .inr rfl|assumption):
 PS X (.AugAssign (.Name x pos') op e pos) (Jz i te ti):=by
 intro pins s σ H D I h
 obtain⟨v,e1,h⟩:=h
 obtain⟨m,hn,hl⟩:=I.loc
 have vis:xU X.env.scope x:=by rcases hx with k|k;exact .inl k;exact .inr (.inl k)
 obtain⟨u,r,l⟩:=hl i x v hi e1 vis
 refine wpAny_AugAssign_Name ?_
 have go:wpAny (model X.prog X.w) X.A (eval e X.env) (fun w s₂=>wpAny (model X.prog X.w) X.A (inplaceOp op u w) (fun r s₃=>wpAny (model X.prog X.w) X.A (storeName X.env x r) (fun _=>SP X pins D .next) X.xe s₃) X.xe s₂) X.xe s:=by
  refine bU (he pins s σ H _ I h) fun w s1 ⟨y,H1,I1,r1,q1⟩=>?_
  refine bU (ho pins s1 σ H1 v y u w _ I1 r r1 q1) fun z s2 ⟨zv,H2,I2,r2,q2⟩=>?_
  exact m6 I2 hN hi hx r2 (fun s3 I3=>⟨_,H2,I3,q2⟩) hf
 rcases l with⟨hk,hm⟩|⟨hk,c,hc,hcell⟩
 · exact wpAny_loadName_local I.ok.kind hk hn hm go
 · rcases hk with hk|hk
   · exact wpAny_loadName_cell I.ok.kind hk hc hcell go
   · rcases hx with k|k
     · have:X.env.scope.names.lookup x=some .free:=hk
       rw[k]at this;cases this
     · have:X.env.scope.names.lookup x=some .free:=hk
       rw[k]at this;cases this
noncomputable def Kg(f:Int→Int→Int):EZ:=fun x y H Q=>∃i j,x= .int i∧y= .int j∧Q (.int (f i j)) H
theorem Kf:JV X .Add (Kg fun i j=>i+j):=by
 intro pins s σ H x y v u Q I r1 r2 h
 obtain⟨i,j,e1,e2,q⟩:=h
 subst e1;subst e2
 obtain⟨t,rfl⟩:=r1
 obtain⟨t',rfl⟩:=r2
 exact iadd_int ⟨.int _,H,I.tok _,⟨_,rfl⟩,q⟩
end
section
variable {X:Cx}{pos:Pos}
noncomputable def Cq(c:TT)(tb:TS):TS:=fun D σ H=>∃W:Nat→St→Hp→Prop,(∃m,W m σ H)∧∀m σ H,W m σ H→
 c σ H fun b H1=>if b=true then∃N:St→Hp→Prop,(∀σ' H',N σ' H'→∃m',m'<m∧W m' σ' H')∧tb {D with nx:=N,ct:=N,bk:=D.nx} σ H1 else D.nx σ H1
theorem D0{c:Expr}{body:List Stmt}{tc:TT}{tb:TS}(hp:PassesOwn (model X.prog X.w) X.A X.env X.xe)(hc:PT X c tc)(hb:gv X body tb):PS X (.While c body [] pos) (Cq tc tb):=by
 intro pins s σ H D I h
 obtain⟨W,⟨m0,w0⟩,turn⟩:=h
 refine wpAny_While (codeAny_whileLoop (fun n s'=>∃σ' H',Inv X pins σ' H' s'∧W n σ' H') ?_ m0 ⟨σ,H,I,w0⟩)
 rintro n s1 ⟨σ1,H1,I1,w1⟩
 refine wpAny_passesOwn hp (bU (hc pins s1 σ1 H1 _ I1 (turn n σ1 H1 w1)) fun b s2 ⟨H2,I2,q2⟩=>?_)
 cases b with
 |true=>
  obtain⟨N,hN,q2⟩:=q2
  rw[if_pos rfl]
  refine wpAny_passesOwn hp (bU (hb pins s2 σ1 H2 _ I2 q2) fun f s3 q3=>?_)
  cases f with
  |next=>
   obtain⟨σ3,H3,I3,n3⟩:=q3
   obtain⟨m',hm,w3⟩:=hN σ3 H3 n3
   exact⟨m',hm,σ3,H3,I3,w3⟩
  |cont=>
   obtain⟨σ3,H3,I3,n3⟩:=q3
   obtain⟨m',hm,w3⟩:=hN σ3 H3 n3
   exact⟨m',hm,σ3,H3,I3,w3⟩
  |brk=>exact q3
  |ret v=>exact q3
 |false=>
  rw[if_neg Bool.false_ne_true]
  exact wpAny_execs_nil ⟨σ1,H2,I2,q2⟩
end
structure It where
 go:Nat→Hp→Prop
 nG:Nat→Hp→V→Hp→Prop
 stop:Nat→Hp→Prop
noncomputable def kF(X:Cx)(pins:List (Addr×Obj))(H:Hp)(b:Addr):Prop:=
 H b=none∧b≠X.env.locals∧b∉X.fs∧(b∈X.ex∨X.s₀.heap.objs.size≤b)∧(∀x c,X.env.cells.lookup x=some c→c≠b)∧∀p∈X.pn++pins,p.1≠b
theorem Inv.tD{X:Cx}{pins:List (Addr×Obj)}{σ:St}{H H':Hp}{s:Shared}{b:Addr}(I:Inv X pins σ H s)(hb:s.heap.objs.size≤b)(hn:H' b=none):kF X pins H' b:=by
 refine⟨hn,Nat.ne_of_gt (Nat.lt_of_lt_of_le I.lt hb),I.Jo hb,.inr (Nat.le_trans I.sz hb),fun x c e z=>?_,fun p hp z=>?_⟩
 · obtain⟨v,q⟩:=I.cell x c e
   exact absurd (Nat.lt_of_lt_of_le q.lt (by rw[z];exact hb)) (Nat.lt_irrefl _)
 · exact absurd (Nat.lt_of_lt_of_le (Heap.lt_size (I.pin p hp).1) (by rw[z];exact hb)) (Nat.lt_irrefl _)
structure Turn(P:Program)(w:World)(K:PySem.W.Frag)(tg:Expr)(J:It)(fp:List Addr)(it:Addr)(tn:Nat→Heap→Prop):Prop where
 mem:it∈fp
 obj:∀i h,tn i h→∀b∈fp,∃o,h.get? b=some o∧∀v,o.data≠ .cell v
 keep:∀i h h',tn i h→(∀b∈fp,∀o,h.get? b=some o→h'.get? b=some o)→tn i h'
 item:∀(X:Cx),X.prog=P→X.w=w→X.K=K→X.calm=true→∀(i:Nat) (pins:List (Addr×Obj)) (s:Shared) (σ:St) (H:Hp) (E:Value→Shared→Prop),Inv X pins σ H s→(∀b∈fp,kF X pins H b)→tn i s.heap→J.go i H→
  wpAny (model P w) X.A (pyNext (.ref it)) (fun r s1=>∃u,r=some u∧
   wpAny (model P w) X.A (letOwnedTupleGo tg (.ref it) u) (fun _ s2=>∃x H',Inv X pins σ H' s2∧RelV x u∧J.nG i H x H'∧tn (i+1) s2.heap∧∀b∈fp,H' b=none) E s1) E s
 done:∀(X:Cx),X.prog=P→X.w=w→X.K=K→X.calm=true→∀(i:Nat) (pins:List (Addr×Obj)) (s:Shared) (σ:St) (H:Hp) (E:Value→Shared→Prop),Inv X pins σ H s→(∀b∈fp,kF X pins H b)→tn i s.heap→J.stop i H→
  wpAny (model P w) X.A (pyNext (.ref it)) (fun r s1=>r=none∧Inv X pins σ H s1) E s
 self:∀(A:Around) (i:Nat) (s:Shared) (Q:Value→Shared→Prop) (E:Value→Shared→Prop),tn i s.heap→Q (.ref it) s→wpAny (model P w) A (pyIter (.ref it)) Q E s
noncomputable abbrev TI:=St→Hp→(It→Hp→Prop)→Prop
noncomputable def FC(X:Cx)(pins:List (Addr×Obj))(σ:St)(tg:Expr)(R:It→Hp→Prop)(itv:Value)(s2:Shared):Prop:=
 ∃(it:Addr) (fp:List Addr) (tn:Nat→Heap→Prop) (J:It) (H':Hp),itv= .ref it∧Inv X pins σ H' s2∧Turn X.prog X.w X.K tg J fp it tn∧tn 0 s2.heap∧(∀b∈fp,kF X pins H' b)∧R J H'
noncomputable def PI(X:Cx)(tg iter:Expr)(wi:TI):Prop:=
 ∀(pins:List (Addr×Obj)) (s:Shared) (σ:St) (H:Hp) (R:It→Hp→Prop),Inv X pins σ H s→wi σ H R→
  wpAny (model X.prog X.w) X.A (eval iter X.env) (fun v s1=>wpAny (model X.prog X.w) X.A (pyIter v) (FC X pins σ tg R) X.xe s1) X.xe s
theorem wI{M:Model}{A:Around}{E:Value→Shared→Prop}{s:Shared}{tg:Expr}{it:Addr}{u:Value}{o:Obj}{n:String}{vs:Array Value}{Q:Unit→Shared→Prop}(ho:s.heap.get? it=some o)(hc:o.cls= .type n)(hd:o.data= .fields vs)
 (hn: ["enumerate","zip","dict_itemiterator","dict_reverseitemiterator","odict_iterator","itertools.zip_longest","itertools.pairwise"].contains n=false) (hQ:Q () s):wpAny M A (letOwnedTupleGo tg (.ref it) u) Q E s:=by
 unfold letOwnedTupleGo
 cases tg<;>first
  |exact wpAny_pure hQ
  |(cases u<;>first
     |exact wpAny_pure hQ
     |(refine wpAny_bind (wpAny_load ho ?_)
       rw[hc,hd]
       show wpAny M A (if(["enumerate","zip","dict_itemiterator","dict_reverseitemiterator","odict_iterator","itertools.zip_longest","itertools.pairwise"].contains n&&vs[0]?==some (rawInt _))=true then _ else _) Q E s
       rw[if_neg (by intro h;rw[hn,Bool.false_and]at h;cases h)]
       exact wpAny_pure hQ))
noncomputable def Ke(K:PySem.W.Frag)(a:Addr):It:=
 ⟨fun i H=>∃xs x,k_ K H a xs∧xs[i]?=some x,fun i H x H'=>H'=H∧∀xs,k_ K H a xs→xs[i]?=some x,fun i H=>∃xs,k_ K H a xs∧xs.length≤i⟩
noncomputable def IU(K:PySem.W.Frag)(a:Addr):It:=
 ⟨fun i H=>∃xs x,iE K H a xs∧xs[i]?=some x,fun i H x H'=>H'=H∧∀xs,iE K H a xs→xs[i]?=some x,fun i H=>∃xs,iE K H a xs∧xs.length≤i⟩
noncomputable def vP(lo:Int)(n:Nat):It:=⟨fun i _=>i<n,fun i H x H'=>H'=H∧x= .int (lo+i),fun i _=>n≤i⟩
theorem C2{P:Program}{w:World}{K:PySem.W.Frag}{tg:Expr}(a it:Addr):Turn P w K tg (Ke K a) [it] it (fun i h=>h.IsListIter it a i) where
 mem:=by simp
 obj:=fun i h st b hb=>by
  have e:b=it:=by simpa using hb
  subst e
  obtain⟨o,e,c,d⟩:=st
  exact⟨o,e,fun v z=>by rw[d]at z;cases z⟩
 keep:=fun i h h' st k=>st.at fun o e=>k it (by simp) o e
 item:=by
  intro X hP hw hK hc i pins s σ H E I hf st hg
  subst hP hw hK
  obtain⟨xs,x,hq,hx⟩:=hg
  obtain⟨aq,rv,p,hz⟩:=I.list hq
  obtain⟨u,hu,ru⟩:=rv.get hx
  obtain⟨f0,f1,f2,f3,f4,f5⟩:=hf it (by simp)
  refine wpAny_pyNext_list_item st p.isList (x:=u) (by simpa using hu) fun h' st' sb=>?_
  have I1:Inv X pins σ H {s with heap:=h'}:=I.turned (t':=s.toks) (fun b o hb e=>(sb.2 b hb).trans e) f0 f1 f3 f4 f5
  obtain⟨o,e,c,d⟩:=id st'
  exact⟨u,rfl,wI (s:={s with heap:=h'}) e c d (by decide) ⟨x,H,I1,ru,⟨rfl,fun ys hy=>by rw[I.x8 hy hq];exact hx⟩,st',fun b hb=>(hf b hb).1⟩⟩
 done:=by
  intro X hP hw hK hc i pins s σ H E I hf st hg
  subst hP hw hK
  obtain⟨xs,hq,hx⟩:=hg
  obtain⟨aq,rv,p,hz⟩:=I.list hq
  obtain⟨f0,f1,f2,f3,f4,f5⟩:=hf it (by simp)
  have hl:=rv.length
  exact wpAny_pyNext_list_end (I.ok.hd hc) st p.isList (by simp;omega) fun h' eb=>⟨rfl,I.turned (t':=s.toks) (fun b o hb e=>eb b o hb e) f0 f1 f3 f4 f5⟩
 self:=fun _ _ _ _ _ st h=>wpAny_pyIter_listiter st h
theorem Ae{P:Program}{w:World}{K:PySem.W.Frag}{tg:Expr}(a it:Addr):Turn P w K tg (IU K a) [it] it (fun i h=>h.IsTupleIter it a i) where
 mem:=by simp
 obj:=fun i h st b hb=>by
  have e:b=it:=by simpa using hb
  subst e
  obtain⟨o,e,c,d⟩:=st
  exact⟨o,e,fun v z=>by rw[d]at z;cases z⟩
 keep:=fun i h h' st k=>st.at fun o e=>k it (by simp) o e
 item:=by
  intro X hP hw hK hc i pins s σ H E I hf st hg
  subst hP hw hK
  obtain⟨xs,x,hq,hx⟩:=hg
  obtain⟨aq,rv,p,hz⟩:=I.tuple hq
  obtain⟨u,hu,ru⟩:=rv.get hx
  obtain⟨f0,f1,f2,f3,f4,f5⟩:=hf it (by simp)
  refine wpAny_pyNext_tuple_item st (show s.heap.IsTuple a aq.toArray from p) (x:=u) (by simpa using hu) fun h' st' sb=>?_
  have I1:Inv X pins σ H {s with heap:=h'}:=I.turned (t':=s.toks) (fun b o hb e=>(sb.2 b hb).trans e) f0 f1 f3 f4 f5
  obtain⟨o,e,c,d⟩:=id st'
  exact⟨u,rfl,wI (s:={s with heap:=h'}) e c d (by decide) ⟨x,H,I1,ru,⟨rfl,fun ys hy=>by rw[I.vq hy hq];exact hx⟩,st',fun b hb=>(hf b hb).1⟩⟩
 done:=by
  intro X hP hw hK hc i pins s σ H E I hf st hg
  subst hP hw hK
  obtain⟨xs,hq,hx⟩:=hg
  obtain⟨aq,rv,p,hz⟩:=I.tuple hq
  obtain⟨f0,f1,f2,f3,f4,f5⟩:=hf it (by simp)
  have hl:=rv.length
  exact wpAny_pyNext_tuple_end (I.ok.hd hc) st (show s.heap.IsTuple a aq.toArray from p) (by simp;omega) fun h' eb=>⟨rfl,I.turned (t':=s.toks) (fun b o hb e=>eb b o hb e) f0 f1 f3 f4 f5⟩
 self:=fun _ _ _ _ _ st h=>wpAny_pyIter_tupleiter st h
theorem AR{P:Program}{w:World}{K:PySem.W.Frag}{tg:Expr}(it:Addr)(lo:Int)(n:Nat):Turn P w K tg (vP lo n) [it] it (fun i h=>IsRangeIter h it (lo+(i:Nat)*1) ((n:Int)-(i:Nat)) 1) where
 mem:=by simp
 obj:=fun i h st b hb=>by
  have e:b=it:=by simpa using hb
  subst e
  exact⟨_,st,fun v z=>by
   have z':Data.fields _=Data.cell v:=z
   cases z'⟩
 keep:=fun i h h' st k=>k it (by simp) _ st
 item:=by
  intro X hP hw hK hc i pins s σ H E I hf st hg
  subst hP hw hK
  obtain⟨f0,f1,f2,f3,f4,f5⟩:=hf it (by simp)
  have W:=Walks.range (prog:=X.prog) (w:=X.w) (I.ok.hd hc) it lo 1 n
  refine W.item i s _ _ hg st fun v h' tk hv st' kk=>?_
  obtain⟨t,rfl⟩:=hv
  have I1:Inv X pins σ H {s with heap:=h',toks:=tk}:=I.turned (fun b o hb e=>kk b o (by simpa using hb) e) f0 f1 f3 f4 f5
  refine⟨_,rfl,wI (s:={s with heap:=h',toks:=tk}) (n:="range_iterator") st' rfl rfl (by decide) ⟨.int (lo+i),H,I1,⟨t,?_⟩,⟨rfl,rfl⟩,st',fun b hb=>(hf b hb).1⟩⟩
  rw[Int.mul_one]
 done:=by
  intro X hP hw hK hc i pins s σ H E I hf st hg
  subst hP hw hK
  obtain⟨f0,f1,f2,f3,f4,f5⟩:=hf it (by simp)
  exact wpAny_pyNext_range_end (I.ok.hd hc) st (by have:n≤i:=hg;omega) fun h' eb=>⟨rfl,I.turned (t':=s.toks) (fun b o hb e=>eb b o hb e) f0 f1 f3 f4 f5⟩
 self:=fun _ _ _ _ _ st h=>wpAny_pyIter_rangeiter st h
end L2
namespace L2
open PySem PySem.Spec PyProof.Rows
section
variable {X:Cx}{tg:Expr}
theorem ya{pins:List (Addr×Obj)}{σ:St}{H:Hp}{s:Shared}{R:It→Hp→Prop}{E:Value→Shared→Prop}{lo hi:Int}{t u v:Tok}{tk:Nat}(I:Inv X pins σ H s)(h1: -(2^62)≤lo)(h2:lo<2^62)(h3: -(2^62)≤hi)(h4:hi<2^62)
 (q:R (vP lo (hi-lo).toNat) H):wpAny (model X.prog X.w) X.A (pyIter (.ref s.heap.objs.size)) (FC X pins σ tg R) E {s with heap:=s.heap.push {cls:= .type "range",data:= .fields #[.int lo t,.int hi u,.int 1 v]},toks:=tk}:=by
 refine wpAny_pyIter_range (IsRange.new ..) (small_one h1 h2 h3 h4) ?_
 have I1:Inv X pins σ H {s with heap:=s.heap.push {cls:= .type "range",data:= .fields #[.int lo t,.int hi u,.int 1 v]},toks:=tk}:=I.kept fun b o e=>Heap.get?_push_of_some _ e
 refine⟨(s.heap.push {cls:= .type "range",data:= .fields #[.int lo t,.int hi u,.int 1 v]}).objs.size,[(s.heap.push {cls:= .type "range",data:= .fields #[.int lo t,.int hi u,.int 1 v]}).objs.size],_,_,H,rfl,
  I1.kept (t':=tk) fun b o e=>Heap.get?_push_of_some _ e,AR _ lo (hi-lo).toNat,?_,fun b hb=>?_,q⟩
 · have e1:lo+((0:Nat):Int)*1=lo:=by simp
   have e2:(((hi-lo).toNat:Nat):Int)-((0:Nat):Int)=Builtin.Range.rangeSize lo hi 1:=by rw[rangeSize_one];split<;>omega
   show IsRangeIter _ _ (lo+((0:Nat):Int)*1) ((((hi-lo).toNat:Nat):Int)-((0:Nat):Int)) 1
   rw[e1,e2]
   exact Heap.get?_push_size _ rfl
 · have e:b=(s.heap.push {cls:= .type "range",data:= .fields #[.int lo t,.int hi u,.int 1 v]}).objs.size:=by simpa using hb
   subst e
   exact I1.tD (Nat.le_refl _) (I1.aI.fresh (Nat.le_refl _))
noncomputable def z_(ta:TA):TI:=fun σ H R=>ta σ H fun vs H1=>∃j:Int,vs=[.int j]∧ -(2^62)≤j∧j<2^62∧R (vP 0 j.toNat) H1
noncomputable def A_(ta:TA):TI:=fun σ H R=>ta σ H fun vs H1=>∃i j:Int,vs=[.int i,.int j]∧(-(2^62)≤i∧i<2^62∧ -(2^62)≤j∧j<2^62)∧R (vP i (j-i).toNat) H1
theorem Cp{a:Expr}{ta:TA}{p pos:Pos}(hg:Gl X "range")(hm:X.mg "range"=none)(ha:PA X [a] ta)(hs:starEach [a] X.env=[(false,eval a X.env)]:=by rfl):PI X tg (.Call (.Name "range" p) [a] [] pos) (z_ ta):=by
 intro pins s σ H R I h
 refine Call_ (ka I hg hm boot_range (PyProof.Rows.callWith_type1 (bU (ha pos pins s σ H _ I h) fun us s1 ⟨vs,H1,I1,r1,q1⟩=>?_) hs rfl))
 obtain⟨j,e,q1,q2,q⟩:=q1
 subst e
 cases r1 with
 |cons r rr=>
  cases rr
  obtain⟨t,rfl⟩:=r
  exact call_range_1 (ya I1 (by omega) (by omega) q1 q2 (by simpa using q))
theorem CH{a b:Expr}{ta:TA}{p pos:Pos}(hg:Gl X "range")(hm:X.mg "range"=none)(ha:PA X [a,b] ta)(hs:starEach [a,b] X.env=[(false,eval a X.env),(false,eval b X.env)]:=by rfl)(hs2:starEach [b] X.env=[(false,eval b X.env)]:=by rfl):
 PI X tg (.Call (.Name "range" p) [a,b] [] pos) (A_ ta):=by
 intro pins s σ H R I h
 refine Call_ (ka I hg hm boot_range (PyProof.Rows.callWith_type1 (bU (ha pos pins s σ H _ I h) fun us s1 ⟨vs,H1,I1,r1,q1⟩=>?_) (by rw[hs,hs2]) (by rw[hs2];rfl)))
 obtain⟨i,j,e,⟨q1,q2,q3,q4⟩,q⟩:=q1
 subst e
 cases r1 with
 |cons r rr=>
  cases rr with
  |cons r' rr=>
   cases rr
   obtain⟨t,rfl⟩:=r
   obtain⟨t',rfl⟩:=r'
   exact call_range_2 (ya I1 q1 q2 q3 q4 q)
noncomputable def IZ(wi:TI)(g:TG)(tb:TS):TS:=fun D σ H=>wi σ H fun J H1=>∃W:Nat→Nat→St→Hp→Prop,(∃m,W 0 m σ H1)∧∀i m σ H,W i m σ H→
 (J.stop i H∧D.nx σ H)∨(J.go i H∧∃N:St→Hp→Prop,(∀σ' H',N σ' H'→∃m',m'<m∧W (i+1) m' σ' H')∧∀x H',J.nG i H x H'→g x σ H' fun σ2 H2=>tb {D with nx:=N,ct:=N,bk:=D.nx} σ2 H2)
noncomputable def qX(fp:List Addr)(h:Heap):List (Addr×Obj):=fp.filterMap fun b=>(h.get? b).map fun o=>(b,o)
theorem mi{fp:List Addr}{h:Heap}{b:Addr}{o:Obj}(hb:b∈fp)(e:h.get? b=some o):(b,o)∈qX fp h:=List.mem_filterMap.mpr ⟨b,hb,by rw[e];rfl⟩
theorem CT{fp:List Addr}{h:Heap}{p:Addr×Obj}(hp:p∈qX fp h):p.1∈fp∧h.get? p.1=some p.2:=by
 obtain⟨b,hb,e⟩:=List.mem_filterMap.mp hp
 cases q:h.get? b with
 |none=>rw[q]at e;cases e
 |some o=>
  rw[q]at e
  have e':(b,o)=p:=Option.some.inj e
  subst e'
  exact⟨hb,q⟩
theorem Inv.pinned{pins:List (Addr×Obj)}{σ:St}{H:Hp}{s:Shared}{fp:List Addr}(I:Inv X pins σ H s)(hf:∀b∈fp,kF X pins H b)(ho:∀b∈fp,∃o,s.heap.get? b=some o∧∀v,o.data≠ .cell v):Inv X (pins++qX fp s.heap) σ H s:=
 I.q_ fun p hp=>(List.mem_append.mp hp).elim (fun z=>I.pin p (List.mem_append_right _ z)) fun z=>by
  obtain⟨hb,e⟩:=CT z
  obtain⟨f0,f1,f2,_⟩:=hf p.1 hb
  obtain⟨o,e',d⟩:=ho p.1 hb
  rw[e]at e';cases e'
  exact⟨e,f0,f1,f2,d⟩
theorem Inv.gH{pins pl:List (Addr×Obj)}{σ:St}{H:Hp}{s:Shared}(I:Inv X (pins++pl) σ H s):Inv X pins σ H s:=I.q_ fun p hp=>I.pin p (List.mem_append_right _ (List.mem_append_left _ hp))
theorem IT{iter:Expr}{body:List Stmt}{wi:TI}{g:TG}{tb:TS}{pos:Pos}(hp:PassesOwn (model X.prog X.w) X.A X.env X.xe)(hc:X.calm=true)(hi:PI X tg iter wi)(hg:PG X tg g)(hb:gv X body tb)
 (hs:∀x,foldedSetIterable iter X.env x=pure x:=by intro _;rfl):PS X (.For tg iter body [] pos) (IZ wi g tb):=by
 intro pins s σ H D I h
 refine wpAny_For (bU (hi pins s σ H _ I h) fun v s1 h1=>bU h1 fun itv s2 h2=>?_) hs
 obtain⟨it,fp,tn,J,H2,e,I2,T,st2,f2,W,⟨m0,w0⟩,turn⟩:=h2
 subst e
 have stat:∀ {H':Hp},(∀b∈fp,H' b=none)→∀b∈fp,kF X pins H' b:=fun hn b hb=>⟨hn b hb,(f2 b hb).2⟩
 refine codeAny_forLoop_any (fun n s'=>∃i σ' H',Inv X pins σ' H' s'∧tn i s'.heap∧(∀b∈fp,H' b=none)∧W i n σ' H') ?_ m0 ⟨0,σ,H2,I2,st2,fun b hb=>(f2 b hb).1,w0⟩
 rintro n s3 ⟨i,σ3,H3,I3,st3,fr3,w3⟩
 rcases turn i n σ3 H3 w3 with⟨stop,qn⟩|⟨go,N,hN,step⟩
 · refine wpAny_passesOwn hp (bU (T.done X rfl rfl rfl hc i pins s3 σ3 H3 X.xe I3 (stat fr3) st3 stop) fun r s4 ⟨hr,I4⟩=>?_)
   subst hr
   exact wpAny_execs_nil ⟨σ3,H3,I4,qn⟩
 · refine wpAny_passesOwn hp (bU (T.item X rfl rfl rfl hc i pins s3 σ3 H3 X.xe I3 (stat fr3) st3 go) fun r s4 ⟨u,hr,h4⟩=>?_)
   subst hr
   refine wpAny_passesOwn hp (bU h4 fun _ s5 ⟨x,H5,I5,r5,y5,st5,fr5⟩=>?_)
   have I5':=I5.pinned (stat fr5) (T.obj _ _ st5)
   refine wpAny_passesOwn hp (bU (hg _ s5 σ3 H5 x u _ I5' r5 (step x H5 y5)) fun _ s6 ⟨σ6,H6,I6,q6⟩=>?_)
   refine wpAny_passesOwn hp (bU (hb _ s6 σ6 H6 _ I6 q6) fun f s7 q7=>?_)
   have again:∀ {σ7:St} {H7:Hp},Inv X (pins++qX fp s5.heap) σ7 H7 s7→N σ7 H7→∃m,m<n∧∃i σ' H',Inv X pins σ' H' s7∧tn i s7.heap∧(∀b∈fp,H' b=none)∧W i m σ' H':=fun{σ7 H7} I7 n7=>by
    obtain⟨m',hm,w7⟩:=hN σ7 H7 n7
    refine⟨m',hm,i+1,σ7,H7,I7.gH,T.keep _ _ _ st5 fun b hb o e=>(I7.pin (b,o) (List.mem_append_right _ (List.mem_append_right _ (mi hb e)))).1,fun b hb=>?_,w7⟩
    obtain⟨o,e,d⟩:=T.obj _ _ st5 b hb
    exact(I7.pin (b,o) (List.mem_append_right _ (List.mem_append_right _ (mi hb e)))).2.1
   cases f with
   |next=>obtain⟨σ7,H7,I7,n7⟩:=q7;exact again I7 n7
   |cont=>obtain⟨σ7,H7,I7,n7⟩:=q7;exact again I7 n7
   |brk=>obtain⟨σ7,H7,I7,q7⟩:=q7;exact⟨σ7,H7,I7.gH,q7⟩
   |ret v=>obtain⟨x7,σ7,H7,I7,r7,q7⟩:=q7;exact⟨x7,σ7,H7,I7.gH,r7,q7⟩
end
theorem nJ{lo:Int}{n:Nat}{g:TG}{tb:TS}{D:Ends}{σ:St}{H:Hp}(Pv:Nat→St→Hp→Prop)(h0:Pv 0 σ H)
 (hs:∀i σ H,i<n→Pv i σ H→g (.int (lo+i)) σ H fun σ2 H2=>tb {D with nx:=Pv (i+1),ct:=Pv (i+1),bk:=D.nx} σ2 H2) (hd:∀σ H,Pv n σ H→D.nx σ H):
 ∃W:Nat→Nat→St→Hp→Prop,(∃m,W 0 m σ H)∧∀i m σ H,W i m σ H→
  ((vP lo n).stop i H∧D.nx σ H)∨((vP lo n).go i H∧∃N:St→Hp→Prop,(∀σ' H',N σ' H'→∃m',m'<m∧W (i+1) m' σ' H')∧∀x H',(vP lo n).nG i H x H'→g x σ H' fun σ2 H2=>tb {D with nx:=N,ct:=N,bk:=D.nx} σ2 H2):=by
 refine⟨fun i m σ H=>m=n-i∧i≤n∧Pv i σ H,⟨n,by simp,Nat.zero_le _,h0⟩,?_⟩
 rintro i m σ H ⟨rfl,hi,p⟩
 by_cases hlt:i<n
 · refine .inr ⟨hlt,Pv (i+1),fun σ' H' p'=>⟨n-(i+1),by omega,rfl,hlt,p'⟩,fun x H' y=>?_⟩
   obtain⟨e,y⟩:=y
   subst e y
   exact hs i σ _ hlt p
 · have e:i=n:=by omega
   subst e
   exact .inl ⟨Nat.le_refl _,hd σ H p⟩
end L2
namespace L2
open PySem PySem.Spec PyProof.Rows
noncomputable abbrev R2:=V→V→Hp→VK→Prop
noncomputable def cm(X:Cx)(f:Value→Value→Sem Value)(r:R2):Prop:=
 ∀(pins:List (Addr×Obj)) (s:Shared) (σ:St) (H:Hp) (x y:V) (v u:Value) (Q:VK),Inv X pins σ H s→RelV x v→RelV y u→r x y H Q→
  wpAny (model X.prog X.w) X.A (f v u) (EP X pins σ Q) X.xe s
noncomputable def zQ(X:Cx)(f:Value→Sem Value)(r:V→Hp→VK→Prop):Prop:=
 ∀(pins:List (Addr×Obj)) (s:Shared) (σ:St) (H:Hp) (x:V) (v:Value) (Q:VK),Inv X pins σ H s→RelV x v→r x H Q→
  wpAny (model X.prog X.w) X.A (f v) (EP X pins σ Q) X.xe s
noncomputable def bY(X:Cx)(f:Value)(r:List V→Hp→VK→Prop):Prop:=
 ∀(pins:List (Addr×Obj)) (s:Shared) (σ:St) (H:Hp) (xs:List V) (us:List Value) (Q:VK),Inv X pins σ H s→Vals xs us→r xs H Q→
  wpAny (model X.prog X.w) X.A (call f us) (EP X pins σ Q) X.xe s
noncomputable def Bc(r:R2)(ta tb:TE):TE:=fun σ H Q=>ta σ H fun x H1=>tb σ H1 fun y H2=>r x y H2 Q
noncomputable def Mc(r:V→Hp→VK→Prop)(ta:TE):TE:=fun σ H Q=>ta σ H fun x H1=>r x H1 Q
noncomputable def rI(C:Int→Int→Prop)(g:Int→Int→V):R2:=fun x y H Q=>∃i j,x= .int i∧y= .int j∧C i j∧Q (g i j) H
noncomputable def wQ(g:Int→Int→V):R2:=fun x y H Q=>∃i j,x= .int i∧y= .int j∧Q (g i j) H
noncomputable def rU(g:Int→V):V→Hp→VK→Prop:=fun x H Q=>∃i,x= .int i∧Q (g i) H
section
variable {X:Cx}{a b c:Expr}{ta tb tc:TE}{pos:Pos}
theorem DC(ha:PE X a ta)(hb:PE X b tb){pins:List (Addr×Obj)}{s:Shared}{σ:St}{H:Hp}{R:V→V→Hp→Prop}(I:Inv X pins σ H s)
 (h:ta σ H fun x H1=>tb σ H1 fun y H2=>R x y H2) {Q:Value→Shared→Prop} {f:Value→Value→Sem Value}
 (hf:∀v u s2 x y H2,Inv X pins σ H2 s2→RelV x v→RelV y u→R x y H2→wpAny (model X.prog X.w) X.A (f v u) Q X.xe s2):
 wpAny (model X.prog X.w) X.A (eval a X.env) (fun v s₁=>wpAny (model X.prog X.w) X.A (eval b X.env) (fun u s₂=>wpAny (model X.prog X.w) X.A (f v u) Q X.xe s₂) X.xe s₁) X.xe s:=by
 refine bU (ha pins s σ H _ I h) fun v s1 ⟨x,H1,I1,r1,q1⟩=>?_
 refine bU (hb pins s1 σ H1 _ I1 q1) fun u s2 ⟨y,H2,I2,r2,q2⟩=>?_
 exact hf v u s2 x y H2 I2 r1 r2 q2
theorem K5{op:Operator}{r:R2}(ho:cm X (binaryOp op) r)(ha:PE X a ta)(hb:PE X b tb):PE X (.BinOp a op b pos) (Bc r ta tb):=by
 intro pins s σ H Q I h
 exact wpAny_BinOp (DC ha hb I h fun v u s2 x y H2 I2 rx ry q=>ho pins s2 σ H2 x y v u Q I2 rx ry q)
theorem Ly{op:UnaryOp}{r:V→Hp→VK→Prop}(ho:zQ X (unaryOp op) r)(ha:PE X a ta):PE X (.UnaryOp op a pos) (Mc r ta):=by
 intro pins s σ H Q I h
 exact UnaryOp_ (bU (ha pins s σ H _ I h) fun v s1 ⟨x,H1,I1,r1,q1⟩=>ho pins s1 σ H1 x v Q I1 r1 q1)
theorem E8{f:Value→Value→Sem Value}{C:Int→Int→Prop}{g:Int→Int→Int}
 (rule:∀(i j:Int) (t u:Tok) (s:Shared) (Q:Value→Shared→Prop) (E:Value→Shared→Prop),C i j→Q (.int (g i j) s.toks) {s with toks:=s.toks+1}→wpAny (model X.prog X.w) X.A (f (.int i t) (.int j u)) Q E s):
 cm X f (rI C fun i j=> .int (g i j)):=by
 intro pins s σ H x y v u Q I rx ry h
 obtain⟨i,j,rfl,rfl,hc,q⟩:=h
 obtain⟨t,rfl⟩:=rx
 obtain⟨t',rfl⟩:=ry
 exact rule i j t t' s _ _ hc ⟨.int (g i j),H,I.tok _,⟨_,rfl⟩,q⟩
theorem Kd{f:Value→Value→Sem Value}{g:Int→Int→Int}
 (rule:∀(i j:Int) (t u:Tok) (s:Shared) (Q:Value→Shared→Prop) (E:Value→Shared→Prop),Q (.int (g i j) s.toks) {s with toks:=s.toks+1}→wpAny (model X.prog X.w) X.A (f (.int i t) (.int j u)) Q E s):
 cm X f (wQ fun i j=> .int (g i j)):=by
 intro pins s σ H x y v u Q I rx ry h
 obtain⟨i,j,rfl,rfl,q⟩:=h
 obtain⟨t,rfl⟩:=rx
 obtain⟨t',rfl⟩:=ry
 exact rule i j t t' s _ _ ⟨.int (g i j),H,I.tok _,⟨_,rfl⟩,q⟩
theorem JF{f:Value→Value→Sem Value}{g:Int→Int→Bool}
 (rule:∀(i j:Int) (t u:Tok) (s:Shared) (Q:Value→Shared→Prop) (E:Value→Shared→Prop),Q (.bool (g i j)) s→wpAny (model X.prog X.w) X.A (f (.int i t) (.int j u)) Q E s):
 cm X f (wQ fun i j=> .bl (g i j)):=by
 intro pins s σ H x y v u Q I rx ry h
 obtain⟨i,j,rfl,rfl,q⟩:=h
 obtain⟨t,rfl⟩:=rx
 obtain⟨t',rfl⟩:=ry
 exact rule i j t t' s _ _ ⟨.bl (g i j),H,I,rfl,q⟩
noncomputable def Eo(i j:Int):Prop:=0≤j∧j≤1000000∧i.natAbs<2^64
theorem JZ:cm X (binaryOp .Add) (wQ fun i j=> .int (i+j)):=Kd fun _ _ _ _ _ _ _ q=>add_int q
theorem IC:cm X (binaryOp .Sub) (wQ fun i j=> .int (i-j)):=Kd fun _ _ _ _ _ _ _ q=>sub_int q
theorem FQ:cm X (binaryOp .Mod) (rI (fun _ j=>j≠0) fun i j=> .int (i.fmod j)):=E8 fun _ _ _ _ _ _ _ hc q=>mod_int' hc q
theorem Jd:cm X (binaryOp .Pow) (rI Eo fun i j=> .int (i^j.toNat)):=E8 fun _ _ _ _ _ _ _ hc q=>pow_int_small hc.1 hc.2.1 hc.2.2 q
theorem ND{f:Value→Sem Value}{g:Int→Int}
 (rule:∀(i:Int) (t:Tok) (s:Shared) (Q:Value→Shared→Prop) (E:Value→Shared→Prop),Q (.int (g i) s.toks) {s with toks:=s.toks+1}→wpAny (model X.prog X.w) X.A (f (.int i t)) Q E s):
 zQ X f (rU fun i=> .int (g i)):=by
 intro pins s σ H x v Q I rx h
 obtain⟨i,rfl,q⟩:=h
 obtain⟨t,rfl⟩:=rx
 exact rule i t s _ _ ⟨.int (g i),H,I.tok _,⟨_,rfl⟩,q⟩
theorem Ji:zQ X (unaryOp .USub) (rU fun i=> .int (-i)):=ND fun _ _ _ _ _ q=>neg_int q
end
noncomputable def M8:V→V→Bool
 | .aG,.aG=>true| .aG,.int _=>true| .int _,.aG=>true| .aG,.bl _=>true| .bl _,.aG=>true| .aG,.str _=>true| .str _,.aG=>true
 | .int _,.int _=>true| .bl _,.bl _=>true| .str _,.str _=>true| .sG _,.sG _=>true
 | .int _,.str _=>true| .str _,.int _=>true| .bl _,.str _=>true| .str _,.bl _=>true
 |_,_=>false
noncomputable def Nm:R2:=fun x y H Q=>M8 x y=true∧Q (.bl (!decide (x=y))) H
theorem Gf{i j:Int}:decide (V.int i=V.int j)=(i==j):=by
 rw[Bool.eq_iff_iff]
 simp
theorem Km{i j:Bool}:decide (V.bl i=V.bl j)=(i==j):=by
 rw[Bool.eq_iff_iff]
 simp
theorem Ga{i j:Str}:decide (V.str i=V.str j)=(i==j):=by
 rw[Bool.eq_iff_iff]
 simp
theorem F_{i j:Array UInt8}:decide (V.sG i=V.sG j)=(i.toList==j.toList):=by
 rw[Bool.eq_iff_iff]
 cases i
 cases j
 simp
section
variable {X:Cx}{a b c:Expr}{ta tb tc:TE}{pos:Pos}
theorem fh{pins:List (Addr×Obj)}{σ:St}{H:Hp}{s:Shared}{Q:VK}{k k':Bool}(I:Inv X pins σ H s)(q:Q (.bl k) H)(e:k=k'):EP X pins σ Q (.bool k') s:=by
 subst e
 exact⟨.bl k,H,I,rfl,q⟩
theorem K3:cm X (compareOp .NotEq) Nm:=by
 intro pins s σ H x y v u Q I rx ry h
 obtain⟨hs,q⟩:=h
 cases x with
 |aG=>
  cases rx
  cases y with
  |aG=>cases ry;exact PySem.EqNone.ne_none_none (fh I q (by simp))
  |bl j=>cases ry;exact PySem.EqNone.ne_none_bool (fh I q (by simp))
  |int j=>obtain⟨t',rfl⟩:=ry;exact PySem.EqNone.ne_none_int (fh I q (by simp))
  |str j=>obtain⟨t',rfl⟩:=ry;exact PySem.EqNone.ne_none_str (fh I q (by simp))
  |_=>exact absurd (show false=true from hs) Bool.false_ne_true
 |bl i=>
  cases rx
  cases y with
  |aG=>cases ry;exact PySem.EqNone.ne_bool_none (fh I q (by simp))
  |bl j=>cases ry;exact ne_bool (fh I q (congrArg not Km))
  |str j=>obtain⟨t',rfl⟩:=ry;exact PySem.EqMixed.ne_bool_str (fh I q (by simp))
  |_=>exact absurd (show false=true from hs) Bool.false_ne_true
 |int i=>
  obtain⟨t,rfl⟩:=rx
  cases y with
  |aG=>cases ry;exact PySem.EqNone.ne_int_none (fh I q (by simp))
  |int j=>obtain⟨t',rfl⟩:=ry;exact ne_int (fh I q (congrArg not Gf))
  |str j=>obtain⟨t',rfl⟩:=ry;exact PySem.EqMixed.ne_int_str (fh I q (by simp))
  |_=>exact absurd (show false=true from hs) Bool.false_ne_true
 |str i=>
  obtain⟨t,rfl⟩:=rx
  cases y with
  |aG=>cases ry;exact PySem.EqNone.ne_str_none (fh I q (by simp))
  |bl j=>cases ry;exact PySem.EqMixed.ne_str_bool (fh I q (by simp))
  |int j=>obtain⟨t',rfl⟩:=ry;exact PySem.EqMixed.ne_str_int (fh I q (by simp))
  |str j=>obtain⟨t',rfl⟩:=ry;exact ne_str (fh I q (congrArg not Ga))
  |_=>exact absurd (show false=true from hs) Bool.false_ne_true
 |sG i=>
  obtain⟨t,rfl⟩:=rx
  cases y with
  |sG j=>obtain⟨t',rfl⟩:=ry;exact PySem.W.ne_bytes (fh I q (congrArg not F_))
  |_=>exact absurd (show false=true from hs) Bool.false_ne_true
 |_=>cases y<;>exact absurd (show false=true from hs) Bool.false_ne_true
theorem LF:cm X (compareOp .Lt) (wQ fun i j=> .bl (decide (i<j))):=JF fun _ _ _ _ _ _ _ q=>lt_int q
theorem Lh:cm X (compareOp .Gt) (wQ fun i j=> .bl (decide (j<i))):=JF fun _ _ _ _ _ _ _ q=>gt_int q
theorem FJ:cm X (compareOp .IsNot) (fun x y H Q=>y= .aG∧Q (.bl (!decide (x= .aG))) H):=by
 intro pins s σ H x y v u Q I rx ry h
 obtain⟨rfl,q⟩:=h
 cases ry
 refine isnot_none_gen (fh I q ?_)
 cases x<;>first
  |(cases rx;rfl)
  |(obtain⟨t,rfl⟩:=rx;rfl)
theorem bc(b:Expr){op:CmpOp}(h:op≠ .In:=by decide)(h2:op≠ .NotIn:=by decide):behindInMarks op b=false:=by
 have e1:(op==CmpOp.In)=false:=by cases op<;>first|rfl|exact absurd rfl h
 have e2:(op==CmpOp.NotIn)=false:=by cases op<;>first|rfl|exact absurd rfl h2
 cases b<;>simp[behindInMarks,e1,e2]
theorem FL{op:CmpOp}{r:R2}(ho:cm X (compareOp op) r)(ha:PE X a ta)(hb:PE X b tb)(hm:behindInMarks op b=false):PE X (.Compare a [op] [b] pos) (Bc r ta tb):=by
 intro pins s σ H Q I h
 exact wpAny_Compare1 (DC ha hb I h fun v u s2 x y H2 I2 rx ry q=>ho pins s2 σ H2 x y v u Q I2 rx ry q) hm
noncomputable def Lj(t:TE):TT:=fun σ H Q=>t σ H fun x H'=>∃k,x= .bl k∧Q k H'
theorem F7{op:CmpOp}{r:R2}(ho:cm X (compareOp op) r)(ha:PE X a ta)(hb:PE X b tb)(hm:behindInMarks op b=false):PT X (.Compare a [op] [b] pos) (Lj (Bc r ta tb)):=by
 intro pins s σ H Q I h
 refine wpAny_isTrue_Compare1 (bU (ha pins s σ H _ I h) fun v s1 ⟨x,H1,I1,r1,q1⟩=>bU (hb pins s1 σ H1 _ I1 q1) fun u s2 ⟨y,H2,I2,r2,q2⟩=>
  bU (ho pins s2 σ H2 x y v u _ I2 r1 r2 q2) fun c s3 ⟨z,H3,I3,r3,k,e,q3⟩=>?_) hm
 subst e
 cases r3
 exact wpAny_truthy_bool ⟨H3,I3,q3⟩
theorem qd:(sizeLine:Nat)<2^63:=by rw[sizeLine_eq];decide
theorem AH:cm X (binaryOp .Add) (fun x y H Q=>∃i j,x= .str i∧y= .str j∧i.length+j.length≤sizeLine∧Q (.str (i++j)) H):=by
 intro pins s σ H x y v u Q I rx ry h
 obtain⟨i,j,rfl,rfl,hz,q⟩:=h
 obtain⟨t,rfl⟩:=rx
 obtain⟨t',rfl⟩:=ry
 exact add_str (fun t' tk=>⟨.str (i++j),H,I.tok _,⟨_,rfl⟩,q⟩) hz
theorem vals1{x:V}{us:List Value}(r:Vals [x] us):∃u,us=[u]∧RelV x u:=by
 cases r with
 |cons r1 r2=>cases r2;exact⟨_,rfl,r1⟩
theorem vals2{x y:V}{us:List Value}(r:Vals [x,y] us):∃u w',us=[u,w']∧RelV x u∧RelV y w':=by
 cases r with
 |cons r1 r2=>
  cases r2 with
  |cons r3 r4=>cases r4;exact⟨_,_,rfl,r1,r3⟩
theorem EC:bY X (.builtin "abs") (fun xs H Q=>∃i,xs=[.int i]∧Q (.int (if i<0 then-i else i)) H):=by
 intro pins s σ H xs us Q I r h
 obtain⟨i,rfl,q⟩:=h
 obtain⟨u,rfl,t,rfl⟩:=vals1 r
 exact call_abs_int fun u tk=>⟨.int (if i<0 then-i else i),H,I.tok _,⟨_,rfl⟩,q⟩
theorem Bi:bY X (.type "int") (fun xs H Q=>(∃i,xs=[.int i]∧Q (.int i) H)∨∃k,xs=[.bl k]∧Q (.int (if k then 1 else 0)) H):=by
 intro pins s σ H xs us Q I r h
 rcases h with⟨i,rfl,q⟩|⟨k,rfl,q⟩
 · obtain⟨u,rfl,t,rfl⟩:=vals1 r
   exact call_int_int ⟨.int i,H,I,⟨_,rfl⟩,q⟩
 · obtain⟨u,rfl,r1⟩:=vals1 r
   cases r1
   exact call_int_bool ⟨.int (if k then 1 else 0),H,I.tok _,⟨_,rfl⟩,q⟩
end
end L2
namespace L2
open PySem PySem.Spec PyProof.Rows
structure tf(h:Heap)(x dx C:Addr)(mA:Str→Option Value):Prop where
 obj:h.get? x=some (PySem.W.instObj C dx)
 ns:h.Ns1 dx mA
 ne:dx≠x
theorem Cj{h:Heap}{dx:Addr}{mA:Str→Option Value}(n:h.Ns1 dx mA):∃od,h.get? dx=some od∧∀name,PySem.W.lookIn name od=some (mA name):=by
 obtain⟨o,es,ep,ho,hd,hk,_,hm⟩:=n
 refine⟨o,ho,fun name=>?_⟩
 have e:=hm name
 unfold nsFind findBy at e
 rw[←Array.find?_toList]at e
 unfold PySem.W.lookIn
 rw[hd]
 dsimp only
 split
 · rename_i y q
   rw[q]at e
   exact congrArg some e
 · rename_i q
   rw[q]at e
   have a:es.toList.any (·.refKey)=false:=by
    rw[List.any_eq_false]
    intro y hy
    obtain⟨z,t,hkey⟩:=hk y (Array.mem_toList_iff.mp hy)
    simp[DictEntry.refKey,hkey]
   have a':¬es.toList.any (·.refKey)=true:=by rw[a];exact Bool.false_ne_true
   rw[if_neg a']
   exact congrArg some e
theorem tf.look{h:Heap}{x dx C:Addr}{mA:Str→Option Value}(I:tf h x dx C mA):∃od,PySem.W.InstAt h x (PySem.W.instObj C dx) C (some od)∧∀name,PySem.W.lookIn name od=some (mA name):=
 let⟨od,ho,hl⟩:=Cj I.ns
 ⟨od,⟨I.obj,rfl,rfl,ho⟩,hl⟩
section
variable {prog:Program}{w:World}{A:Around}{E:Value→Shared→Prop}{s:Shared}{K:PySem.W.Frag}{x dx C f:Addr}{mA:Str→Option Value}{name:Str}{v:Value}
theorem get_map{expr:Bool}{Q:Value→Shared→Prop}(X:K.In s.heap)(I:tf s.heap x dx C mA)(hg:PySem.W.plainGet K C name=true)(hh:PySem.W.hasDictIn K C=true)
 (ha:PySem.W.findIn K (.ref C) name=some none) (hv:mA name=some v) (hv':PySem.W.handedIn v=true) (h:Q v {s with toks:=s.toks+1}):
 wpAny (model prog w) A (getAttr (.ref x) name expr) Q E s:=by
 obtain⟨od,J,hl⟩:=I.look
 exact PySem.W.get_value X J (PySem.W.plainGet_of hg).1 (PySem.W.findObj_own hh ha rfl (by rw[hl,hv])) hv' h
theorem EG{pl:Sem Bool}{Q:Value×List Value→Shared→Prop}(X:K.In s.heap)(I:tf s.heap x dx C mA)(hg:PySem.W.plainGet K C name=true)
 (hf:PySem.W.findIn K (.ref C) name=some (some (.ref f))) (ht:PySem.W.isFn K (.ref f)=true) (hv:mA name=none) (h:Q (.ref f,[.ref x]) s):
 wpAny (model prog w) A (getMethod (.ref x) name pl) Q E s:=by
 obtain⟨od,J,hl⟩:=I.look
 exact PySem.W.method_fn X J (PySem.W.plainGet_of hg).1 (PySem.W.plainGet_of hg).2 hf (beq_iff_eq.mp ht) (by show(PySem.W.lookIn name od).map (·.isSome)=some false;rw[hl,hv];rfl) h
theorem gZ{ns:List Str}{Q:Unit→Shared→Prop}(X:K.In s.heap)(I:tf s.heap x dx C mA)
 (hs:PySem.W.findIn K (.ref C) "__setattr__"=some (some (.builtin "object.__setattr__"))) (hp:PySem.W.plainOver K C=true) (ht:PySem.W.takerIn K C name=some none) (hh:PySem.W.hasDictIn K C=true)
 (hw:PySem.Within mA ns) (hsz:ns.length≤sizeLine)
 (h:∀h',tf h' x dx C (fun y=>if y=name then some v else mA y)→Heap.SameBut dx s.heap h'→Q () {s with heap:=h',toks:=s.toks+2}):
 wpAny (model prog w) A (setAttr (.ref x) name v) Q E s:=by
 obtain⟨od,J,hl⟩:=I.look
 refine PySem.W.set_plain X J hs (PySem.W.osa_open (s:={s with toks:=s.toks+1}) (r:=none) X J hp ht fun b=>?_)
 obtain⟨cd,hc,hd'⟩:=PySem.W.any_some hh
 have hx:s.heap.get? x=some ⟨.ref C,some dx,.plain,#[]⟩:=I.obj
 refine wpAny_bind (wpAny_pure (wpAny_bind (wpAny_bind (wpAny_loadPart hx (wpAny_bind (PySem.W.Looks.here (s:={s with toks:=s.toks+1}) (PySem.W.looks_clsIn X hc) ?_))))))
 rw[hd']
 refine wpAny_pure (a:=some dx) (wpAny_bind (wpAny_pure (wpAny_bind ?_)))
 refine wpAny_nsSet1 (s:={s with toks:=s.toks+1}) I.ns fun h' hn2 hs2=>?_
 obtain⟨oD,esD,epD,hoD,hdD,hcD⟩:=hn2.count (PySem.Within.cons name v hw)
 refine wpAny_bind (wpAny_lookBehind hoD (by rw[hdD];exact pastItsLine_dict (Nat.le_trans hcD (by rw[List.length_cons];omega))) ?_)
 exact wpAny_pure (h _ ⟨(hs2.2 _ (Ne.symm I.ne)).trans I.obj,hn2,I.ne⟩ hs2)
theorem Ei{R:Result→Shared→Prop}{vs:List Value}{kw:List (Str×Value)}(X:K.In s.heap)(hm:PySem.W.makesIn K C=true)
 (hi:PySem.W.findIn K (.ref C) "__init__"=some (some (.ref f))) (hf:PySem.W.typeIn K (.ref f)=some (.type "function"))
 (h:codeAny (model prog w) (A.under (.builtin "type.__call__" ⟨.ref C::vs,kw⟩)) (.call (.ref f) ⟨.ref (s.heap.objs.size+1)::vs,kw⟩) (PySem.W.InitBack (s.heap.objs.size+1) R)
   {s with heap:=(s.heap.push PySem.W.emptyDict).push (PySem.W.instObj C s.heap.objs.size)}):
 codeAny (model prog w) A (.call (.ref C) ⟨vs,kw⟩) R s:=by
 obtain⟨hh,g,d,t,os⟩:=s
 exact PySem.W.make_core (PySem.W.makes_of X hm) (PySem.W.looks_findIn X hi) (fun self=>PySem.W.bind_fn X self hf) (.inl rfl) h
end
noncomputable def gd(f:Str)(v:V):List (Str×V)→List (Str×V)
 | []=>[(f,v)]
 |(g,x)::r=>if g=f then(g,v)::r else(g,x)::gd f v r
theorem sD(f g:Str)(v:V):∀fs:List (Str×V),(gd f v fs).lookup g=if g=f then some v else fs.lookup g
 | []=>by
   show List.lookup g [(f,v)]=_
   by_cases h:g=f
   · have hb:(g==f)=true:=beq_iff_eq.mpr h
     simp only[List.lookup,hb,if_pos h]
   · have hb:(g==f)=false:=beq_eq_false_iff_ne.mpr h
     simp only[List.lookup,hb,if_neg h]
 |(k,x)::r=>by
  have ih:=sD f g v r
  rw[show gd f v ((k,x)::r)=(if k=f then(k,v)::r else(k,x)::gd f v r)from rfl]
  by_cases hk:k=f
  · rw[if_pos hk]
    by_cases h:g=k
    · have hb:(g==k)=true:=beq_iff_eq.mpr h
      simp only[List.lookup,hb,if_pos (h.trans hk)]
    · have hb:(g==k)=false:=beq_eq_false_iff_ne.mpr h
      simp only[List.lookup,hb,if_neg (fun e:g=f=>h (e.trans hk.symm))]
  · rw[if_neg hk]
    by_cases h:g=k
    · have hb:(g==k)=true:=beq_iff_eq.mpr h
      simp only[List.lookup,hb,if_neg (fun e:g=f=>hk (h.symm.trans e))]
    · have hb:(g==k)=false:=beq_eq_false_iff_ne.mpr h
      simp only[List.lookup,hb]
      exact ih
theorem qV(f:Str)(v:V):∀fs:List (Str×V),f∈(gd f v fs).map (·.1)∧∀g,g∈fs.map (·.1)→g∈(gd f v fs).map (·.1)
 | []=>⟨by simp[gd],fun g h=>by simp at h⟩
 |(k,x)::r=>by
  obtain⟨i1,i2⟩:=qV f v r
  rw[show gd f v ((k,x)::r)=(if k=f then(k,v)::r else(k,x)::gd f v r)from rfl]
  by_cases hk:k=f
  · rw[if_pos hk]
    subst hk
    exact⟨by simp,fun g h=>by simpa using h⟩
  · rw[if_neg hk]
    refine⟨?_,fun g h=>?_⟩
    · rw[List.map_cons]
      exact List.mem_cons_of_mem _ i1
    · rw[List.map_cons]at h⊢
      rcases List.mem_cons.mp h with e|e
      · exact List.mem_cons.mpr (.inl e)
      · exact List.mem_cons_of_mem _ (i2 g e)
theorem sy(f:Str)(v:V):∀fs:List (Str×V),(gd f v fs).length≤fs.length+1
 | []=>by simp[gd]
 |(k,x)::r=>by
  have ih:=sy f v r
  rw[show gd f v ((k,x)::r)=(if k=f then(k,v)::r else(k,x)::gd f v r)from rfl]
  by_cases hk:k=f
  · rw[if_pos hk,List.length_cons,List.length_cons];omega
  · rw[if_neg hk,List.length_cons,List.length_cons];omega
theorem nS.some_of{v:V}{o:Option Value}(r:nS (some v) o):∃u,o=some u∧RelV v u:=by
 cases o with
 |none=>exact(show False from r).elim
 |some u=>exact⟨u,rfl,r⟩
theorem nS.none_of{o:Option Value}(r:nS none o):o=none:=by
 cases o with
 |none=>rfl
 |some u=>exact(show False from r).elim
theorem CO{v:V}{u:Value}(r:RelV v u):PySem.W.handedIn u=true:=by
 cases v with
 |aG=>cases (show u=Value.none from r);rfl
 |bl b=>cases (show u=Value.bool b from r);rfl
 |int i=>obtain⟨t,e⟩:=(show∃t,u=Value.int i t from r);cases e;rfl
 |str x=>obtain⟨t,e⟩:=(show∃t,u=Value.str x t from r);cases e;rfl
 |sG b=>obtain⟨t,e⟩:=(show∃t,u=Value.bytes b t from r);cases e;rfl
 |rY b=>obtain⟨t,e⟩:=(show∃t,u=Value.float b t from r);cases e;rfl
 |ref a=>cases (show u=Value.ref a from r);rfl
 |ty n=>cases (show u=Value.type n from r);rfl
section
variable {P:Program}{w:World}{H H':Hp}{h h':Heap}{a C dx:Addr}{fs fs':List (Str×V)}
theorem oQ(aI:gN P w H h)(e:H a=some (.ins C dx fs)):∃mA,tf h a dx C mA∧(∀f,nS (fs.lookup f) (mA f))∧PySem.Within mA (fs.map (·.1))∧fs.length≤1000∧H dx=some (.own a):=by
 obtain⟨d,z,ne,ob,mA,n,r,q⟩:=(show dj P w H h a (.ins C dx fs)from aI a _ e)
 exact⟨mA,⟨ob,n,ne⟩,r,q,z,d⟩
end
structure mL(K:PySem.W.Frag)(C:Addr):Prop where
 pg:PySem.W.plainGet K C Str.empty=true
 hd:PySem.W.hasDictIn K C=true
 po:PySem.W.plainOver K C=true
 sa:PySem.W.findIn K (.ref C) "__setattr__"=some (some (.builtin "object.__setattr__"))
theorem mL.get{K:PySem.W.Frag}{C:Addr}(c:mL K C)(f:Str):PySem.W.plainGet K C f=true:=c.pg
noncomputable def fK(K:PySem.W.Frag)(C:Addr)(f:Str):Prop:=PySem.W.findIn K (.ref C) f=some none
theorem fK.Lk{K:PySem.W.Frag}{C:Addr}{f:Str}(n:fK K C f):PySem.W.takerIn K C f=some none:=by
 unfold PySem.W.takerIn
 rw[show PySem.W.findIn K (.ref C) f=some none from n]
 rfl
structure Meth(K:PySem.W.Frag)(C:Addr)(m:Str)(f:Addr):Prop where
 at_:PySem.W.findIn K (.ref C) m=some (some (.ref f))
 fn:PySem.W.isFn K (.ref f)=true
 kp:PySem.W.keepIn K (.ref f)=true
section
variable {X:Cx}{pins:List (Addr×Obj)}{σ:St}{H:Hp}{s:Shared}{a C dx:Addr}{fs:List (Str×V)}{f:Str}{v:V}{A:Around}{E:Value→Shared→Prop}
theorem AS{b:Bool}{Q:Value→Shared→Prop}(I:Inv X pins σ H s)(e:H a=some (.ins C dx fs))(c:mL X.K C)(n:fK X.K C f)(l:fs.lookup f=some v)
 (h:∀u s',Inv X pins σ H s'→RelV v u→Q u s'):wpAny (model X.prog X.w) A (getAttr (.ref a) f b) Q E s:=by
 obtain⟨mA,O,r,_,_,_⟩:=oQ I.aI e
 obtain⟨u,hu,ru⟩:=nS.some_of (v:=v) (o:=mA f) (by rw[←l];exact r f)
 exact get_map I.gw O (c.get f) c.hd n hu (CO ru) (h u _ (I.tok _) ru)
theorem AY{m:Str}{g:Addr}{pl:Sem Bool}{Q:Value×List Value→Shared→Prop}(I:Inv X pins σ H s)(e:H a=some (.ins C dx fs))(c:mL X.K C)(k:Meth X.K C m g)(l:fs.lookup m=none)
 (h:Q (.ref g,[.ref a]) s):wpAny (model X.prog X.w) A (getMethod (.ref a) m pl) Q E s:=by
 obtain⟨mA,O,r,_,_,_⟩:=oQ I.aI e
 have hn:mA m=none:=nS.none_of (by rw[←l];exact r m)
 exact EG I.gw O (c.get m) k.at_ k.fn hn h
theorem Ab{y:V}{u:Value}{Q:Unit→Shared→Prop}(I:Inv X pins σ H s)(e:H a=some (.ins C dx fs))(c:mL X.K C)(n:fK X.K C f)(hl:fs.length<1000)(ry:RelV y u)
 (h:∀s',Inv X pins σ (upd H a (.ins C dx (gd f y fs))) s'→Q () s'):wpAny (model X.prog X.w) A (setAttr (.ref a) f u) Q E s:=by
 obtain⟨mA,O,r,wi,_,ho⟩:=oQ I.aI e
 have hz:(fs.map (·.1)).length≤sizeLine:=by rw[List.length_map,sizeLine_eq];omega
 refine gZ I.gw O c.sa c.po n.Lk c.hd wi hz fun h' O' sb=>h _ ?_
 have hd:∃o,h'.get? dx=some o:=let⟨o,_,_,e',_⟩:=O'.ns;⟨o,e'⟩
 refine I.write (x:=a) (e:=dx) (by rw[e];exact True.intro) (.inr ho) (fun b q hb z=>(sb.2 b hb).trans z) hd ?_
 refine⟨by rw[aC O.ne];exact ho,?_,O.ne,O'.obj,_,O'.ns,fun g=>?_,fun g hg=>?_⟩
 · have:=sy f y fs;omega
 · show nS ((gd f y fs).lookup g) (if g=f then some u else mA g)
   rw[sD]
   by_cases q:g=f
   · rw[if_pos q,if_pos q];exact ry
   · rw[if_neg q,if_neg q];exact r g
 · by_cases q:g=f
   · rw[q];exact(qV f y fs).1
   · refine(qV f y fs).2 g (wi g fun z=>hg ?_)
     show(if g=f then some u else mA g)=none
     rw[if_neg q];exact z
theorem Inv.made(I:Inv X pins σ H s):Inv X pins σ (upd (upd H s.heap.objs.size (.own (s.heap.objs.size+1))) (s.heap.objs.size+1) (.ins C s.heap.objs.size []))
 {s with heap:=(s.heap.push PySem.W.emptyDict).push (PySem.W.instObj C s.heap.objs.size)}:=by
 have e1:(s.heap.push PySem.W.emptyDict).get? s.heap.objs.size=some PySem.W.emptyDict:=Heap.get?_push_size s.heap rfl
 have e2:((s.heap.push PySem.W.emptyDict).push (PySem.W.instObj C s.heap.objs.size)).get? (s.heap.objs.size+1)=some (PySem.W.instObj C s.heap.objs.size):=by
  have:=Heap.get?_push_size (s.heap.push PySem.W.emptyDict) (o:=PySem.W.instObj C s.heap.objs.size) rfl
  rwa [Heap.size_push]at this
 have e3:(s.heap.push PySem.W.emptyDict).Ns s.heap.objs.size (fun _=>none):=⟨PySem.W.emptyDict,#[],_,e1,rfl,(fun e he=>absurd he (by simp)),fun _=>rfl⟩
 have I1:=I.laid (a:=s.heap.objs.size) (o:= .own (s.heap.objs.size+1)) (h':=s.heap.push PySem.W.emptyDict) (t':=s.toks) (fun b u q=>Heap.get?_push_of_some _ q) (Nat.le_refl _) ⟨_,e1⟩
 refine I1.laid (a:=s.heap.objs.size+1) (o:= .ins C s.heap.objs.size []) (t':=s.toks) (fun b u q=>Heap.get?_push_of_some _ q) (Nat.le_of_eq (Heap.size_push _ _)) ?_
 have ne:s.heap.objs.size≠s.heap.objs.size+1:=Nat.ne_of_lt (Nat.lt_succ_self _)
 refine⟨by rw[aC ne,aZ],Nat.zero_le _,ne,e2,fun _=>none,(Heap.Ns1.of_empty e3).at fun o q=>Heap.get?_push_of_some _ q,fun _=>True.intro,fun y hy=>absurd rfl hy⟩
theorem Gp{prog:Program}{w:World}{env:Env}{e:Expr}{f:Str}{pos:Pos}{s:Shared}{Q:Value→Shared→Prop}(hb:attributeBase e f env (eval e env)=eval e env)
 (h:wpAny (model prog w) A (eval e env) (fun o s₁=>wpAny (model prog w) A (getAttr o f true) Q E s₁) E s):wpAny (model prog w) A (eval (.Attribute e f pos) env) Q E s:=
 Attribute_any_ h (by rw[arm_eval_Attribute,hb])
end
noncomputable def MV(K:PySem.W.Frag)(ta:TE)(f:Str):TE:=fun σ H Q=>ta σ H fun x H1=>∃a C dx fs v,x= .ref a∧H1 a=some (.ins C dx fs)∧mL K C∧fK K C f∧fs.lookup f=some v∧Q v H1
noncomputable def MD(K:PySem.W.Frag)(ta tv:TE)(f:Str):TS:=fun D σ H=>tv σ H fun y H1=>ta σ H1 fun x H2=>∃a C dx fs,x= .ref a∧H2 a=some (.ins C dx fs)∧mL K C∧fK K C f∧fs.length<1000∧
 D.nx σ (upd H2 a (.ins C dx (gd f y fs)))
section
variable {X:Cx}{o e value:Expr}{f:Str}{pos pos' tpos:Pos}{ta tv:TE}
theorem Hw(he:PE X e ta)(hb:attributeBase e f X.env (eval e X.env)=eval e X.env):PE X (.Attribute e f pos) (MV X.K ta f):=by
 intro pins s σ H Q I h
 refine Gp hb (bU (he pins s σ H _ I h) fun u s1 ⟨x,H1,I1,rx,a,C,dx,fs,v,ex,ea,c,n,l,q⟩=>?_)
 subst ex
 obtain rfl:u=Value.ref a:=rx
 exact AS I1 ea c n l fun u' s2 I2 ru=>⟨v,H1,I2,ru,q⟩
theorem Jq(ha:PE X o ta)(hv:PE X value tv)(hs:swapsWith value (some (.Attribute o f pos')) pos.line X.env=pure false):PS X (.Assign [.Attribute o f pos'] value pos) (MD X.K ta tv f):=by
 intro pins s σ H D I h
 refine plainObj_wpAny_Assign_Attribute (bU (hv pins s σ H _ I h) fun u s1 ⟨y,H1,I1,ry,q⟩=>bU (ha pins s1 σ H1 _ I1 q) fun ov s2 ⟨x,H2,I2,rx,a,C,dx,fs,ex,ea,c,n,l,q2⟩=>?_) hs
 subst ex
 obtain rfl:ov=Value.ref a:=rx
 exact Ab I2 ea c n l ry fun s3 I3=>⟨σ,_,I3,q2⟩
end
section
variable {X:Cx}{pins:List (Addr×Obj)}{σ:St}{H:Hp}{s:Shared}{A:Around}{E:Value→Shared→Prop}{Q:Value→Shared→Prop}{c:Value}{b:Bool}
inductive iY(K:PySem.W.Frag)(H:Hp):V→Value→Prop where
 |aG:iY K H .aG (.type "NoneType")
 |bl (x:Bool):iY K H (.bl x) (.type "bool")
 |int (i:Int):iY K H (.int i) (.type "int")
 |str (x:Str):iY K H (.str x) (.type "str")
 |rY (x:UInt64):iY K H (.rY x) (.type "float")
 |lst {a:Addr} {xs:List V} (e:H a=some (.lst xs)):iY K H (.ref a) (.type "list")
 |fW {a:Addr} {o:Obj} {xs:List V} (e:H a=some (.fW o (.lst xs))):iY K H (.ref a) (.type "list")
 |tup {a:Addr} {xs:List V} (e:H a=some (.tup xs)):iY K H (.ref a) (.type "tuple")
 |dK {a:Addr} {kvs:List (Key×V)} (e:H a=some (.dK kvs)):iY K H (.ref a) (.type "dict")
 |dT {a:Addr} {kvs:List (List Key×V)} (e:H a=some (.dT kvs)):iY K H (.ref a) (.type "dict")
 |ins {a C dx:Addr} {fs:List (Str×V)} (e:H a=some (.ins C dx fs)) (cl:mL K C) (ha:PySem.W.findIn K (.ref C) "__class__"=some (some (.builtin "object.__class__")))
   (hn:PySem.W.specialIn K (.builtin "object.__class__") "__get__"=some (some (.builtin "getset_descriptor.__get__"))) (htk:PySem.W.takesIn K (.builtin "object.__class__")=some true)
   (hm:PySem.W.mroIn K C (.type "object")=some true):iY K H (.ref a) (.ref C)
theorem BI{x:V}{u t:Value}(I:Inv X pins σ H s)(rx:RelV x u)(ty:iY X.K H x t)(e:PySem.W.kitOne X.K t c=some b)(h:∀tk,Q (.bool b) {s with toks:=tk}):
 wpAny (model X.prog X.w) A (call (.builtin "isinstance") [u,c]) Q E s:=by
 cases ty with
 |aG=>cases (show u=Value.none from rx);exact PySem.W.kia_one PySem.W.kitx_none I.gw True.intro e (fun z=>nomatch z) h
 |bl y=>cases (show u=Value.bool y from rx);exact PySem.W.kia_one PySem.W.kitx_bool I.gw True.intro e (fun z=>nomatch z) h
 |int i=>obtain⟨t,q⟩:=(show∃t,u=Value.int i t from rx);cases q;exact PySem.W.kia_one PySem.W.kitx_int I.gw True.intro e (fun z=>nomatch z) h
 |str y=>obtain⟨t,q⟩:=(show∃t,u=Value.str y t from rx);cases q;exact PySem.W.kia_one PySem.W.kitx_str I.gw True.intro e (fun z=>nomatch z) h
 |rY y=>obtain⟨t,q⟩:=(show∃t,u=Value.float y t from rx);cases q;exact PySem.W.kia_one PySem.W.kitx_float I.gw True.intro e (fun z=>nomatch z) h
 | @lst a xs ea=>
   cases (show u=Value.ref a from rx)
   obtain⟨_,_,n,_,h1⟩:=(show dj X.prog X.w H s.heap a (.lst xs)from I.aI a _ ea)
   exact PySem.W.kia_one PySem.W.kitx_list I.gw ⟨_,h1,rfl⟩ e (fun z=>nomatch z) h
 | @fW a ob xs ea=>
   cases (show u=Value.ref a from rx)
   obtain⟨_,_,_,n,_,h1⟩:=(show dj X.prog X.w H s.heap a (.fW ob (.lst xs))from I.aI a _ ea)
   exact PySem.W.kia_one PySem.W.kitx_list I.gw ⟨_,h1,rfl⟩ e (fun z=>nomatch z) h
 | @tup a xs ea=>
   cases (show u=Value.ref a from rx)
   obtain⟨_,_,_,p⟩:=(show dj X.prog X.w H s.heap a (.tup xs)from I.aI a _ ea)
   obtain⟨o,h1,h2,_⟩:=p
   exact PySem.W.kia_one PySem.W.kitx_tuple I.gw ⟨o,h1,h2⟩ e (fun z=>nomatch z) h
 | @dK a kvs ea=>
   cases (show u=Value.ref a from rx)
   obtain⟨_,_,vs,_,p⟩:=(show dj X.prog X.w H s.heap a (.dK kvs)from I.aI a _ ea)
   obtain⟨o,es,ep,h1,h2,_⟩:=p
   exact PySem.W.kia_one PySem.W.kitx_dict I.gw ⟨o,h1,h2.1⟩ e (fun z=>nomatch z) h
 | @dT a kvs ea=>
   cases (show u=Value.ref a from rx)
   obtain⟨_,_,xs,_,o,es,ep,h1,h2,_⟩:=(show dj X.prog X.w H s.heap a (.dT kvs)from I.aI a _ ea)
   exact PySem.W.kia_one PySem.W.kitx_dict I.gw ⟨o,h1,h2.1⟩ e (fun z=>nomatch z) h
 | @ins a C dx fs ea cl ha hn htk hm=>
   cases (show u=Value.ref a from rx)
   obtain⟨mA,O,_⟩:=oQ I.aI ea
   obtain⟨od,J,_⟩:=O.look
   exact PySem.W.kia_one (PySem.W.kitx_own (cl.get _) cl.hd ha hn htk hm) I.gw J e (fun z=>nomatch z) h
end
end L2
namespace L2
open PySem PySem.Spec PyProof.Rows
structure cT(k:Nat)(A:Around):Prop where
 hd:A.handled=none
 dp:A.depth+3*k+105<recursionLimit
 un:A.units+16*k+200<cLine
theorem cT.mono{j k:Nat}{A:Around}(r:cT k A)(h:j≤k):cT j A:=⟨r.hd,by have:=r.dp;omega,by have:=r.un;omega⟩
theorem cT.deeper{k:Nat}{A:Around}(r:cT (k+1) A)(env:Env):cT k (A.deeper env):=
 ⟨r.hd,by have:=r.dp;show A.depth+1+3*k+105<_;omega,by have:=r.un;show A.units+3+16*k+200<_;omega⟩
theorem AU{A:Around}{C:Addr}{us:List Value}{kw:List (Str×Value)}:(A.under (.builtin "type.__call__" ⟨.ref C::us,kw⟩)).depth=A.depth+1:=by
 first|rfl|simp[Around.under,Code.weight,Code.isCreation,Code.isGuard,Code.isCaller,Code.frames,Code.isFrame,guardIds]
theorem AK{A:Around}{C:Addr}{us:List Value}{kw:List (Str×Value)}:(A.under (.builtin "type.__call__" ⟨.ref C::us,kw⟩)).units=A.units+1:=by
 first|rfl|simp[Around.under,Code.cUnits,Code.frames,Code.isFrame]
theorem cT.make{k:Nat}{A:Around}(r:cT (k+1) A)(C:Addr)(us:List Value)(kw:List (Str×Value)):cT k (A.under (.builtin "type.__call__" ⟨.ref C::us,kw⟩)):=
 ⟨r.hd,by have:=r.dp;rw[AU];omega,by have:=r.un;rw[AK];omega⟩
theorem cT.depth{k:Nat}{A:Around}(r:cT k A):A.depth<recursionLimit:=by have:=r.dp;omega
theorem cT.units{k:Nat}{A:Around}(r:cT k A):A.units+64<cLine:=by have:=r.un;omega
noncomputable def MJ:TA:=fun _ H Q=>Q [] H
noncomputable def KI(ta:TE)(tr:TA):TA:=fun σ H Q=>ta σ H fun x H1=>tr σ H1 fun xs H2=>Q (x::xs) H2
section
variable {X:Cx}{e:Expr}{es:List Expr}{te:TE}{t:TA}{pos:Pos}
theorem IW:PA X [] MJ:=fun _ _ _ _ H Q I h=>Calls.spliced_nil ⟨[],H,I,.nil,h⟩
theorem FX(ha:PE X e te)(hr:PA X es t)(hs:starEach (e::es) X.env=(false,eval e X.env)::starEach es X.env:=by rfl):PA X (e::es) (KI te t):=by
 intro pos pins s σ H Q I h
 rw[hs]
 show wpAny _ _ (spliced ((false,eval e X.env)::backTo pos (starEach es X.env))) _ _ s
 refine Calls.spliced_cons (bU (ha pins s σ H _ I h) fun u s1 ⟨x,H1,I1,r1,q1⟩=>?_)
 exact bU (hr pos pins s1 σ H1 _ I1 q1) fun us s2 ⟨xs,H2,I2,r2,q2⟩=>⟨x::xs,H2,I2,.cons r1 r2,q2⟩
noncomputable def Nb(t:TA):TE:=fun σ H Q=>t σ H fun xs H1=>xs.length≤sizeLine∧∀p,H1 p=none→Q (.ref p) (upd H1 p (.tup xs))
noncomputable def MH(t:TA):TE:=fun σ H Q=>t σ H fun xs H1=>xs.length≤sizeLine∧∀p,H1 p=none→Q (.ref p) (upd H1 p (.lst xs))
theorem Iy{x1}(h:PA X es t):PE X (.Tuple es x1 pos) (Nb t):=by
 intro pins s σ H Q I hq
 refine wpAny_Tuple_spliced (bU (h pos pins s σ H _ I hq) fun us s1 ⟨xs,H1,I1,r,z,q⟩=>⟨by rw[←r.length];exact z,?_⟩)
 have hf:H1 s1.heap.objs.size=none:=I1.aI.fresh (Nat.le_refl _)
 refine⟨.ref s1.heap.objs.size,upd H1 s1.heap.objs.size (.tup xs),I1.laid (t':=s1.toks) (fun b u e=>Heap.get?_push_of_some _ e) (Nat.le_refl _) ?_,rfl,q _ hf⟩
 exact⟨z,us,r,⟨_,Heap.get?_push_size _ rfl,rfl,_,rfl⟩⟩
theorem C8(h:PA X es t):PE X (.List es pos) (MH t):=by
 intro pins s σ H Q I hq
 refine wpAny_List_spliced (bU (h pos pins s σ H _ I hq) fun us s1 ⟨xs,H1,I1,r,z,q⟩=>⟨by rw[←r.length];exact z,?_⟩)
 have hf:H1 s1.heap.objs.size=none:=I1.aI.fresh (Nat.le_refl _)
 refine⟨.ref s1.heap.objs.size,upd H1 s1.heap.objs.size (.lst xs),I1.laid (t':=s1.toks) (fun b u e=>Heap.get?_push_of_some _ e) (Nat.le_refl _) ?_,rfl,q _ hf⟩
 exact⟨z,us,0,r,Heap.get?_push_size _ rfl⟩
end
noncomputable abbrev Sp:=List V→Hp→VK→XK→Prop
noncomputable abbrev su:=List Env→Hp→Shared→XK→Value→Shared→Prop
structure tw(P:Program)(w:World)(K:PySem.W.Frag)(mg:Str→Option Value)(base:Heap)(A:Around)(outer:List Env)(s:Shared)(H:Hp):Prop where
 frames:A.frames=some outer
 mod:Mod K mg base
 bs:∀b o,base.get? b=some o→s.heap.get? b=some o∧H b=none
 qb:base.objs.size≤s.heap.objs.size
 jV:s.heap.FunFrames base outer
 ue:∀b∈oG outer,H b=none
 aI:gN P w H s.heap
 bare:AllBare s.gens
 gt:P.given.tree=none
noncomputable def CE(outer:List Env)(P:Program)(w:World)(H:Hp)(s:Shared)(Q:VK)(u:Value)(s':Shared):Prop:=
 ∃v H',s'.os=s.os∧AllBare s'.gens∧Un (oG outer) [] H H' s.heap s'.heap∧gN P w H' s'.heap∧RelV v u∧Q v H'
noncomputable def CR(CX:su)(outer:List Env)(P:Program)(w:World)(H:Hp)(s:Shared)(Q:VK)(E:XK)(r:Result)(s':Shared):Prop:=
 match r with
 | .ok (.ret u)=>CE outer P w H s Q u s'
 | .ok _=>False
 | .error e=>CX outer H s E e s'
structure bo(P:Program)(w:World)(K:PySem.W.Frag)(mg:Str→Option Value)(base:Heap)(CX:su)(k:Nat)(f:Addr)(fd:FuncData)(ps:List Str)(sp:Sp):Prop where
 len:∀vs H Q E,sp vs H Q E→vs.length=ps.length
 run:∀(A:Around) (outer:List Env) (s:Shared) (H:Hp) (args:Args) (us:List Value) (vs:List V) (Q:VK) (E:XK),cT k A→tw P w K mg base A outer s H→BindsTo s fd args (ps.zip us)→Vals vs us→sp vs H Q E→
  codeAny (model P w) A (.call (.ref f) args) (CR CX outer P w H s Q E) s
theorem bo.imp{P:Program}{w:World}{K:PySem.W.Frag}{mg:Str→Option Value}{base:Heap}{CX:su}{k:Nat}{f:Addr}{fd:FuncData}{ps:List Str}{sp sp':Sp}(F:bo P w K mg base CX k f fd ps sp)
 (h:∀vs H Q E,sp' vs H Q E→sp vs H Q E):bo P w K mg base CX k f fd ps sp':=
 ⟨fun vs H Q E q=>F.len vs H Q E (h _ _ _ _ q),fun A outer s H args us vs Q E hr he hb hv hs=>F.run A outer s H args us vs Q E hr he hb hv (h _ _ _ _ hs)⟩
theorem tw.make{P:Program}{w:World}{K:PySem.W.Frag}{mg:Str→Option Value}{base:Heap}{A:Around}{outer:List Env}{s:Shared}{H:Hp}(e:tw P w K mg base A outer s H)(C:Addr)(us:List Value)(kw:List (Str×Value)):
 tw P w K mg base (A.under (.builtin "type.__call__" ⟨.ref C::us,kw⟩)) outer s H:=⟨by first|exact e.frames|(simpa[Around.under,Code.envs,Code.isFrame,pushEnvs]using e.frames),e.mod,e.bs,e.qb,e.jV,e.ue,e.aI,e.bare,e.gt⟩
section
variable {X:Cx}{pins:List (Addr×Obj)}{σ:St}{H:Hp}{s s':Shared}
theorem Inv.Ju(I:Inv X pins σ H s):tw X.prog X.w X.K X.mg X.base X.A X.stack s H:=
 ⟨I.ok.frames,I.ok.mod,I.bs,Nat.le_trans I.ok.qb I.sz,I.stack,I.ve,I.aI,I.bare,I.ok.gt⟩
theorem Inv.after{Q:VK}{u:Value}(I:Inv X pins σ H s)(h:CE X.stack X.prog X.w H s Q u s'):EP X pins σ Q u s':=by
 obtain⟨v,H',os,bare,un,aI,r,q⟩:=h
 obtain⟨hh,g,d,t,os'⟩:=s'
 obtain rfl:os'=s.os:=os
 exact⟨v,H',I.call (h':=hh) (g':=g) (d':=d) (t':=t) (ch:=[]) un aI bare (fun b z=>absurd z (by simp)),r,q⟩
end
noncomputable def E1(sp:Sp)(dvs:List V)(E:XK)(t:TA):TE:=fun σ H Q=>t σ H fun vs H1=>sp (vs++dvs) H1 Q E
noncomputable def E6(C:Addr)(m:Str)(sp:Sp)(dvs:List V)(E:XK)(ta:TE)(t:TA):TE:=fun σ H Q=>ta σ H fun x H1=>∃a dx fs,x= .ref a∧H1 a=some (.ins C dx fs)∧fs.lookup m=none∧
 t σ H1 fun vs H2=>sp (x::(vs++dvs)) H2 Q E
noncomputable def Ff(C:Addr)(sp:Sp)(dvs:List V)(E:XK)(t:TA):TE:=fun σ H Q=>t σ H fun vs H1=>∀x dx,H1 x=none→H1 dx=none→dx≠x→
 sp (.ref x::(vs++dvs)) (upd (upd H1 dx (.own x)) x (.ins C dx [])) (fun v H2=>v= .aG∧Q (.ref x) H2) E
noncomputable def Binds(K:PySem.W.Frag)(fd:FuncData)(ps:List Str)(ds:List Value):Prop:=
 ∀(s:Shared) (us:List Value),K.In s.heap→(us++ds).length=ps.length→BindsTo s fd ⟨us,[]⟩ (ps.zip (us++ds))
theorem Binds.all{K:PySem.W.Frag}{fd:FuncData}{ps:List Str}(h:∀us:List Value,us.length=ps.length→bindArgs fd ⟨us,[]⟩=pure (ps.zip us)):Binds K fd ps []:=fun s us _ hl=>by
 rw[List.append_nil]at hl⊢
 exact .of_eq (h us hl)
noncomputable def Passes(CX:su)(X:Cx)(E:XK):Prop:=∀(pins:List (Addr×Obj)) (σ:St) (H:Hp) (s:Shared) (e:Value) (s':Shared),Inv X pins σ H s→CX X.stack H s E e s'→X.xe e s'
section
variable {X:Cx}{CX:su}{k:Nat}{f C:Addr}{fd:FuncData}{ps:List Str}{sp:Sp}{dvs:List V}{ds:List Value}{E:XK}{x m:Str}{p pos apos:Pos}{e o:Expr}{es:List Expr}{ta:TE}{t:TA}
theorem BA{pins:List (Addr×Obj)}{σ:St}{H:Hp}{s:Shared}{Q:VK}{us:List Value}{vs:List V}(F:bo X.prog X.w X.K X.mg X.base CX k f fd ps sp)(hr:cT k X.A)(hb:Binds X.K fd ps ds)(hd:Vals dvs ds)(hx:Passes CX X E)
 (I:Inv X pins σ H s) (r:Vals vs us) (h:sp (vs++dvs) H Q E):wpAny (model X.prog X.w) X.A (call (.ref f) us) (EP X pins σ Q) X.xe s:=by
 have r2:Vals (vs++dvs) (us++ds):=r.append hd
 have hl:(us++ds).length=ps.length:=by rw[←r2.length];exact F.len _ _ _ _ h
 refine wpAny_call (codeAny_mono (F.run X.A X.stack s H ⟨us,[]⟩ (us++ds) (vs++dvs) Q E hr I.Ju (hb s us I.gw hl) r2 h) fun r s' hq=>?_)
 cases r with
 |error e=>exact hx pins σ H s e s' I hq
 |ok fl=>
  cases fl with
  |ret u=>exact I.after hq
  |next=>exact False.elim hq
  |brk=>exact False.elim hq
  |cont=>exact False.elim hq
theorem GF(F:bo X.prog X.w X.K X.mg X.base CX k f fd ps sp)(hr:cT k X.A)(hg:Gl X x)(hm:X.mg x=some (.ref f))(hk:PySem.W.keepIn X.K (.ref f)=true)(hb:Binds X.K fd ps ds)(hd:Vals dvs ds)(hx:Passes CX X E)
 (ha:PA X (e::es) t) (hdb:(x==("__debug__":Str))=false:=by decide) (he:starEach (e::es) X.env=(false,eval e X.env)::starEach es X.env:=by rfl) (hpl:(backTo pos (starEach es X.env)).any (·.1)=false:=by rfl):
 PE X (.Call (.Name x p) (e::es) [] pos) (E1 sp dvs E t):=by
 intro pins s σ H Q I h
 refine wpAny_Call_Name_kw (zV I hg hm ?_ hdb)
 refine PySem.W.callWith_K (h₀:=X.base) I.ok.mod.CG hk (bU (ha pos pins s σ H _ I h) fun us s1 ⟨vs,H1,I1,r,q⟩=>⟨I1.gw,?_⟩) he hpl
 exact BA F hr hb hd hx I1 r q
theorem GK{pl:Sem Bool}(he:PE X o ta)(c:mL X.K C)(hm:Meth X.K C m f)(F:bo X.prog X.w X.K X.mg X.base CX k f fd ps sp)(hr:cT k X.A)(hb:Binds X.K fd ps ds)(hd:Vals dvs ds)(hx:Passes CX X E)(ha:PA X (e::es) t)
 (hst:starEach (e::es) X.env=(false,eval e X.env)::starEach es X.env:=by rfl) (hpl:(backTo pos (starEach es X.env)).any (·.1)=false:=by rfl)
 (ht:eval (.Call (.Attribute o m apos) (e::es) [] pos) X.env=(do
   let ov ←eval o X.env
   standAt apos.atName
   let(f,first) ←holding [ov] (getMethod ov m pl)
   callWith pos f first (backTo pos (starEach (e::es) X.env)) (backToKw pos (keywordEach [] X.env))):=by rfl):
 PE X (.Call (.Attribute o m apos) (e::es) [] pos) (E6 C m sp dvs E ta t):=by
 intro pins s σ H Q I h
 refine PySem.W.methodCall_KW (pl:=pl) (bU (he pins s σ H _ I h) fun u s1 ⟨x,H1,I1,rx,a,dx,fs,ex,ea,l,q⟩=>?_) ht
 subst ex
 obtain rfl:u=Value.ref a:=rx
 refine AY I1 ea c hm l ?_
 refine PySem.W.callWith_K (first:=[.ref a]) (h₀:=X.base) I.ok.mod.CG hm.kp (bU (ha pos pins s1 σ H1 _ I1 q) fun us s2 ⟨vs,H2,I2,r,q2⟩=>⟨I2.gw,?_⟩) hst hpl
 exact BA (us:= .ref a::us) (vs:= .ref a::vs) F hr hb hd hx I2 (.cons rfl r) q2
structure Mk(K:PySem.W.Frag)(C f:Addr):Prop where
 makes:PySem.W.makesIn K C=true
 init:PySem.W.findIn K (.ref C) "__init__"=some (some (.ref f))
 fn:PySem.W.isFn K (.ref f)=true
 kp:PySem.W.keepIn K (.ref C)=true
theorem DL{pins:List (Addr×Obj)}{σ:St}{H:Hp}{s:Shared}{Q:VK}{us:List Value}{vs:List V}(M:Mk X.K C f)(F:bo X.prog X.w X.K X.mg X.base CX k f fd ps sp)(hr:cT (k+1) X.A)(hb:Binds X.K fd ps ds)(hd:Vals dvs ds)
 (hx:Passes CX X E) (I:Inv X pins σ H s) (r:Vals vs us)
 (h:∀x dx,H x=none→H dx=none→dx≠x→sp (.ref x::(vs++dvs)) (upd (upd H dx (.own x)) x (.ins C dx [])) (fun v H2=>v= .aG∧Q (.ref x) H2) E):
 wpAny (model X.prog X.w) X.A (call (.ref C) us) (EP X pins σ Q) X.xe s:=by
 have hq:=h (s.heap.objs.size+1) s.heap.objs.size (I.aI.fresh (Nat.le_succ _)) (I.aI.fresh (Nat.le_refl _)) (Nat.ne_of_lt (Nat.lt_succ_self _))
 have I2:=Inv.made (C:=C) I
 have r2:Vals (V.ref (s.heap.objs.size+1)::(vs++dvs)) (Value.ref (s.heap.objs.size+1)::(us++ds)):= .cons rfl (r.append hd)
 have hl:(Value.ref (s.heap.objs.size+1)::us++ds).length=ps.length:=by
  have e:=r2.length
  rw[F.len _ _ _ _ hq]at e
  exact e.symm
 refine wpAny_call (Ei (f:=f) I.gw M.makes M.init (beq_iff_eq.mp M.fn) (codeAny_mono (F.run _ X.stack _ _ ⟨Value.ref (s.heap.objs.size+1)::us,[]⟩ (Value.ref (s.heap.objs.size+1)::(us++ds)) _ _ E (hr.make C us [])
  (I2.Ju.make C us []) (hb _ (Value.ref (s.heap.objs.size+1)::us) I2.gw hl) r2 hq) fun r s' hq'=>?_))
 cases r with
 |error e=>exact hx pins σ _ _ e s' I2 hq'
 |ok fl=>
  cases fl with
  |ret u=>
   obtain⟨v,H',I3,rv,ev,q3⟩:=I2.after hq'
   subst ev
   exact⟨rv,⟨V.ref (s.heap.objs.size+1),H',I3,rfl,q3⟩⟩
  |next=>exact False.elim hq'
  |brk=>exact False.elim hq'
  |cont=>exact False.elim hq'
theorem Hf(M:Mk X.K C f)(F:bo X.prog X.w X.K X.mg X.base CX k f fd ps sp)(hr:cT (k+1) X.A)(hg:Gl X x)(hm:X.mg x=some (.ref C))(hb:Binds X.K fd ps ds)(hd:Vals dvs ds)(hx:Passes CX X E)
 (ha:PA X (e::es) t) (hdb:(x==("__debug__":Str))=false:=by decide) (he:starEach (e::es) X.env=(false,eval e X.env)::starEach es X.env:=by rfl) (hpl:(backTo pos (starEach es X.env)).any (·.1)=false:=by rfl):
 PE X (.Call (.Name x p) (e::es) [] pos) (Ff C sp dvs E t):=by
 intro pins s σ H Q I h
 refine wpAny_Call_Name_kw (zV I hg hm ?_ hdb)
 refine PySem.W.callWith_K (h₀:=X.base) I.ok.mod.CG M.kp (bU (ha pos pins s σ H _ I h) fun us s1 ⟨vs,H1,I1,r,q⟩=>⟨I1.gw,?_⟩) he hpl
 exact DL M F hr hb hd hx I1 r q
end
section
variable {X:Cx}{CX:su}{k:Nat}{f C:Addr}{fd:FuncData}{ps ks:List Str}{sp:Sp}{E:XK}{x m:Str}{p pos apos kpos:Pos}{e o:Expr}{es:List Expr}{kws:List Keyword}{te ta:TE}{t tk:TA}{nm:Option Str}
variable {g:List Value→List Value→List Value}{gV:List V→List V→List V}
end
structure aS(N P:List Str)(sc:Scope):Prop where
 kind:sc.kind= .function
 co:sc.isCoroutine=false
 gen:sc.isGenerator=false
 nd:N.Nodup
 pre:N.take P.length=P
 par:∀x∈P,sc.names.lookup x=some .local∨sc.names.lookup x=some .cell
 IH:∀y∈sc.names,y.2≠ .free
theorem vK{kindOf:Str→Option NameKind}{x:Str}:∀ {binds:List (Str×Value)} {m:Str→Option Value},(∀v,(x,v)∉binds)→bindL kindOf binds m x=m x
 | [],_,_=>rfl
 |(n,v)::r,m,h=>by
  unfold bindL
  rw[vK fun w hw=>h w (List.mem_cons_of_mem _ hw)]
  split
  · have:x≠n:=by rintro rfl;exact h v List.mem_cons_self
    simp[this]
  · rfl
theorem vL{kindOf:Str→Option NameKind}{x:Str}:∀ {binds:List (Str×Value)} {m:Str→Option Value},(∀v,(x,v)∉binds)→bindC kindOf binds m x=m x
 | [],_,_=>rfl
 |(n,v)::r,m,h=>by
  unfold bindC
  rw[vL fun w hw=>h w (List.mem_cons_of_mem _ hw)]
  split
  · rfl
  · have:x≠n:=by rintro rfl;exact h v List.mem_cons_self
    simp[this]
theorem vF{kindOf:Str→Option NameKind}{x:Str}{v:Value}:∀ {P:List Str} {vs:List Value} {i:Nat} {m:Str→Option Value},P.Nodup→P[i]?=some x→vs[i]?=some v→kindOf x=some .local→
 bindL kindOf (P.zip vs) m x=some v
 | [],_,_,_,_,h,_,_=>by simp at h
 |_::_,[],_,_,_,_,h,_=>by simp at h
 |p::P,w::vs,0,m,nd,h1,h2,hk=>by
  simp at h1 h2;subst h1;subst h2
  show bindL kindOf ((p,w)::P.zip vs) m p=_
  unfold bindL
  rw[vK fun v hv=>(List.nodup_cons.mp nd).1 (List.of_mem_zip hv).1,if_pos hk]
  simp
 |p::P,w::vs,i+1,m,nd,h1,h2,hk=>by
  show bindL kindOf ((p,w)::P.zip vs) m x=_
  unfold bindL
  exact vF (i:=i) (List.nodup_cons.mp nd).2 (by simpa using h1) (by simpa using h2) hk
theorem vQ{kindOf:Str→Option NameKind}{x:Str}{v:Value}:∀ {P:List Str} {vs:List Value} {i:Nat} {m:Str→Option Value},P.Nodup→P[i]?=some x→vs[i]?=some v→kindOf x≠some .local→
 bindC kindOf (P.zip vs) m x=some v
 | [],_,_,_,_,h,_,_=>by simp at h
 |_::_,[],_,_,_,_,h,_=>by simp at h
 |p::P,w::vs,0,m,nd,h1,h2,hk=>by
  simp at h1 h2;subst h1;subst h2
  show bindC kindOf ((p,w)::P.zip vs) m p=_
  unfold bindC
  rw[vL fun v hv=>(List.nodup_cons.mp nd).1 (List.of_mem_zip hv).1,if_neg hk]
  simp
 |p::P,w::vs,i+1,m,nd,h1,h2,hk=>by
  show bindC kindOf ((p,w)::P.zip vs) m x=_
  unfold bindC
  exact vQ (i:=i) (List.nodup_cons.mp nd).2 (by simpa using h1) (by simpa using h2) hk
noncomputable def start(N:List Str)(vs:List V):St:=vs.map some++List.replicate (N.length-vs.length) none
noncomputable def pK(CX:su)(P:Program)(w:World)(K:PySem.W.Frag)(mg:Str→Option Value)(base:Heap)(N:List Str)(qual:Str)(scope:Scope)(f:Addr)(cd:Value)(A:Around)(outer:List Env)(s:Shared)(H:Hp)(E:XK):Cx where
 prog:=P
 w:=w
 K:=K
 mg:=mg
 base:=base
 A:=A.deeper (envOfC qual scope s.heap.objs.size f cd)
 N:=N
 s₀:=s
 H₀:=H
 env:=envOfC qual scope s.heap.objs.size f cd
 outer:=outer
 stack:=envOfC qual scope s.heap.objs.size f cd::outer
 ex:=[]
 calm:=true
 fn:=fun _=>true
 pn:=[]
 xe:=fun e s'=>wpAny (model P w) (A.deeper (envOfC qual scope s.heap.objs.size f cd)) (leaving (envOfC qual scope s.heap.objs.size f cd) e) (fun _ s''=>CX outer H s E e s'') (fun e' s''=>CX outer H s E e' s'') s'
theorem xQ{sc:Scope}{n:Nat}{x:Str}(h:sc.names.lookup x=some .cell):∃c,(cellsFrom n sc.names []).lookup x=some c:=by
 have q:=PySem.W.cellsFrom_some sc.names n [] (.inl h)
 exact Option.isSome_iff_exists.mp q
theorem CM{CX:su}{P:Program}{w:World}{K:PySem.W.Frag}{mg:Str→Option Value}{base:Heap}{N ps:List Str}{qual:Str}{scope:Scope}{f:Addr}{cd:Value}{A:Around}{outer:List Env}{s s1:Shared}{H:Hp}{E:XK}{us:List Value}{vs:List V}
 (S:aS N ps scope) (hd:A.handled=none) (e0:tw P w K mg base A outer s H) (hl:vs.length=ps.length) (r:Vals vs us)
 (x:InCallC s s.heap.objs.size (bindL (envOfC qual scope s.heap.objs.size f cd).kindOf (ps.zip us) fun _=>none) (cellsFrom (s.heap.objs.size+1) scope.names []) (bindC (envOfC qual scope s.heap.objs.size f cd).kindOf (ps.zip us) fun _=>none) s1):
 Inv (pK CX P w K mg base N qual scope f cd A outer s H E) [] (start N vs) H s1:=by
 have hpl:ps.length≤N.length:=by have:=congrArg List.length S.pre;rw[List.length_take]at this;omega
 obtain⟨h1,tk,rfl,hk⟩:=x.done
 have noA:∀b:Addr,b∉(pK CX P w K mg base N qual scope f cd A outer s H E).ex:=fun b z=>absurd (show b∈([]:List Addr)from z) (by simp)
 refine⟨⟨e0.mod,S.kind,rfl,rfl,Nat.le_refl _,fun y z c h1 h2=>?_,fun y hy=>?_,fun y c _ h=>?_,fun _=>hd,Around.frames_deeper e0.frames,.inr ⟨rfl,rfl⟩,fun b z=>absurd z (noA b),e0.bs,e0.qb,fun b _ _=>noA b,fun b z=>absurd z (noA b),e0.jV,e0.ue,e0.gt⟩,
  rfl,e0.bare,Un.kept hk,⟨_,x.toInCall.ns,fun i y v h1 h2 h3=>?_⟩,fun y c h=>⟨_,x.cell y c h⟩,e0.aI.fresh (Nat.le_refl _),fun y c h=>?_,fun p hp=>absurd (show p∈([]:List (Addr×Obj))from hp) (by simp),e0.aI.kept hk,?_⟩
 · exact name_of_addr x.apart (PySem.mem_of_lookup h1) (PySem.mem_of_lookup h2)
 · have hy:scope.names.lookup y=some .cell∨scope.names.lookup y=some .free:=hy
   rcases hy with hy|hy
   · exact xQ hy
   · exact absurd rfl (S.IH _ (PySem.mem_of_lookup hy))
 · exact Nat.le_of_lt (x.above y c (PySem.mem_of_lookup h))
 · have hi:i<vs.length:=by
    unfold start at h2
    by_cases hi:i<vs.length
    · exact hi
    · rw[List.getElem?_append_right (by simpa using hi)]at h2
      rw[List.getElem?_replicate]at h2
      split at h2<;>cases h2
   have ha:vs[i]?=some v:=by
    unfold start at h2
    rw[List.getElem?_append_left (by simpa using hi),List.getElem?_map]at h2
    cases e:vs[i]? with
    |none=>rw[e]at h2;cases h2
    |some a=>rw[e]at h2;cases h2;rfl
   obtain⟨u,hu,rv⟩:=r.get ha
   have hp:ps[i]?=some y:=by
    rw[←S.pre,List.getElem?_take_of_lt (by omega)];exact h1
   have ndP:ps.Nodup:=by rw[←S.pre];exact S.nd.sublist (List.take_sublist _ _)
   refine⟨u,rv,?_⟩
   rcases S.par y (List.mem_of_getElem? hp)with k|k
   · exact .inl ⟨k,vF ndP hp hu k⟩
   · obtain⟨c,e⟩:=xQ (n:=s.heap.objs.size+1) k
     refine .inr ⟨.inl k,c,e,?_⟩
     have q:=x.cell y c e
     rw[vQ ndP hp hu (by show scope.names.lookup y≠_;rw[k];decide)]at q
     exact q
 · exact e0.aI.fresh (Nat.le_of_lt (x.above y c (PySem.mem_of_lookup h)))
 · unfold start
   show _=N.length
   rw[List.length_append,List.length_map,List.length_replicate]
   omega
theorem E5{CX:su}{P:Program}{w:World}{K:PySem.W.Frag}{mg:Str→Option Value}{base:Heap}{k:Nat}{f:Addr}{name qual:Str}{params:Arguments}{body:List Stmt}{scope:Scope}{dV kV doc pm cdv ct oc:Value}{an od:Option Addr}
 {osl:Array (Option Value)} {N ps:List Str} {sp:Sp} (lk:K.lookup f=some ⟨oc,od,.func (PySem.W.fnOf name qual params body scope dV kV doc pm an cdv ct),osl⟩) (hcd:PySem.W.codeIn K cdv qual=true) (S:aS N ps scope)
 (len:∀vs H Q E,sp vs H Q E→vs.length=ps.length)
 (hbody:∀(A:Around) (outer:List Env) (s:Shared) (H:Hp) (vs:List V) (Q:VK) (E:XK),cT k (A.deeper (envOfC qual scope s.heap.objs.size f cdv))→sp vs H Q E→
   ∃t,gv (pK CX P w K mg base N qual scope f cdv A outer s H E) body t∧t {nx:=fun _ H'=>Q .aG H',rt:=Q} (start N vs) H):
 bo P w K mg base CX (k+1) f (PySem.W.fnOf name qual params body scope dV kV doc pm an cdv ct) ps sp:=by
 refine⟨len,fun A outer s H args us vs Q E hr e0 hb r hsp=>?_⟩
 have hl:=len _ _ _ _ hsp
 have KX:K.In s.heap:=e0.mod.CG.keeps fun b o e=>(e0.bs b o e).1
 have lim:s.heap.NoLimit:=e0.mod.nolimit.keeps fun b o e=>(e0.bs b o e).1
 have hkind:∀y∈ps.zip us,scope.names.lookup y.1=some .local∨(scope.names.lookup y.1=some .cell∧((cellsFrom (s.heap.objs.size+1) scope.names []).lookup y.1).isSome=true):=fun⟨n,v⟩ hy=>by
  rcases S.par n (List.of_mem_zip hy).1 with q|q
  · exact .inl q
  · exact .inr ⟨q,PySem.W.cellsFrom_some _ _ _ (.inl q)⟩
 refine codeAny_call_function hr.depth (KX _ _ lk) rfl S.co S.gen rfl (PySem.W.codeRec_of KX hcd) (hb _ _ _ _ ?_)
 refine wpAny_newFunctionEnv_cells S.kind hkind fun env he s1 x=>?_
 subst he
 refine⟨lim.keeps x.toInCall.keep,codeAny_func ?_⟩
 obtain⟨t,ht,hq⟩:=hbody A outer s H vs Q E (hr.deeper _) hsp
 have I:Inv (pK CX P w K mg base N qual scope f cdv A outer s H E) [] (start N vs) H s1:=CM S hr.hd e0 hl r x
 refine wpAny_mono (ht [] s1 (start N vs) H _ I hq) (fun fl s' hs=>?_) fun e s' hs=>hs
 have fin:∀ {σ':St} {H':Hp} {v:V} {u:Value},Inv (pK CX P w K mg base N qual scope f cdv A outer s H E) [] σ' H' s'→RelV v u→Q v H'→CE outer P w H s Q u s':=
  fun{σ' H' v u} J rv q=>⟨v,H',J.os,J.bare,J.base,J.aI,rv,q⟩
 cases fl with
 |ret u=>
  obtain⟨v,σ',H',J,rv,q⟩:=hs
  exact fin J rv q
 |next=>
  obtain⟨σ',H',J,q⟩:=hs
  exact fin (v:=V.aG) (u:=Value.none) J rfl q
 |brk=>
  obtain⟨_,_,_,q⟩:=hs
  exact False.elim q
 |cont=>
  obtain⟨_,_,_,q⟩:=hs
  exact False.elim q
end L2
namespace L2
open PySem PySem.Spec PyProof.Rows
section
variable {X:Cx}{x:Str}{p pos:Pos}{e:Expr}{es:List Expr}{t:TA}{id T:String}{r:List V→Hp→VK→Prop}
noncomputable def IF(r:List V→Hp→VK→Prop)(t:TA):TE:=fun σ H Q=>t σ H fun vs H1=>r vs H1 Q
theorem D7(hc:bY X (.builtin id) r)(hg:Gl X x)(hm:X.mg x=none)(hv:bootBuiltins x=some (.builtin id))(ha:PA X (e::es) t)(hn:x≠"__name__":=by decide)(hdb:(x==("__debug__":Str))=false:=by decide)
 (he:starEach (e::es) X.env=(false,eval e X.env)::starEach es X.env:=by rfl) (hpl:(backTo pos (starEach es X.env)).any (·.1)=false:=by rfl):PE X (.Call (.Name x p) (e::es) [] pos) (IF r t):=by
 intro pins s σ H Q I h
 refine wpAny_Call_Name_kw (ka I hg hm hv ?_ hn hdb)
 exact PyProof.Rows.callWith_builtin1 (bU (ha pos pins s σ H _ I h) fun us s1 ⟨vs,H1,I1,r1,q1⟩=>hc pins s1 σ H1 vs us Q I1 r1 q1) he hpl
theorem Ci(hc:bY X (.type T) r)(hg:Gl X x)(hm:X.mg x=none)(hv:bootBuiltins x=some (.type T))(ha:PA X (e::es) t)(hn:x≠"__name__":=by decide)(hdb:(x==("__debug__":Str))=false:=by decide)
 (he:starEach (e::es) X.env=(false,eval e X.env)::starEach es X.env:=by rfl) (hpl:(backTo pos (starEach es X.env)).any (·.1)=false:=by rfl):PE X (.Call (.Name x p) (e::es) [] pos) (IF r t):=by
 intro pins s σ H Q I h
 refine wpAny_Call_Name_kw (ka I hg hm hv ?_ hn hdb)
 exact PyProof.Rows.callWith_type1 (bU (ha pos pins s σ H _ I h) fun us s1 ⟨vs,H1,I1,r1,q1⟩=>hc pins s1 σ H1 vs us Q I1 r1 q1) he hpl
end
end L2
namespace HT
open PySem PyProof.Rows
section
open PySem.SeqAt
open PySem.AutoSeq1 (wpAny_loadPart')
open PySem.MeetsSeq PySem.MeetsSeq2 PySem.MeetsSeq3
end
section
variable {prog:Program}{w:World}{A:Around}{E:Value→Shared→Prop}{s:Shared}
theorem GC{t b:Addr}{vs ws:List Value}{Q:Value→Shared→Prop}(ht:IsTup s.heap t vs.toArray)(hb:IsTup s.heap b ws.toArray)(hv:vs≠ [])
 (h1:ws=[]→Q (.ref t) s) (h2:ws≠ []→Q (.ref s.heap.objs.size) {s with heap:=s.heap.push {cls:= .type "tuple",data:= .seq (vs++ws).toArray}})
 (hsz:vs.length+ws.length≤sizeLine):wpAny (model prog w) A (binaryOp .Add (.ref t) (.ref b)) Q E s:=by
 obtain⟨⟨cls,dd,data,sl⟩,ho,hc,n,hd⟩:=id ht
 obtain⟨⟨cls2,dd2,data2,sl2⟩,ho2,hc2,n2,hd2⟩:=id hb
 simp only at hc hd hc2 hd2
 subst hc hd hc2 hd2
 have e:vs.toArray++ws.toArray=(vs++ws).toArray:=by simp
 by_cases hw:ws=[]
 · exact concat_meets ⟨_,ho,rfl⟩ ⟨_,ho2,rfl⟩ noFill_tuple_add seq_tuple_add PySem.F.slot_tuple_add PySem.F.entry_tuple_add (PySem.F.args_tuple_add_2 _ _)
    (tuple_addW1 t b vs.toArray ws.toArray n n2 dd dd2 sl sl2 (by simpa using hv) (by simp[hw])) ⟨ho,ho2,h1 hw⟩
 · refine concat_meets ⟨_,ho,rfl⟩ ⟨_,ho2,rfl⟩ noFill_tuple_add seq_tuple_add PySem.F.slot_tuple_add PySem.F.entry_tuple_add (PySem.F.args_tuple_add_2 _ _)
    (tuple_addW2 t b vs.toArray ws.toArray n n2 dd dd2 sl sl2 (by simpa using hv) (by simpa using hw) (by rw[List.size_toArray,List.size_toArray];exact hsz)) ⟨ho,ho2,?_⟩
   rw[e]
   exact h2 hw
noncomputable def bK(n d:Nat):Option Int→Nat
 |none=>d
 |some v=>if v<0 then(v+(n:Int)).toNat else min v.toNat n
theorem x9(n d:Nat):bK n d none=d:=rfl
theorem zK(n d k:Nat):bK n d (some (k:Int))=min k n:=by
 show(if(k:Int)<0 then((k:Int)+(n:Int)).toNat else min (k:Int).toNat n)=min k n
 rw[if_neg (by omega),Int.toNat_natCast]
theorem HL(n d:Nat)(hd:d≤n)(o:Option Int):bK n d o≤n:=by
 cases o with
 |none=>exact hd
 |some v=>
  show(if v<0 then(v+(n:Int)).toNat else min v.toNat n)≤n
  by_cases hv:v<0
  · rw[if_pos hv];omega
  · rw[if_neg hv];exact Nat.min_le_right _ _
theorem zF(v:Int)(n d:Nat):(if v<0 then max (v+(n:Int)) 0 else min v (n:Int))=((bK n d (some v):Nat):Int):=by
 show(if v<0 then max (v+(n:Int)) 0 else min v (n:Int))=(((if v<0 then(v+(n:Int)).toNat else min v.toNat n):Nat):Int)
 by_cases hv:v<0
 · simp only[if_pos hv];omega
 · simp only[if_neg hv];omega
theorem AX(lo hi:Option Int)(n:Nat):Builtin.Slice.sliceAdjust lo hi 1 (n:Int)=(((bK n 0 lo:Nat):Int),((bK n n hi:Nat):Int)):=by
 have h1:¬((1:Int)<0):=by omega
 unfold Builtin.Slice.sliceAdjust
 simp only[h1,if_false]
 refine Prod.ext ?_ ?_
 · cases lo with
   |none=>rfl
   |some v=>exact zF v n 0
 · cases hi with
   |none=>rfl
   |some v=>exact zF v n n
theorem zZ(i j:Nat):Builtin.Slice.slicePlaces (i:Int) (j:Int) 1=j-i:=by
 unfold Builtin.Slice.slicePlaces
 have h1:(1:Int)>0:=by omega
 simp only[h1,if_true,Int.ediv_one]
 split<;>omega
theorem uM{v:Value}{o:Option Int}{Q:Option Int→Shared→Prop}(p:IsPart v o)(h:Q o s):wpAny (model prog w) A (Builtin.Slice.slicePartIndex v) Q E s:=by
 cases p with
 |none=>exact slicePart_none h
 |int i t=>exact slicePart_int h
theorem mP{sl:Addr}{vl vu:Value}{lo hi:Option Int}{n:Nat}{Q:Int×Int×Nat→Shared→Prop}(hs:s.heap.IsSliceOf sl vl vu .none)(pl:IsPart vl lo)(pu:IsPart vu hi)
 (h:Q (((bK n 0 lo:Nat):Int),1,bK n n hi-bK n 0 lo) s):wpAny (model prog w) A (Builtin.Slice.sliceApplied (.ref sl) (pure (n:Int))) Q E s:=by
 obtain⟨os,hos,hcs,hds⟩:=id hs
 unfold Builtin.Slice.sliceApplied Builtin.Slice.sliceFields
 refine wpAny_bind (wpAny_bind (wpAny_field hos hds (x:=vl) rfl (wpAny_bind (wpAny_field hos hds (x:=vu) rfl (wpAny_bind (wpAny_field hos hds (x:= .none) rfl (wpAny_pure ?_)))))))
 refine wpAny_bind (slicePart_none ?_)
 show wpAny _ _ (if((1:Int)==0)=true then _ else _) _ _ s
 rw[if_neg (by decide)]
 refine wpAny_bind (uM pl (wpAny_bind (uM pu (wpAny_bind (wpAny_pure ?_)))))
 show wpAny _ _ (match Builtin.Slice.sliceAdjust lo hi 1 (n:Int)with|(lo,hi)=>pure (lo,(1:Int),Builtin.Slice.slicePlaces lo hi 1)) _ _ s
 rw[AX lo hi n]
 show wpAny _ _ (pure (((bK n 0 lo:Nat):Int),(1:Int),Builtin.Slice.slicePlaces ((bK n 0 lo:Nat):Int) ((bK n n hi:Nat):Int) 1)) _ _ s
 rw[zZ]
 exact wpAny_pure h
theorem En(xs:Array Value)(i k:Nat):((List.range k).filterMap fun(m:Nat)=>xs[((i:Int)+(m:Int)*1).toNat]?).toArray=((xs.toList.drop i).take k).toArray:=by
 have e:(fun(m:Nat)=>xs[((i:Int)+(m:Int)*1).toNat]?)=fun m=>xs[i+m]?:=by
  funext m
  have:((i:Int)+(m:Int)*1).toNat=i+m:=by omega
  rw[this]
 rw[e]
 have:=pick_run xs i k
 rw[List.filterMap_map]at this
 have e2:((fun x=>xs[x]?)∘fun x=>i+x)=fun m=>xs[i+m]?:=rfl
 rw[e2]at this
 rw[this]
theorem rR{t sl:Addr}{items:Array Value}{vl vu:Value}{lo hi:Option Int}{Q:Value→Shared→Prop}(ht:IsTup s.heap t items)(hs:s.heap.IsSliceOf sl vl vu .none)(pl:IsPart vl lo)(pu:IsPart vu hi)
 (hw:¬(bK items.size 0 lo=0∧bK items.size items.size hi=items.size))
 (h:Q (.ref s.heap.objs.size) {s with heap:=s.heap.push {cls:= .type "tuple",data:= .seq ((items.toList.drop (bK items.size 0 lo)).take (bK items.size items.size hi-bK items.size 0 lo)).toArray}})
 (hsz:items.size≤sizeLine):wpAny (model prog w) A (getItem (.ref t) (.ref sl)) Q E s:=by
 have htake:sizeOk (.seq ((items.toList.drop (bK items.size 0 lo)).take (bK items.size items.size hi-bK items.size 0 lo)).toArray):=by
  show((items.toList.drop (bK items.size 0 lo)).take (bK items.size items.size hi-bK items.size 0 lo)).toArray.size≤sizeLine
  rw[List.size_toArray,List.length_take,List.length_drop,Array.length_toList]
  omega
 have hj:bK items.size items.size hi≤items.size:=HL _ _ (Nat.le_refl _) hi
 obtain⟨os,hos,hcs,hds⟩:=id hs
 have hTs:s.TypeIs (.ref sl) "slice":=⟨os,hos,hcs⟩
 unfold getItem
 try with_reducible refine wpAny_holding ?_
 first|refine wpAny_bind (wpAny_pure ?_)|skip
 refine wpAny_bind (wpAny_sequenceKey ht.typeIs (by decide) ?_)
 refine wpAny_bind (wpAny_callSpecial?_slot (name:=Str.ofString "__getitem__") ht.typeIs PyProof.Rows.slot_tuple_getitem
  (wpAny_call_entry PyProof.Rows.slot_tuple_getitem ht.typeIs entry_tuple_getitem ?_ (args_tuple_getitem _ _)))
 show wpAny _ _ (Builtin.Tuple.tupleItemsOf (.ref t) >>= _) _ _ s
 refine wpAny_bind (tupleItemsOf_ ht ?_)
 refine wpAny_bind (wpAny_typeOf hTs ?_)
 rw[if_pos (by decide)]
 refine wpAny_bind (mP hs pl pu ?_)
 have hno:¬((((bK items.size 0 lo:Nat):Int)==0&&(1:Int)==1&&(bK items.size items.size hi-bK items.size 0 lo)==items.size)=true):=by
  intro q
  rw[Bool.and_eq_true,Bool.and_eq_true]at q
  have q1:((bK items.size 0 lo:Nat):Int)=0:=eq_of_beq q.1.1
  have q2:bK items.size items.size hi-bK items.size 0 lo=items.size:=eq_of_beq q.2
  exact hw ⟨by omega,by omega⟩
 show wpAny _ _ (if(((bK items.size 0 lo:Nat):Int)==0&&(1:Int)==1&&(bK items.size items.size hi-bK items.size 0 lo)==items.size)=true then _ else _) _ _ s
 rw[if_neg hno,En]
 first
  |exact wpAny_bind (m:=Builtin.Tuple.tupleExact _) (wpAny_newObj_type (wpAny_pure ⟨_,rfl,wpAny_pure h⟩) htake)
  |exact wpAny_bind (m:=Builtin.Tuple.tupleExact _) (wpAny_newObj_type (wpAny_bind (wpAny_pure (wpAny_pure ⟨_,rfl,wpAny_pure h⟩))) htake)
  |exact wpAny_bind (wpAny_bind (m:=Builtin.Tuple.tupleExact _) (wpAny_newObj_type (wpAny_pure (wpAny_pure ⟨_,rfl,wpAny_pure h⟩)) htake))
  |exact wpAny_bind (wpAny_bind (m:=Builtin.Tuple.tupleExact _) (wpAny_newObj_type (wpAny_pure ⟨_,rfl,wpAny_pure h⟩) htake))
end
end HT
namespace L2
open PySem PySem.Spec PyProof.Rows
noncomputable abbrev TO:=St→Hp→(Option Int→Hp→Prop)→Prop
noncomputable def PO(X:Cx)(e:Option Expr)(t:TO):Prop:=
 ∀(pins:List (Addr×Obj)) (s:Shared) (σ:St) (H:Hp) (Q:Option Int→Hp→Prop),Inv X pins σ H s→t σ H Q→
  wpAny (model X.prog X.w) X.A (evalPart e X.env) (fun u s'=>∃o H',Inv X pins σ H' s'∧IsPart u o∧Q o H') X.xe s
noncomputable def Gk:TO:=fun _ H Q=>Q none H
noncomputable def Lf(t:TE):TO:=fun σ H Q=>t σ H fun x H1=>∃i,x= .int i∧Q (some i) H1
section
variable {X:Cx}{e:Expr}{te:TE}{lo hi:Option Expr}{tl th:TO}{pos p2:Pos}
theorem GH:PO X none Gk:=by
 intro pins s σ H Q I h
 rw[evalPart_none]
 exact wpAny_pure ⟨none,H,I,.none,h⟩
theorem Hb(h:PE X e te):PO X (some e) (Lf te):=by
 intro pins s σ H Q I hw
 rw[evalPart_some]
 refine bU (h pins s σ H _ I hw) fun u s1 ⟨x,H1,I1,r1,q1⟩=>?_
 obtain⟨i,rfl,q⟩:=q1
 obtain⟨t,rfl⟩:=r1
 exact⟨some i,H1,I1,.int i t,q⟩
noncomputable def C1(X:Cx)(r:V→Option Int→Option Int→Hp→VK→Prop):Prop:=
 ∀(pins:List (Addr×Obj)) (s:Shared) (σ:St) (H:Hp) (x:V) (v vl vu:Value) (lo hi:Option Int) (sl:Addr) (Q:VK),Inv X pins σ H s→RelV x v→s.heap.IsSliceOf sl vl vu .none→IsPart vl lo→IsPart vu hi→r x lo hi H Q→
  ∃T id,typeLookup (.type T) "__getitem__"=pure (some (.builtin id))∧s.TypeIs v T∧wpAny (model X.prog X.w) X.A (getItem v (.ref sl)) (EP X pins σ Q) X.xe s
noncomputable def Nt(r:V→Option Int→Option Int→Hp→VK→Prop)(te:TE)(tl th:TO):TE:=fun σ H Q=>te σ H fun x H1=>tl σ H1 fun l H2=>th σ H2 fun u H3=>r x l u H3 Q
theorem EF{r:V→Option Int→Option Int→Hp→VK→Prop}(hr:C1 X r)(he:PE X e te)(hl:PO X lo tl)(hu:PO X hi th):PE X (.Subscript e (.Slice lo hi none p2) pos) (Nt r te tl th):=by
 intro pins s σ H Q I h
 refine Subscript_ (bU (he pins s σ H _ I h) fun v s1 ⟨x,H1,I1,r1,q1⟩=>?_)
 refine wpAny_Slice (bU (hl pins s1 σ H1 _ I1 q1) fun vl s2 ⟨l,H2,I2,pl,q2⟩=>bU (hu pins s2 σ H2 _ I2 q2) fun vu s3 ⟨u,H3,I3,pu,q3⟩=>?_)
 rw[evalPart_none]
 refine wpAny_pure ?_
 have I4:Inv X pins σ H3 {s3 with heap:=s3.heap.push {cls:= .type "slice",data:= .fields #[vl,vu,.none]}}:=I3.kept (t':=s3.toks) fun b ob q=>Heap.get?_push_of_some _ q
 obtain⟨T,id,hT,ht,hg⟩:=hr pins {s3 with heap:=s3.heap.push {cls:= .type "slice",data:= .fields #[vl,vu,.none]}} σ H3 x v vl vu l u s3.heap.objs.size Q I4 r1 (Heap.IsSliceOf.new ..) pl pu q3
 show wpAny (model X.prog X.w) X.A (subscriptTail e (.Slice lo hi none p2) v (.ref s3.heap.objs.size)) (EP X pins σ Q) X.xe {s3 with heap:=s3.heap.push {cls:= .type "slice",data:= .fields #[vl,vu,.none]}}
 exact tail_any (ops:=[.ref s3.heap.objs.size,v]) ht hT hg (by with_unfolding_all rfl)
noncomputable def pf(xs:List V)(lo hi:Option Int):List V:=(xs.drop (HT.bK xs.length 0 lo)).take (HT.bK xs.length xs.length hi-HT.bK xs.length 0 lo)
theorem rZ(xs:List V)(lo hi:Option Int):(pf xs lo hi).length≤xs.length:=by
 unfold pf
 rw[List.length_take,List.length_drop]
 omega
noncomputable def M6(K:PySem.W.Frag):V→Option Int→Option Int→Hp→VK→Prop:=fun x lo hi H Q=>∃a xs,x= .ref a∧iE K H a xs∧
 ¬(HT.bK xs.length 0 lo=0∧HT.bK xs.length xs.length hi=xs.length)∧∀p,H p=none→Q (.ref p) (upd H p (.tup (pf xs lo hi)))
theorem HM:C1 X (M6 X.K):=by
 intro pins s σ H x v vl vu lo hi sl Q I rx hs pl pu h
 obtain⟨a,xs,rfl,hx,hw,q⟩:=h
 cases rx
 obtain⟨aq,r,ht,hz⟩:=I.tuple hx
 have hlen:aq.toArray.size=xs.length:=by rw[List.size_toArray];exact r.length.symm
 refine⟨"tuple",_,PyProof.Rows.slot_tuple_getitem.lookup,ht.typeIs,?_⟩
 refine HT.rR ht hs pl pu (by rw[hlen];exact hw) ?_ (by rw[hlen];exact hz)
 rw[hlen]
 refine⟨.ref s.heap.objs.size,_,I.laid (t':=s.toks) (o:= .tup (pf xs lo hi)) (fun b ob q=>Heap.get?_push_of_some _ q) (Nat.le_refl _) ?_,rfl,q _ (I.aI.fresh (Nat.le_refl _))⟩
 exact⟨Nat.le_trans (rZ xs lo hi) hz,_,(r.drop (HT.bK xs.length 0 lo)).take (HT.bK xs.length xs.length hi-HT.bK xs.length 0 lo),IsTup.new _ _⟩
noncomputable def KC(K:PySem.W.Frag):R2:=fun x y H Q=>∃a b xs ys,x= .ref a∧y= .ref b∧iE K H a xs∧iE K H b ys∧xs≠ []∧xs.length+ys.length≤sizeLine∧
 (ys=[]→Q (.ref a) H)∧(ys≠ []→∀p,H p=none→Q (.ref p) (upd H p (.tup (xs++ys))))
theorem Vals.rL{xs:List V}{us:List Value}(r:Vals xs us):us=[]↔xs=[]:=by
 cases r with
 |nil=>simp
 |cons _ _=>simp
theorem Gz:cm X (binaryOp .Add) (KC X.K):=by
 intro pins s σ H x y v u Q I rx ry h
 obtain⟨a,b,xs,ys,rfl,rfl,ha,hb,hx,hz,q1,q2⟩:=h
 cases rx
 cases ry
 obtain⟨aq,r1,p1,_⟩:=I.tuple ha
 obtain⟨its2,r2,p2,_⟩:=I.tuple hb
 refine HT.GC p1 p2 (fun z=>hx (r1.rL.mp z)) (fun z=>⟨.ref a,H,I,rfl,q1 (r2.rL.mp z)⟩) (fun z=>?_) (by rw[←r1.length,←r2.length];exact hz)
 refine⟨.ref s.heap.objs.size,_,I.laid (t':=s.toks) (o:= .tup (xs++ys)) (fun b ob q=>Heap.get?_push_of_some _ q) (Nat.le_refl _) ?_,rfl,q2 (fun w=>z (r2.rL.mpr w)) _ (I.aI.fresh (Nat.le_refl _))⟩
 exact⟨by rw[List.length_append];exact hz,_,r1.append r2,IsTup.new _ _⟩
end
end L2
namespace L2
open PySem PySem.Spec PyProof.Rows
noncomputable def kb(n:Nat)(i:Int):Option Nat:=if 0≤i then(if i<n then some i.toNat else none)else if-(n:Int)≤i then some (i+n).toNat else none
noncomputable def dM{α:Type}(xs:List α)(i:Int):Option α:=(kb xs.length i).bind fun j=>xs[j]?
theorem zW{n:Nat}{i:Int}{j:Nat}(h:kb n i=some j):seqIndex? i n=some j∧j<n∧ -(n:Int)≤i∧i<n:=by
 unfold kb at h
 by_cases h0:0≤i
 · rw[if_pos h0]at h
   by_cases h1:i<n
   · rw[if_pos h1]at h
     have e:i.toNat=j:=Option.some.inj h
     exact⟨by rw[seqIndex_of h0 h1,e],by omega,by omega,h1⟩
   · rw[if_neg h1]at h;cases h
 · rw[if_neg h0]at h
   by_cases h1: -(n:Int)≤i
   · rw[if_pos h1]at h
     have e:(i+n).toNat=j:=Option.some.inj h
     exact⟨by rw[seqIndex_neg (by omega) h1,e],by omega,h1,by omega⟩
   · rw[if_neg h1]at h;cases h
theorem uT{α:Type}{xs:List α}{i:Int}{v:α}(h:dM xs i=some v):∃j,seqIndex? i xs.length=some j∧xs[j]?=some v∧j<xs.length∧ -(xs.length:Int)≤i∧i<xs.length:=by
 unfold dM at h
 cases e:kb xs.length i with
 |none=>rw[e]at h;cases h
 |some j=>
  rw[e]at h
  obtain⟨h1,h2,h3,h4⟩:=zW e
  exact⟨j,h1,h,h2,h3,h4⟩
theorem kj{α:Type}{xs:List α}{j:Nat}{v:α}(h:xs[j]?=some v):dM xs (j:Int)=some v:=by
 have hj:j<xs.length:=(List.getElem?_eq_some_iff.mp h).1
 have e:kb xs.length (j:Int)=some j:=by
  unfold kb
  rw[if_pos (by omega),if_pos (by omega)];simp
 unfold dM;rw[e];exact h
noncomputable def rk(b:Expr):Prop:=∀o i,subscripted b false o i=operate [o,i] (getItem o i)
noncomputable def Fo(X:Cx)(r:R2):Prop:=
 ∀(value slice:Expr) (pins:List (Addr×Obj)) (s:Shared) (σ:St) (H:Hp) (x y:V) (v u:Value) (Q:VK),Inv X pins σ H s→RelV x v→RelV y u→r x y H Q→
  subscripted slice false v u=operate [v,u] (getItem v u)→wpAny (model X.prog X.w) X.A (subscriptTail value slice v u) (EP X pins σ Q) X.xe s
noncomputable def Mr(X:Cx)(id:String)(r:V→List V→Hp→VK→Prop):Prop:=
 ∀(pins:List (Addr×Obj)) (s:Shared) (σ:St) (H:Hp) (x:V) (xs:List V) (v:Value) (us:List Value) (Q:VK),Inv X pins σ H s→RelV x v→Vals xs us→r x xs H Q→
  wpAny (model X.prog X.w) X.A (call (.builtin id) (v::us)) (EP X pins σ Q) X.xe s
section
variable {X:Cx}{a b:Expr}{ta tb:TE}{pos:Pos}
theorem Kw{r:R2}(hr:Fo X r)(ha:PE X a ta)(hb:PE X b tb)(hs:rk b):PE X (.Subscript a b pos) (Bc r ta tb):=by
 intro pins s σ H Q I h
 exact Subscript_ (DC ha hb I h fun v u s2 x y H2 I2 rx ry q=>hr a b pins s2 σ H2 x y v u Q I2 rx ry q (hs _ _))
noncomputable def Nd(K:PySem.W.Frag):R2:=fun x y H Q=>∃p xs i v,x= .ref p∧y= .int i∧k_ K H p xs∧dM xs i=some v∧Q v H
noncomputable def ME(K:PySem.W.Frag):R2:=fun x y H Q=>∃p xs i v,x= .ref p∧y= .int i∧iE K H p xs∧dM xs i=some v∧Q v H
theorem zk:Fo X (Nd X.K):=by
 intro value slice pins s σ H x y v u Q I rx ry h hs
 obtain⟨p,xs,i,z,rfl,rfl,hq,he,q⟩:=h
 cases rx
 obtain⟨t,rfl⟩:=ry
 obtain⟨aq,r,pl,hz⟩:=I.list hq
 obtain⟨j,h1,h2,h3,h4,h5⟩:=uT he
 obtain⟨w,ew,rw'⟩:=r.get h2
 have hl:=r.length
 have hn:=qd
 have fin:EP X pins σ Q w s:=⟨z,H,I,rw',q⟩
 by_cases h0:0≤i
 · have hj:i.toNat=j:=by
    rw[seqIndex_of h0 h5]at h1
    exact Option.some.inj h1
   exact item_listR pl.isList h0 (by omega) (by rw[hj];simpa using ew) fin hs
 · have hj:(i+(aq.toArray.size:Int)).toNat=j:=by
    rw[seqIndex_neg (by omega) h4]at h1
    rw[List.size_toArray,←hl]
    exact Option.some.inj h1
   exact subscriptTail_builtinR (x:=w) pl.isList.typeIs slot_list_getitem.lookup
    (wpAny_getItem_list_neg (Q:=fun r s'=>r=w∧EP X pins σ Q r s') pl.isList (by omega) (by rw[List.size_toArray]<;>omega) (by omega) (by rw[hj];simpa using ew) ⟨rfl,fin⟩) hs
theorem II:Fo X (ME X.K):=by
 intro value slice pins s σ H x y v u Q I rx ry h hs
 obtain⟨p,xs,i,z,rfl,rfl,hq,he,q⟩:=h
 cases rx
 obtain⟨t,rfl⟩:=ry
 obtain⟨aq,r,pl,hz⟩:=I.tuple hq
 obtain⟨j,h1,h2,h3,h4,h5⟩:=uT he
 obtain⟨w,ew,rw'⟩:=r.get h2
 have hl:=r.length
 have hn:=qd
 have fin:EP X pins σ Q w s:=⟨z,H,I,rw',q⟩
 exact subscriptTail_builtinR (x:=w) pl.typeIs slot_tuple_getitem.lookup
  (getItem_tuple (j:=j) (Q:=fun r s'=>r=w∧EP X pins σ Q r s') pl (by omega) (by omega) (by rw[List.size_toArray,←hl];exact h1) (by simpa using ew) ⟨rfl,fin⟩) hs
theorem AL(aq:List Value)(n j:Nat)(u:Value):Obj.mapSeq (·.setIfInBounds j u) {cls:= .type "list",data:= .seq aq.toArray n}= {cls:= .type "list",data:= .seq (aq.set j u).toArray n}:=by
 simp[Obj.mapSeq]
theorem Inv.lst{pins:List (Addr×Obj)}{σ:St}{H:Hp}{s:Shared}{p:Addr}{xs:List V}(I:Inv X pins σ H s)(h:H p=some (.lst xs)):
 ∃(aq:List Value) (n:Nat),Vals xs aq∧s.heap.get? p=some {cls:= .type "list",data:= .seq aq.toArray n}∧xs.length≤sizeLine:=by
 obtain⟨z,aq,n,r,e⟩:=I.aI p _ h
 exact⟨aq,n,r,e,z⟩
theorem Inv.Jk{pins:List (Addr×Obj)}{σ:St}{H:Hp}{s:Shared}{p:Addr}{xs ys:List V}{aq its':List Value}{n n':Nat}{f:Obj→Obj}(I:Inv X pins σ H s)(h:H p=some (.lst xs))
 (ho:s.heap.get? p=some {cls:= .type "list",data:= .seq aq.toArray n}) (hf:f {cls:= .type "list",data:= .seq aq.toArray n}= {cls:= .type "list",data:= .seq its'.toArray n'}) (r:Vals ys its') (hz:ys.length≤sizeLine) (t:Nat):
 Inv X pins σ (upd H p (.lst ys)) {s with heap:=s.heap.update p f,toks:=t}:=by
 have e:(s.heap.update p f).get? p=some {cls:= .type "list",data:= .seq its'.toArray n'}:=by
  rw[Heap.get?_update_self f ho (by rw[hf]<;>rfl),hf]
 refine I.write (x:=p) (e:=p) (by rw[h];trivial) (.inl rfl) (fun b u hb q=>(Heap.get?_update_other _ _ (Ne.symm hb)).trans q) ⟨_,e⟩ ?_
 exact⟨hz,its',n',r,e⟩
noncomputable def wq:V→V→V→Hp→(Hp→Prop)→Prop:=fun o i v H Q=>∃p xs k j,o= .ref p∧i= .int k∧H p=some (.lst xs)∧kb xs.length k=some j∧Q (upd H p (.lst (xs.set j v)))
theorem set_list:Jf X wq:=by
 intro pins s σ H o i v ov iv u Q I ro ri rv h
 obtain⟨p,xs,k,j,rfl,rfl,hp,hj,q⟩:=h
 cases ro
 obtain⟨t,rfl⟩:=ri
 obtain⟨aq,n,r,ho,hz⟩:=I.lst hp
 obtain⟨h1,h2,h3,h4⟩:=zW hj
 have hl:=r.length
 have hn:=qd
 have I':Inv X pins σ (upd H p (.lst (xs.set j v))) {s with heap:=s.heap.update p (Obj.mapSeq (·.setIfInBounds j u))}:=
  I.Jk hp ho (AL aq n j u) (r.set rv j) (by rw[List.length_set];exact hz) s.toks
 by_cases h0:0≤k
 · have hk:k.toNat=j:=by
    rw[seqIndex_of h0 h4]at h1
    exact Option.some.inj h1
   exact PySem.W.ki_setAt ho h0 (by omega) (by rw[List.size_toArray,←hl];exact h4) (by rw[hk];exact⟨_,I',q⟩)
 · have hk:(k+(aq.toArray.size:Int)).toNat=j:=by
    rw[seqIndex_neg (by omega) h3]at h1
    rw[List.size_toArray,←hl]
    exact Option.some.inj h1
   exact PySem.W.ki_setBack ho (by omega) (by rw[List.size_toArray,←hl];exact h3) (by omega) (by rw[hk];exact⟨_,I',q⟩)
theorem wL(lo hi:Option Int)(n:Nat):(sliceBounds lo hi none n).1=((HT.bK n 0 lo:Nat):Int)∧(sliceBounds lo hi none n).2.1=((HT.bK n n hi:Nat):Int)∧(sliceBounds lo hi none n).2.2=1:=by
 refine⟨?_,?_,rfl⟩
 · cases lo with
   |none=>simp[sliceBounds,HT.bK]
   |some i=>
    simp only[sliceBounds,HT.bK,Option.getD_none,show(1:Int)>0 by decide,if_true]
    by_cases h:i<0
    · simp only[h,if_true]<;>omega
    · simp only[h,if_false]<;>omega
 · cases hi with
   |none=>simp[sliceBounds,HT.bK]
   |some i=>
    simp only[sliceBounds,HT.bK,Option.getD_none,show(1:Int)>0 by decide,if_true]
    by_cases h:i<0
    · simp only[h,if_true]<;>omega
    · simp only[h,if_false]<;>omega
theorem vZ(aq:List Value)(lo hi:Option Int):slicePick aq.toArray lo hi none=((aq.drop (HT.bK aq.length 0 lo)).take (HT.bK aq.length aq.length hi-HT.bK aq.length 0 lo)).toArray:=by
 obtain⟨h1,h2,h3⟩:=wL lo hi aq.toArray.size
 unfold slicePick
 rw[h1,h2,h3]
 simp only[sliceRange_one,pick_run,List.size_toArray]<;>rfl
noncomputable def M4(K:PySem.W.Frag):V→Option Int→Option Int→Hp→VK→Prop:=fun x lo hi H Q=>∃a xs,x= .ref a∧k_ K H a xs∧∀p,H p=none→Q (.ref p) (upd H p (.lst (pf xs lo hi)))
theorem zm:C1 X (M4 X.K):=by
 intro pins s σ H x v vl vu lo hi sl Q I rx hs pl pu h
 obtain⟨a,xs,rfl,hx,q⟩:=h
 cases rx
 obtain⟨aq,r,ht,hz⟩:=I.list hx
 have hlen:=r.length
 refine⟨"list",_,slot_list_getitem.lookup,ht.isList.typeIs,?_⟩
 refine wpAny_getItem_list_slice ht.isList hs pl pu .none (by simp) ?_ (by rw[List.size_toArray]<;>omega)
 rw[vZ,←hlen]
 refine⟨.ref s.heap.objs.size,_,I.laid (t':=s.toks) (o:= .lst (pf xs lo hi)) (fun b ob q=>Heap.get?_push_of_some _ q) (Nat.le_refl _) ?_,rfl,q _ (I.aI.fresh (Nat.le_refl _))⟩
 exact⟨Nat.le_trans (rZ xs lo hi) hz,_,0,(r.drop (HT.bK xs.length 0 lo)).take (HT.bK xs.length xs.length hi-HT.bK xs.length 0 lo),Heap.get?_push_size _ rfl⟩
theorem xR:bY X (.builtin "len") (fun xs H Q=>∃p ys,xs=[.ref p]∧(k_ X.K H p ys∨iE X.K H p ys)∧Q (.int ys.length) H):=by
 intro pins s σ H xs us Q I r h
 obtain⟨p,ys,rfl,hq,q⟩:=h
 obtain⟨u,rfl,rx⟩:=vals1 r
 cases rx
 have hn:=qd
 rcases hq with hq|hq
 · obtain⟨aq,r',pl,hz⟩:=I.list hq
   have hlen:=r'.length
   exact Calls.call_len_list pl.isList (by simp only[List.size_toArray]<;>omega) ⟨.int ys.length,H,I.tok _,⟨s.toks+1,by rw[List.size_toArray,hlen]⟩,q⟩
 · obtain⟨aq,r',pl,hz⟩:=I.tuple hq
   have hlen:=r'.length
   exact len_tuple pl (by simp only[List.size_toArray]<;>omega) ⟨.int ys.length,H,I.tok _,⟨s.toks+1,by rw[List.size_toArray,hlen]⟩,q⟩
theorem yO:bY X (.builtin "len") (fun xs H Q=>∃z,xs=[.str z]∧z.length≤sizeLine∧Q (.int z.length) H):=by
 intro pins s σ H xs us Q I r h
 obtain⟨z,rfl,hz,q⟩:=h
 obtain⟨u,rfl,t,rfl⟩:=vals1 r
 have hn:=qd
 exact len_str (by omega) ⟨.int z.length,H,I.tok _,⟨_,rfl⟩,q⟩
theorem qY:bY X (.type "list") (fun xs H Q=>∃p ys,xs=[.ref p]∧(k_ X.K H p ys∨iE X.K H p ys)∧∀l,H l=none→Q (.ref l) (upd H l (.lst ys))):=by
 intro pins s σ H xs us Q I r h
 obtain⟨p,ys,rfl,hq,q⟩:=h
 obtain⟨u,rfl,rx⟩:=vals1 r
 cases rx
 have fin:∀(aq:List Value),Vals ys aq→ys.length≤sizeLine→∀(h':Heap) (c':Nat),(∀b o',s.heap.get? b=some o'→h'.get? b=some o')→
  h'.get? s.heap.objs.size=some {cls:= .type "list",dict:=none,data:= .seq aq.toArray c',slots:= #[]}→EP X pins σ Q (.ref s.heap.objs.size) {s with heap:=h'}:=fun aq r' hz h' c' kp e=>
  ⟨.ref s.heap.objs.size,_,I.laid (t':=s.toks) kp (Nat.le_refl _) (show dj X.prog X.w _ h' _ (.lst ys)from⟨hz,aq,c',r',e⟩),rfl,q _ (I.aI.fresh (Nat.le_refl _))⟩
 rcases hq with hq|hq
 · obtain⟨aq,r',pl,hz⟩:=I.list hq
   have hlen:=r'.length
   obtain⟨o,ho,hc,n,hd⟩:=pl.isList
   exact call_list_seq p (.inl rfl) ho hc hd (fun h' c' kp e=>fin aq r' hz h' c' kp e) (by simp only[List.size_toArray]<;>omega)
 · obtain⟨aq,r',pl,hz⟩:=I.tuple hq
   have hlen:=r'.length
   obtain⟨o,ho,hc,n,hd⟩:=pl
   exact call_list_seq p (.inr rfl) ho hc hd (fun h' c' kp e=>fin aq r' hz h' c' kp e) (by simp only[List.size_toArray]<;>omega)
theorem vW:bY X (.type "tuple") (fun xs H Q=>∃p ys,xs=[.ref p]∧((k_ X.K H p ys∧∀l,H l=none→Q (.ref l) (upd H l (.tup ys)))∨(iE X.K H p ys∧Q (.ref p) H))):=by
 intro pins s σ H xs us Q I r h
 obtain⟨p,ys,rfl,h⟩:=h
 obtain⟨u,rfl,rx⟩:=vals1 r
 cases rx
 rcases h with⟨hq,q⟩|⟨hq,q⟩
 · obtain⟨aq,r',pl,hz⟩:=I.list hq
   have hlen:=r'.length
   refine call_tuple_list pl.isList (fun h' kp=>?_) (by simp only[List.size_toArray]<;>omega)
   have I1:Inv X pins σ H {s with heap:=h'}:=I.kept (t':=s.toks) kp
   have I2:Inv X pins σ (upd H h'.objs.size (.tup ys)) {s with heap:=h'.push {cls:= .type "tuple",data:= .seq aq.toArray}}:=
    I1.laid (t':=s.toks) (fun b o e=>Heap.get?_push_of_some _ e) (Nat.le_refl _) (show dj X.prog X.w _ _ _ (.tup ys)from⟨hz,aq,r',IsTup.new _ _⟩)
   exact⟨.ref h'.objs.size,_,I2,rfl,q _ (I1.aI.fresh (Nat.le_refl _))⟩
 · obtain⟨aq,r',pl,hz⟩:=I.tuple hq
   exact call_tuple_same pl ⟨.ref p,H,I,rfl,q⟩
noncomputable def Mz(K:PySem.W.Frag)(T:String)(x:V)(H:Hp):Prop:=match x with
 | .str _=>T="str"
 | .int _=>T="int"
 | .ref p=>(T="list"∧∃xs,k_ K H p xs)∨(T="tuple"∧∃o,K.lookup p=some o∧o.cls= .type "tuple"∧o.dict=none)∨
    (T="dict"∧((∃kvs,H p=some (.dK kvs))∨∃kvs,H p=some (.dT kvs)))∨(T="set"∧∃S n,H p=some (.set S n))
 |_=>False
theorem J5{pins:List (Addr×Obj)}{σ:St}{H:Hp}{s:Shared}{T:String}{x:V}{v:Value}(I:Inv X pins σ H s)(r:RelV x v)(ty:Mz X.K T x H):
 s.TypeIs v T∧∀a,v= .ref a→∃ob,s.heap.get? a=some ob∧ob.dict=none:=by
 cases x with
 |str z=>
  obtain⟨t,rfl⟩:=r
  cases (show T="str" from ty)
  exact⟨typeIs_str s z t,fun _ e=>nomatch e⟩
 |int i=>
  obtain⟨t,rfl⟩:=r
  cases (show T="int" from ty)
  exact⟨typeIs_int s i t,fun _ e=>nomatch e⟩
 |ref p=>
  cases r
  rcases ty with⟨rfl,xs,hq⟩|⟨rfl,o,hk,hc,hd⟩|⟨rfl,hk⟩|⟨rfl,S,n,hk⟩
  · obtain⟨aq,_,pl,_⟩:=I.list hq
    refine⟨pl.isList.typeIs,fun a e=>?_⟩
    cases e
    obtain⟨o,n,e,c,hd,_⟩:=pl
    exact⟨o,e,hd⟩
  · refine⟨⟨o,I.gw p o hk,hc⟩,fun a e=>?_⟩
    cases e
    exact⟨o,I.gw _ o hk,hd⟩
  · have z:∃o,s.heap.get? p=some o∧o.ExactDict:=by
     rcases hk with⟨kvs,hk⟩|⟨kvs,hk⟩
     · obtain⟨_,_,_,_,o,_,_,e,ex,_⟩:=I.aI p _ hk
       exact⟨o,e,ex⟩
     · obtain⟨_,_,_,_,o,_,_,e,ex,_⟩:=I.aI p _ hk
       exact⟨o,e,ex⟩
    obtain⟨o,e,ex⟩:=z
    refine⟨⟨o,e,ex.1⟩,fun a e2=>?_⟩
    cases e2
    exact⟨o,e,ex.2.1⟩
  · obtain⟨o,_,_,_,e,ex,_⟩:=I.aI p _ hk
    refine⟨⟨o,e,ex.1⟩,fun a e2=>?_⟩
    cases e2
    exact⟨o,e,ex.2.1⟩
 |_=>exact False.elim ty
noncomputable def L_(K:PySem.W.Frag)(T:String)(r:V→List V→Hp→VK→Prop)(to:TE)(t:TA):TE:=fun σ H Q=>to σ H fun x H1=>Mz K T x H1∧t σ H1 fun xs H2=>r x xs H2 Q
variable {o e:Expr}{es:List Expr}{to:TE}{t:TA}{name:Str}{apos cpos:Pos}{T id:String}{r:V→List V→Hp→VK→Prop}
theorem Lw(pa:PlainAttrs T)(slot:Slot T name id)(hty:typeOf (.builtin id)=pure (.type "method_descriptor"))(hm:Mr X id r)(ho:PE X o to)(ha:PA X (e::es) t)
 (hbase:attributeBase o name X.env (eval o X.env)=eval o X.env:=by rfl)
 (hfew:((backTo cpos (starEach (e::es) X.env)).all (fun x=> !x.1)&&(backToKw cpos (keywordEach [] X.env)).all (fun x=>x.1.isSome)
   &&decide ((e::es).length+([]:List Keyword).length+(if([]:List Keyword).isEmpty then 0 else 1)<30))=true:=by rfl)
 (hline:(apos.endLine==cpos.line)=true:=by rfl) (hs:starEach (e::es) X.env=(false,eval e X.env)::starEach es X.env:=by rfl) (hplain:(backTo cpos (starEach es X.env)).any (·.1)=false:=by rfl):
 PE X (.Call (.Attribute o name apos) (e::es) [] cpos) (L_ X.K T r to t):=by
 intro pins s σ H Q I h
 refine wpAny_Call_method_late hbase hfew hline rfl (bU (ho pins s σ H _ I h) fun v s1 ⟨x,H1,I1,r1,ty,q1⟩=>?_)
 obtain⟨h1,h2⟩:=J5 I1 r1 ty
 refine⟨T,id,pa,slot,hty,h1,h2,?_⟩
 have hA:=ha cpos pins s1 σ H1 _ I1 q1
 rw[hs]at hA⊢
 refine Calls.callWith_builtin (by show(false||(backTo cpos (starEach es X.env)).any (·.1))=false;rw[hplain]<;>rfl) (Calls.evalArgs_plain ?_)
 exact bU hA fun us s2 ⟨vs,H2,I2,r2,q2⟩=>hm pins s2 σ H2 x vs v us Q I2 r1 r2 q2
/-xs.append(e),list.index on a module's tuple .. are Mr facts of 06m-/
end
end L2
namespace L2
open PySem PySem.Spec PyProof.Rows
noncomputable def NI(X:Cx)(id:String)(r:V→List V→Hp→VK→Prop):Prop:=
 ∀(pins:List (Addr×Obj)) (s:Shared) (σ:St) (H:Hp) (x:V) (xs:List V) (v:Value) (us:List Value) (Q:VK),Inv X pins σ H s→RelV x v→Vals xs us→r x xs H Q→
  wpAny (model X.prog X.w) X.A (call (.builtin id) (v::us)) (EP X pins σ Q) X.xe s
theorem Vals.one:∀ {x:V} {us:List Value},Vals [x] us→∃u,us=[u]∧RelV x u
 |_,_,.cons r .nil=>⟨_,rfl,r⟩
theorem Vals.rep{xs:List V}{us:List Value}(h:Vals xs us):∀k:Nat,Vals (List.replicate k xs).flatten (List.replicate k us).flatten
 |0=> .nil
 |k+1=>by
  rw[List.replicate_succ,List.replicate_succ,List.flatten_cons,List.flatten_cons]
  exact Vals.append h (Vals.rep h k)
theorem foldl_rep(aq:List Value):∀(k:Nat) (acc:List Value),
 List.foldl (fun x1 x2=>x1++x2) acc.toArray (List.replicate k aq.toArray)=(acc++(List.replicate k aq).flatten).toArray
 |0,acc=>by simp
 |k+1,acc=>by
  have e:acc.toArray++aq.toArray=(acc++aq).toArray:=by simp
  have e2:(acc++aq)++(List.replicate k aq).flatten=acc++(List.replicate (k+1) aq).flatten:=by
   rw[List.replicate_succ,List.flatten_cons,List.append_assoc]
  rw[←e2,←foldl_rep aq k (acc++aq),←e,List.replicate_succ,List.foldl_cons]
section
variable {X:Cx}{pins:List (Addr×Obj)}{σ:St}{H:Hp}{s:Shared}{l b:Addr}{xs ys zs:List V}
theorem Inv.Ng{aq its':List Value}{n:Nat}{f:Array Value→Array Value}{t':Nat}(I:Inv X pins σ H s)(hH:H l=some (.lst xs))
 (e:s.heap.get? l=some {cls:= .type "list",data:= .seq aq.toArray n}) (hf:f aq.toArray=its'.toArray) (hv:Vals ys its') (hz:ys.length≤sizeLine):
 Inv X pins σ (upd H l (.lst ys)) {s with heap:=s.heap.update l (Obj.mapSeq f),toks:=t'}:=by
 have q:=PySem.IsL.update e f
 rw[hf]at q
 refine I.write (x:=l) (e:=l) (by rw[hH];exact trivial) (.inl rfl) (fun b' u hb hu=>(Heap.get?_update_other s.heap (Obj.mapSeq f) (Ne.symm hb)).trans hu) ⟨_,q⟩ ?_
 exact⟨hz,its',_,hv,q⟩
theorem Inv.DU{aq:List Value}{t':Nat}(I:Inv X pins σ H s)(hv:Vals ys aq)(hz:ys.length≤sizeLine):
 Inv X pins σ (upd H s.heap.objs.size (.lst ys)) {s with heap:=s.heap.push {cls:= .type "list",data:= .seq aq.toArray},toks:=t'}:=
 I.laid (fun _ _ q=>Heap.get?_push_of_some _ q) (Nat.le_refl _) ⟨hz,aq,0,hv,Heap.get?_push_size _ rfl⟩
theorem Inv.fresh(I:Inv X pins σ H s):H s.heap.objs.size=none:=I.aI.fresh (Nat.le_refl _)
theorem Inv.M_(I:Inv X pins σ H s)(hH:H l=some (.lst xs)):xs.length≤sizeLine∧∃(aq:List Value) (n:Nat),Vals xs aq∧xs.length=aq.length∧s.heap.get? l=some {cls:= .type "list",data:= .seq aq.toArray n}:=by
 obtain⟨z,aq,n,r,e⟩:=I.aI l _ hH
 exact⟨z,aq,n,r,r.length,e⟩
theorem Ex{n:Nat}(h:n≤sizeLine):Builtin.List.listTooLong n=false:=by
 unfold Builtin.List.listTooLong
 exact decide_eq_false (by omega)
end
section
variable {X:Cx}
noncomputable def zD:V→List V→Hp→VK→Prop:=fun x vs H Q=>∃l xs y,x= .ref l∧vs=[y]∧H l=some (.lst xs)∧xs.length<sizeLine∧Q .aG (upd H l (.lst (xs++[y])))
theorem vm:NI X "list.append" zD:=by
 intro pins s σ H x vs v us Q I rx rv h
 obtain⟨l,xs,y,rfl,rfl,hH,hz,q⟩:=h
 cases rx
 obtain⟨u,rfl,ru⟩:=rv.one
 obtain⟨z,aq,n,r,hl,e⟩:=I.M_ hH
 refine call_meets F.slot_list_append ⟨_,e,rfl⟩ F.entry_list_append (F.args_list_append_2 _ _) (PySem.list_append l aq.toArray n u (by rw[List.size_toArray];omega)) ⟨e,?_⟩
 refine⟨.aG,_,I.Ng (its':=aq++[u]) hH e (by simp) (r.append (.cons ru .nil)) ?_,rfl,q⟩
 rw[List.length_append,List.length_singleton]
 omega
theorem len_rep{α:Type}(xs:List α)(k:Nat):(List.replicate k xs).flatten.length=k*xs.length:=by
 induction k with
 |zero=>simp
 |succ k ih=>rw[List.replicate_succ,List.flatten_cons,List.length_append,ih,Nat.succ_mul,Nat.add_comm]
end
section
variable {prog:Program}{w:World}{A:Around}{E:Value→Shared→Prop}{s:Shared}
set_option maxRecDepth 100000 in
end
section
variable {X:Cx}
end
end L2
namespace Att
open PySem PySem.W PySem.Calls PyProof.Rows
theorem uk{P:Params}{h:Heap}:∀(ns:List Int) (vs:List Value),WellAll P h vs (ns.map WData.int)→IntsAre vs ns:=by
 intro ns
 induction ns with
 |nil=>
  intro vs w
  rw[List.map_nil]at w
  cases w
  exact .nil
 |cons n ns ih=>
  intro vs w
  rw[List.map_cons]at w
  cases w with
  |cons a b=>
   cases a
   exact .cons _ _ (ih _ b)
theorem CA{l:OpenLaw}{n:Nat}(hn:l.most=some n){P:Params}{h:Heap}{args:List WData}{vals:List Value}
 (hpre:l.row.toRowW.claim.pre args=true) (hwl:WellAll P h vals args):
 ∃a vs ns,vals=[Value.ref a]∧args=[WData.list (ns.map WData.int)]∧h.get? a=some {cls:= .type "list",data:= .seq vs.toArray}∧IntsAre vs ns∧ns.length≤n:=by
 have hsh:WShape.hasAll [] args [.list .int]=true:=(pre_splitW hpre).1
 have hc:l.pre.holds [] {args:=args}=true:=(pre_splitW hpre).2
 obtain⟨d,r,rfl,h1,h2⟩:=hasAllW_cons hsh
 obtain rfl:=hasAllW_nil h2
 obtain⟨xs,rfl,h3⟩:=hasW_list h1
 obtain⟨ns,rfl⟩:=items_int h3
 have hlen:ns.length≤n:=by
  unfold OpenLaw.pre at hc
  have h4:(WTm.not (.lt (.lit (.int (n:Int))) (.len (.arg 0)))).holds [] {args:=[.list (ns.map .int)]}=true:=by
   have h4:=(holds_andW hc).1
   rw[hn]at h4
   exact h4
  have h5:=condW_of h4 (w_not (w_lt w_lit (w_len_list (w_arg rfl))))
  rw[List.length_map]at h5
  refine Nat.le_of_not_lt fun q=>?_
  have q':(n:Int)<((ns.length:Nat):Int):=by omega
  first
   |(rw[decide_eq_true q']at h5;exact absurd h5 (by decide))
   |(simp at h5;omega)
 cases hwl with
 |cons w1 w2=>
  cases w2
  cases w1 with
  |list ho hall=>exact⟨_,_,ns,rfl,rfl,ho,uk ns _ hall,hlen⟩
theorem C4(l:OpenLaw)(args:List WData):l.row.toRowW.claim.post args (.bool true) args=true:=
 postW_of (r:=l.row.toRowW) (X:=(true==true))
  (show WShape.has [] (.bool true) .bool=true by first|rfl|decide|simp[WShape.has,WShape.arms,WShape.armsAll])
  (show(WTm.eq .res (.lit (.bool true))).value [] {args:=args,res:=some (.bool true),after:=args}=some (.bool (true==true))from w_eq_bool (w_res rfl) w_lit) rfl
theorem zc{l:OpenLaw}{n:Nat}{q:Program}{loose:List Str}{XP:(Str→Option Value)→Heap→Prop}{YP:World→Heap→Prop}{d:DefRec}
 (hn:l.most=some n) (hdf:d.params.defaults=[])
 (call:∀(w:World) (s₀ s₁:Shared) (mg mb:Str→Option Value) (fa:Addr) (o:Obj) (pm cd doc:Value) (a:Addr) (vs:List Value) (ns:List Int),
   Ground q loose [] XP w s₀ mg mb s₁.heap→YP w s₁.heap→
   s₁.heap.get? fa=some o→o.data= .func (docDef d.name d.params d.body d.scope pm cd doc)→s₁.heap.CodeRec cd d.name→mg d.name=some (.ref fa)→
   s₁.heap.get? a=some {cls:= .type "list",data:= .seq vs.toArray}→IntsAre vs ns→ns.length≤n→s₁.gens= #[]→
   codeAny (model l.prog w) callerA (.call (.ref fa) ⟨[.ref a],[]⟩) (fun r s'=>r= .ok (.ret (.bool true))∧OldK s₁.heap s'.heap∧s'.os=s₁.os∧AllBare s'.gens) s₁):
 WalkO q loose XP YP l.row.toRowW d [] (fun f vs=>PySem.call f vs):=by
 intro w s₀ s₁ mg mb G Y fa o pm cd doc dV kV ho hd hcd hD hmg hg args vals as hpre hlay hrd hwl hlo
 obtain rfl:dV= .none:=Dflts.none hD hdf
 obtain rfl:kV= .none:=Dflts.noKw hD
 obtain⟨a,vs,ns,rfl,rfl,hobj,hints,hlen⟩:=CA hn hpre hwl
 refine enter_call (codeAny_mono (call w s₀ s₁ mg mb fa o pm cd doc a vs ns G Y ho (fd_plain hd) hcd hmg hobj hints hlen hg) fun r s' hq=>?_)
 obtain⟨rfl,h2,h3,h4⟩:=hq
 exact⟨.inl ⟨.bool true,.bool true,[],rfl,fun _=>rfl,.bool true,C4 l _,fun _=>⟨List.Pairwise.nil,fun _ hm=>(nomatch hm)⟩⟩,h2,h3,h4⟩
section
variable {prog:Program}{w:World}{A:Around}{E:Value→Shared→Prop}{s:Shared}{K:Frag}
end
end Att
namespace L2
open PySem PySem.Spec PyProof.Rows
theorem lE:∀ {vs:List Value} {ns:List Int},IntsAre vs ns→Vals (ns.map V.int) vs
 |_,_,.nil=> .nil
 |_,_,.cons n t h=> .cons ⟨t,rfl⟩ (lE h)
end L2
/-THE LAST THEOREM (shape;LID,My.*are yours):
 My.Adr:a structure of the addresses that your layer names (classes,functions);My.Txt K t:a structure (Prop) of the equations over K;
 My.txt_mk:{K} {implicit addresses ..} (e1:nsIn K mainGlobals "law"=some (some (.ref f))) (e2:K.lookup f=some ⟨oc,od,.func (fnOf "law" "law" params body scope dV kV doc pm an cdv ct),sl⟩) (e3:codeIn K cdv "law"=true) .. :∃t,My.Txt K t
set_option maxRecDepth 100000 in
set_option maxHeartbeats 0 in
(the tactic k_is has no namespace:write k_is)-/
namespace L2
open PySem PySem.Spec PyProof.Rows
noncomputable def inClass(s:Stmt)(j:Nat):Stmt:=match s with
 | .ClassDef _ _ _ body _ _ _ _ _ _ _=>body.getD j (.Pass ⟨0,0,0,0⟩)
 |_=> .Pass ⟨0,0,0,0⟩
noncomputable def jC(s:Stmt):Arguments:=match s with
 | .FunctionDef _ a _ _ _ _ _ _ _ _=>a
 |_=>{posonlyargs:=[],args:=[],vararg:=none,kwonlyargs:=[],kw_defaults:=[],kwarg:=none,defaults:=[]}
noncomputable def gf(s:Stmt):List Stmt:=match s with
 | .FunctionDef _ _ b _ _ _ _ _ _ _=>b
 |_=>[]
noncomputable def ai(s:Stmt):Scope:=match s with
 | .FunctionDef _ _ _ _ _ _ sc _ _ _=>sc
 |_=>{kind:= .function,names:=[],isGenerator:=false,isCoroutine:=false}
noncomputable abbrev cE:su:=fun _ _ _ _ _ _=>False
noncomputable abbrev E0:XK:=fun _ _ _=>False
theorem AD{X:Cx}:Passes cE X E0:=fun _ _ _ _ _ _ _ h=>h.elim
structure mZ(K:PySem.W.Frag)(x qual:Str)(st:Stmt)(f:Addr)(fd:FuncData):Prop where
 ex:∃(oc:Value) (od:Option Addr) (kV doc pm:Value) (an:Option Addr) (cdv ct:Value) (osl:Array (Option Value)),
  fd=PySem.W.fnOf x qual (jC st) (gf st) (ai st) .none kV doc pm an cdv ct∧K.lookup f=some ⟨oc,od,.func fd,osl⟩∧PySem.W.codeIn K cdv qual=true
 kp:PySem.W.keepIn K (.ref f)=true
section
variable {P:Program}{w:World}{K:PySem.W.Frag}{mg:Str→Option Value}{base:Heap}
theorem mZ.ok{x qual:Str}{st:Stmt}{f:Addr}{fd:FuncData}{N ps:List Str}{k:Nat}{sp:Sp}(F:mZ K x qual st f fd)(S:aS N ps (ai st))(len:∀vs H Q E,sp vs H Q E→vs.length=ps.length)
 (hbody:∀(cdv:Value) (A:Around) (outer:List Env) (s:Shared) (H:Hp) (vs:List V) (Q:VK) (E:XK),cT k (A.deeper (envOfC qual (ai st) s.heap.objs.size f cdv))→sp vs H Q E→
   ∃t,gv (pK cE P w K mg base N qual (ai st) f cdv A outer s H E).uB (gf st) t∧t {nx:=fun _ H'=>Q .aG H',rt:=Q} (start N vs) H):bo P w K mg base cE (k+1) f fd ps sp:=by
 obtain⟨oc,od,kV,doc,pm,an,cdv,ct,osl,rfl,lk,hcd⟩:=F.ex
 refine E5 lk hcd S len fun A outer s H vs Q E hr hsp=>?_
 obtain⟨t,h,q⟩:=hbody cdv A outer s H vs Q E hr hsp
 exact⟨t,h.uB,q⟩
theorem mZ.binds{x qual:Str}{st:Stmt}{f:Addr}{fd:FuncData}{ps:List Str}(F:mZ K x qual st f fd)
 (h:∀(kV doc pm:Value) (an:Option Addr) (cdv ct:Value) (us:List Value),us.length=ps.length→bindArgs (PySem.W.fnOf x qual (jC st) (gf st) (ai st) .none kV doc pm an cdv ct) ⟨us,[]⟩=pure (ps.zip us)):Binds K fd ps []:=by
 obtain⟨oc,od,kV,doc,pm,an,cdv,ct,osl,rfl,lk,hcd⟩:=F.ex
 exact .all (h kV doc pm an cdv ct)
theorem Cr{x qual:Str}{st:Stmt}{f:Addr}{oc:Value}{od an:Option Addr}{osl:Array (Option Value)}{kV doc pm cdv ct:Value}(l:K.lookup f=some ⟨oc,od,.func (PySem.W.fnOf x qual (jC st) (gf st) (ai st) .none kV doc pm an cdv ct),osl⟩)
 (c:PySem.W.codeIn K cdv qual=true) (k:PySem.W.keepIn K (.ref f)=true):mZ K x qual st f (PySem.W.fnOf x qual (jC st) (gf st) (ai st) .none kV doc pm an cdv ct):=⟨⟨oc,od,kV,doc,pm,an,cdv,ct,osl,rfl,l,c⟩,k⟩
end
section
variable {X:Cx}
end
theorem MK{A B:Prop}(h:B):if false=true then A else B:=by
 rw[if_neg Bool.false_ne_true]
 exact h
theorem eB{A B:Prop}(h:A):if true=true then A else B:=by
 rw[if_pos rfl]
 exact h
noncomputable def DB(H H':Hp):Prop:=∀b o,H b=some o→H' b=some o
end L2
set_option maxHeartbeats 4000000
namespace Hd
open PySem PySem.W PySem.Calls PyProof.Rows
noncomputable def bt (P:Params):BT:=(.node (boot_o_0 P) (.node (boot_o_1 P) (.node (boot_o_3 P) (.node (boot_o_7 P) .nil .nil) .nil) (.node (boot_o_5 P) (.node (boot_o_9 P) .nil .nil) .nil)) (.node (boot_o_2 P) (.node (boot_o_4 P) (.node (boot_o_8 P) .nil .nil) .nil) (.node (boot_o_6 P) (.node (boot_o_10 P) .nil .nil) .nil)))
theorem JM(P:Params):absHeap (bt P) 11 (boot_heap P).life=boot_heap P:=by kernel_rfl
noncomputable def run (p:Program) (w:World) (n:Nat) (ann:Option Value):Nat→SharedT→Thread→Option SharedT
 |0,_,_=>none
 |k+1,s,t=>match through t with
  |true=>some s
  |false=>match Fast.tw6613529449190102663 n ann t with
   |false=>none
   |true=>match Fast.tw10156331382660048174 (Fast.tw11892475500146522536 Fast.tw14364793385576792824) p w s t with
    |some (s',t')=>run p w n ann k s' t'
    |none=>none
theorem C_{p:Program}{w:World}{n:Nat}{ann:Option Value}:∀ {k:Nat} {s s':SharedT} {t:Thread},run p w n ann k s t=some s'→topRun treeTable p w n ann k s.abs t=some s'.abs
 |0,_,_,_,h=>by cases h
 |k+1,s,s',t,h=>by
  unfold run at h
  unfold topRun
  cases he:through t with
  |true=>rw[he]at h;cases h;rfl
  |false=>
   rw[he]at h
   rw[←Fast.te6613529449190102663,←Fast.te10156331382660048174,←Fast.te11892475500146522536,←Fast.te14364793385576792824]at h
   cases hk:stepOk n ann t with
   |false=>simp only[hk]at h;cases h
   |true=>
    simp only[hk]at h
    cases hs:stepT (denote treeTable) p w s t with
    |none=>rw[hs]at h;cases h
    |some r=>obtain⟨s2,t2⟩:=r;rw[hs]at h;rw[stepT_spec hs];exact C_ h
noncomputable def b0 (w:World) (os:OsState):SharedT:=⟨bt w.params,11,(boot_heap w.params).life,⟨[]⟩,boot_drawn,boot_toks,os⟩
theorem J6(w:World)(os:OsState):(b0 w os).abs=⟨boot_heap w.params,⟨[]⟩,boot_drawn,boot_toks,os⟩:=by
 unfold b0 SharedT.abs
 dsimp only
 rw[JM]
theorem left{p q:Program}{loose:List Str}{α:Type}{Yf:Shared→α}{Ya:World→α}{N:Nat}
 (e:opening p=plainProg p.main.scope.names) (f:∀s,fenceModules? p s=some s) (hN:Nat.ble 600 N=true)
 (h:∀(w:World) (os:OsState),(run p w 11 (some (.ref 6)) N (b0 w os) (topStub p)).bind (fun s=>match staticsOk (importedModules p.main.body) (boot_heap w.params) s.abs.heap&&namesBound p s.abs.heap&&gensDone s.abs&&laidKept (boot_heap w.params) s.abs.heap with
   |true=>some (Fast.tw4187177175401517315 q loose (importedModules p.main.body) (fun _=>true) true s.abs,Yf s.abs)
   |false=>none)=some (openGood q loose,Ya w)):LeftO p q loose (fun _=>true) Yf Ya N:=fun w=>by
 obtain⟨⟨hp,gs,d,k,os⟩,e1,e2⟩:=Option.map_eq_some_iff.mp (boot_open e hN f w)
 obtain⟨rfl,rfl,rfl,rfl⟩:hp=boot_heap w.params∧gs=⟨[]⟩∧d=boot_drawn∧k=boot_toks:=by simpa using e2
 obtain⟨s,r1,r2⟩:=Option.bind_eq_some_iff.mp (h w os)
 have r3:=C_ r1
 rw[J6]at r3
 rw[←Fast.te4187177175401517315]at r2
 unfold openEnds
 rw[e1]
 show(topFrom treeTable p w N _).map _=_
 unfold topFrom
 rw[show((boot_heap w.params).isNs mainGlobals&&(⟨[]⟩:Array GenState).size==0)=true from by kernel_rfl]
 dsimp only
 rw[show(boot_heap w.params).objs.size=11 from by kernel_rfl,show(boot_heap w.params).nsMap mainGlobals "__annotations__"=some (.ref 6)from by kernel_rfl,r3]
 show((match staticsOk (importedModules p.main.body) (boot_heap w.params) s.abs.heap&&namesBound p s.abs.heap&&gensDone s.abs&&laidKept (boot_heap w.params) s.abs.heap with|true=>some s.abs|false=>none):Option Shared).map _=_
 cases z:(staticsOk (importedModules p.main.body) (boot_heap w.params) s.abs.heap&&namesBound p s.abs.heap&&gensDone s.abs&&laidKept (boot_heap w.params) s.abs.heap)with
 |false=>rw[z]at r2;cases r2
 |true=>rw[z]at r2;exact r2
noncomputable abbrev e(x:Str)(t:Nat)(v:Value):Str×Nat×Value:=(x,t,v)
noncomputable abbrev k(a:Addr)(o:Obj):Addr×Obj:=(a,o)
noncomputable def no(P:Params)(n:Nat)(l:List (Str×Nat×Value)):Obj:=⟨.type "dict",none,.dict (l.map fun e=>⟨PyData.keyHash P e.1,.str e.1 e.2.1,e.2.2⟩).toArray n,#[]⟩
noncomputable def fd(st:Stmt)(x q:Str)(pm:Value)(c:Addr):FuncData:=fnOf x q (L2.jC st) (L2.gf st) (L2.ai st) .none .none .none pm none (.ref c) .none
noncomputable def fq(st:Stmt)(x q:Str)(pm:Value)(c:Addr):Obj:=⟨.type "function",none,.func (fd st x q pm c),#[]⟩
noncomputable def co(x q:Str)(t:Nat)(line argc:Int)(a b:Addr)(u v:Value)(d:Addr)(i:Int)(z:Nat):Obj:=⟨.type "code",none,.fields #[.str x t,.str q (t+1),.str "/claim/cut.py" (t+2),.int line 0,.int argc 0,.int 0 0,.int 0 0,.int 3 0,.ref a,.bool true,.int 181 0,.ref b,.none,u,v,.ref d,.int i 0,.int line 0,.str "/claim/cut.py" z],#[]⟩
end Hd
namespace Row
open PySem L2
open PySem.Spec hiding items?
open PyProof.Rows hiding St
noncomputable def top(i:Nat):Stmt:=PySem.Challenge.pw_latticeworks_k16_inside_or_not.main.body.getD i (.Pass ⟨0,0,0,0⟩)
noncomputable abbrev PW:Program:=PySem.Challenge.pw_latticeworks_k16_inside_or_not
noncomputable abbrev kv:Stmt:=top 1
noncomputable abbrev ou:Stmt:=top 2
noncomputable abbrev oO:Stmt:=top 3
noncomputable abbrev mB:Stmt:=top 4
noncomputable abbrev my:Stmt:=top 5
noncomputable abbrev oJ:Stmt:=top 6
noncomputable abbrev mE:Stmt:=top 7
noncomputable abbrev ig:Stmt:=top 9
noncomputable abbrev ke:Stmt:=top 10
noncomputable abbrev kr:Stmt:=top 11
noncomputable abbrev jq:Stmt:=top 12
noncomputable abbrev e_:Stmt:=top 13
noncomputable abbrev gG:Stmt:=top 14
noncomputable abbrev fU:Stmt:=top 15
noncomputable abbrev jy:Stmt:=top 17
noncomputable abbrev dR:Stmt:=top 18
noncomputable abbrev g4:Stmt:=top 19
noncomputable abbrev ik:Stmt:=top 20
noncomputable abbrev cS:Stmt:=inClass (top 21) 0
noncomputable abbrev gb:Stmt:=inClass (top 21) 1
noncomputable abbrev eL:Stmt:=inClass (top 21) 2
noncomputable abbrev dD:Stmt:=inClass (top 21) 3
noncomputable abbrev c8:Stmt:=inClass (top 21) 4
noncomputable abbrev fo:Stmt:=inClass (top 21) 5
noncomputable abbrev dB:Stmt:=inClass (top 21) 6
noncomputable abbrev iK:Stmt:=top 22
noncomputable abbrev jD:Stmt:=top 23
noncomputable abbrev gQ:Stmt:=top 25
noncomputable abbrev g5:Stmt:=top 26
noncomputable abbrev e9:Stmt:=top 27
noncomputable abbrev ki:Stmt:=top 28
noncomputable abbrev gI:Stmt:=top 30
noncomputable abbrev iJ:Stmt:=top 31
noncomputable abbrev gh:Stmt:=top 32
noncomputable abbrev fk:Stmt:=top 33
noncomputable abbrev gX:Stmt:=top 34
noncomputable abbrev eV:Stmt:=top 35
noncomputable abbrev dO:Stmt:=top 36
noncomputable abbrev ff:Stmt:=top 37
noncomputable abbrev gT:Stmt:=top 38
noncomputable abbrev eP:Stmt:=top 39
noncomputable abbrev dG:Stmt:=top 40
noncomputable abbrev d6:Stmt:=top 41
noncomputable abbrev kR:Stmt:=top 42
noncomputable def i5:Value:=(.str "latticeworks.fractions" 187)
noncomputable def i6:Value:=(.str "latticeworks.rows" 248)
noncomputable def d9:Value:=(.str "latticeworks.standing" 298)
noncomputable def pP:Value:=(.str "latticeworks.inside" 441)
noncomputable def dY:Value:=(.str "law_latticeworks_k16_inside_or_not" 488)
noncomputable def KX(P:Params):PySem.W.Frag:=[Hd.k 3 (Hd.no P 47 [Hd.e "__name__" 165 (.str "law_latticeworks_k16_inside_or_not" 488),Hd.e "__doc__" 166 .none,Hd.e "__package__" 167 .none,Hd.e "__loader__" 168 (.builtin "__main__.__loader__#opaque"),Hd.e "__spec__" 169 .none,Hd.e "__annotations__" 170 (.ref 6),Hd.e "__builtins__" 171 (.ref 4),Hd.e "__file__" 173 (.str "/claim/cut.py" 172),Hd.e "__cached__" 174 .none,Hd.e "common" 199 (.ref 21),Hd.e "part" 208 (.ref 28),Hd.e "plus" 216 (.ref 35),Hd.e "minus" 224 (.ref 42),Hd.e "times" 232 (.ref 49),Hd.e "over" 240 (.ref 56),Hd.e "whole" 247 (.ref 63),Hd.e "as_rows" 255 (.ref 68),Hd.e "added" 261 (.ref 73),Hd.e "sum_by" 273 (.ref 80),Hd.e "column" 279 (.ref 85),Hd.e "turned_over" 285 (.ref 90),Hd.e "unit_row" 291 (.ref 95),Hd.e "unit_rows" 297 (.ref 100),Hd.e "lead_of" 308 (.ref 107),Hd.e "nearest_quotient" 316 (.ref 114),Hd.e "exchanged" 326 (.ref 121),Hd.e "negated" 332 (.ref 126),Hd.e "Bench" 416 (.ref 181),Hd.e "standing" 427 (.ref 192),Hd.e "weighed" 440 (.ref 199),Hd.e "parts_dot" 453 (.ref 206),Hd.e "bottom_at" 463 (.ref 213),Hd.e "parts_against" 476 (.ref 220),Hd.e "inside" 487 (.ref 227),Hd.e "_law_hand" 495 (.ref 232),Hd.e "_law_draw" 507 (.ref 239),Hd.e "_law_number" 516 (.ref 246),Hd.e "_law_rows" 522 (.ref 251),Hd.e "_law_sizes" 529 (.ref 258),Hd.e "_law_some_rows" 539 (.ref 265),Hd.e "_law_lowest" 549 (.ref 272),Hd.e "_law_is_part" 555 (.ref 277),Hd.e "_law_worth" 567 (.ref 284),Hd.e "_law_shown" 573 (.ref 289),Hd.e "_law_cases" 579 (.ref 294),Hd.e "_law_told_well" 585 (.ref 299),Hd.e "law" 591 (.ref 304)]),
 Hd.k 20 (Hd.co "common" "common" 189 2 2 15 16 (.ref 17) (.ref 18) 19 197 198),
 Hd.k 21 (Hd.fq kv "common" "common" i5 20),
 Hd.k 27 (Hd.co "part" "part" 200 10 2 22 23 (.ref 24) (.ref 25) 26 206 207),
 Hd.k 28 (Hd.fq ou "part" "part" i5 27),
 Hd.k 34 (Hd.co "plus" "plus" 209 15 2 29 30 (.ref 31) (.ref 32) 33 214 215),
 Hd.k 35 (Hd.fq oO "plus" "plus" i5 34),
 Hd.k 41 (Hd.co "minus" "minus" 217 17 2 36 37 (.ref 38) (.ref 39) 40 222 223),
 Hd.k 42 (Hd.fq mB "minus" "minus" i5 41),
 Hd.k 48 (Hd.co "times" "times" 225 19 2 43 44 (.ref 45) (.ref 46) 47 230 231),
 Hd.k 49 (Hd.fq my "times" "times" i5 48),
 Hd.k 55 (Hd.co "over" "over" 233 21 2 50 51 (.ref 52) (.ref 53) 54 238 239),
 Hd.k 56 (Hd.fq oJ "over" "over" i5 55),
 Hd.k 62 (Hd.co "whole" "whole" 241 23 1 57 58 (.ref 59) (.ref 60) 61 245 246),
 Hd.k 63 (Hd.fq mE "whole" "whole" i5 62),
 Hd.k 67 (Hd.co "as_rows" "as_rows" 250 26 1 64 65 .none .none 66 253 254),
 Hd.k 68 (Hd.fq ig "as_rows" "as_rows" i6 67),
 Hd.k 72 (Hd.co "added" "added" 256 28 3 69 70 .none .none 71 259 260),
 Hd.k 73 (Hd.fq ke "added" "added" i6 72),
 Hd.k 79 (Hd.co "sum_by" "sum_by" 262 30 3 74 75 (.ref 76) (.ref 77) 78 271 272),
 Hd.k 80 (Hd.fq kr "sum_by" "sum_by" i6 79),
 Hd.k 84 (Hd.co "column" "column" 274 35 2 81 82 .none .none 83 277 278),
 Hd.k 85 (Hd.fq jq "column" "column" i6 84),
 Hd.k 89 (Hd.co "turned_over" "turned_over" 280 37 2 86 87 .none .none 88 283 284),
 Hd.k 90 (Hd.fq e_ "turned_over" "turned_over" i6 89),
 Hd.k 94 (Hd.co "unit_row" "unit_row" 286 39 2 91 92 .none .none 93 289 290),
 Hd.k 95 (Hd.fq gG "unit_row" "unit_row" i6 94),
 Hd.k 99 (Hd.co "unit_rows" "unit_rows" 292 41 1 96 97 .none .none 98 295 296),
 Hd.k 100 (Hd.fq fU "unit_rows" "unit_rows" i6 99),
 Hd.k 106 (Hd.co "lead_of" "lead_of" 300 44 1 101 102 (.ref 103) (.ref 104) 105 306 307),
 Hd.k 107 (Hd.fq jy "lead_of" "lead_of" d9 106),
 Hd.k 113 (Hd.co "nearest_quotient" "nearest_quotient" 309 49 2 108 109 (.ref 110) (.ref 111) 112 314 315),
 Hd.k 114 (Hd.fq dR "nearest_quotient" "nearest_quotient" d9 113),
 Hd.k 120 (Hd.co "exchanged" "exchanged" 317 51 3 115 116 (.ref 117) (.ref 118) 119 324 325),
 Hd.k 121 (Hd.fq g4 "exchanged" "exchanged" d9 120),
 Hd.k 125 (Hd.co "negated" "negated" 327 56 1 122 123 .none .none 124 330 331),
 Hd.k 126 (Hd.fq ik "negated" "negated" d9 125),
 Hd.k 137 (Hd.co "__init__" "Bench.__init__" 345 60 2 134 135 .none .none 136 348 349),
 Hd.k 138 (Hd.fq cS "__init__" "Bench.__init__" d9 137),
 Hd.k 144 (Hd.co "take" "Bench.take" 351 65 4 139 140 (.ref 141) (.ref 142) 143 358 359),
 Hd.k 145 (Hd.fq gb "take" "Bench.take" d9 144),
 Hd.k 151 (Hd.co "exchange" "Bench.exchange" 361 70 3 146 147 (.ref 148) (.ref 149) 150 367 368),
 Hd.k 152 (Hd.fq eL "exchange" "Bench.exchange" d9 151),
 Hd.k 158 (Hd.co "change_sign" "Bench.change_sign" 370 75 2 153 154 (.ref 155) (.ref 156) 157 375 376),
 Hd.k 159 (Hd.fq dD "change_sign" "Bench.change_sign" d9 158),
 Hd.k 163 (Hd.co "live_rows" "Bench.live_rows" 378 80 3 160 161 .none .none 162 381 382),
 Hd.k 164 (Hd.fq c8 "live_rows" "Bench.live_rows" d9 163),
 Hd.k 170 (Hd.co "gather" "Bench.gather" 384 84 3 165 166 (.ref 167) (.ref 168) 169 393 394),
 Hd.k 171 (Hd.fq fo "gather" "Bench.gather" d9 170),
 Hd.k 177 (Hd.co "lower_above" "Bench.lower_above" 396 98 3 172 173 (.ref 174) (.ref 175) 176 403 404),
 Hd.k 178 (Hd.fq dB "lower_above" "Bench.lower_above" d9 177),
 Hd.k 180 (Hd.no P 4 [Hd.e "__module__" 340 (.str "latticeworks.standing" 298),Hd.e "__firstlineno__" 344 (.int (58) 343),Hd.e "__init__" 350 (.ref 138),Hd.e "take" 360 (.ref 145),Hd.e "exchange" 369 (.ref 152),Hd.e "change_sign" 377 (.ref 159),Hd.e "live_rows" 383 (.ref 164),Hd.e "gather" 395 (.ref 171),Hd.e "lower_above" 405 (.ref 178),Hd.e "__static_attributes__" 409 (.ref 179),Hd.e "__dict__" 411 (.ref 182),Hd.e "__weakref__" 413 (.ref 183),Hd.e "__doc__" 414 .none]),
 Hd.k 181 (⟨(.type "type"),none,.cls {name:="Bench",bases:=[(.type "object")],mro:=[(.ref 181),(.type "object")],ns:=180,qualname:="Bench",hasDict:=true,subclasses:=[],abstract:=false,hasDel:=false},#[none,none,(some (.str "Bench" 333)),(some (.str "Bench" 341)),(some (.builtin "object.__new__")),(some (.bool true))]⟩),
 Hd.k 191 (Hd.co "standing" "standing" 417 101 1 186 187 (.ref 188) (.ref 189) 190 425 426),
 Hd.k 192 (Hd.fq iK "standing" "standing" d9 191),
 Hd.k 198 (Hd.co "weighed" "weighed" 428 110 2 193 194 (.ref 195) (.ref 196) 197 438 439),
 Hd.k 199 (Hd.fq jD "weighed" "weighed" d9 198),
 Hd.k 205 (Hd.co "parts_dot" "parts_dot" 443 120 2 200 201 (.ref 202) (.ref 203) 204 451 452),
 Hd.k 206 (Hd.fq gQ "parts_dot" "parts_dot" pP 205),
 Hd.k 212 (Hd.co "bottom_at" "bottom_at" 454 125 3 207 208 (.ref 209) (.ref 210) 211 461 462),
 Hd.k 213 (Hd.fq g5 "bottom_at" "bottom_at" pP 212),
 Hd.k 219 (Hd.co "parts_against" "parts_against" 464 130 2 214 215 (.ref 216) (.ref 217) 218 474 475),
 Hd.k 220 (Hd.fq e9 "parts_against" "parts_against" pP 219),
 Hd.k 226 (Hd.co "inside" "inside" 477 140 2 221 222 (.ref 223) (.ref 224) 225 485 486),
 Hd.k 227 (Hd.fq ki "inside" "inside" pP 226),
 Hd.k 231 (Hd.co "_law_hand" "_law_hand" 490 148 1 228 229 .none .none 230 493 494),
 Hd.k 232 (Hd.fq gI "_law_hand" "_law_hand" dY 231),
 Hd.k 238 (Hd.co "_law_draw" "_law_draw" 496 150 2 233 234 (.ref 235) (.ref 236) 237 505 506),
 Hd.k 239 (Hd.fq iJ "_law_draw" "_law_draw" dY 238),
 Hd.k 245 (Hd.co "_law_number" "_law_number" 508 166 2 240 241 (.ref 242) (.ref 243) 244 514 515),
 Hd.k 246 (Hd.fq gh "_law_number" "_law_number" dY 245),
 Hd.k 250 (Hd.co "_law_rows" "_law_rows" 517 171 4 247 248 .none .none 249 520 521),
 Hd.k 251 (Hd.fq fk "_law_rows" "_law_rows" dY 250),
 Hd.k 257 (Hd.co "_law_sizes" "_law_sizes" 523 186 1 252 253 (.ref 254) (.ref 255) 256 527 528),
 Hd.k 258 (Hd.fq gX "_law_sizes" "_law_sizes" dY 257),
 Hd.k 264 (Hd.co "_law_some_rows" "_law_some_rows" 530 190 2 259 260 (.ref 261) (.ref 262) 263 537 538),
 Hd.k 265 (Hd.fq eV "_law_some_rows" "_law_some_rows" dY 264),
 Hd.k 271 (Hd.co "_law_lowest" "_law_lowest" 540 193 2 266 267 (.ref 268) (.ref 269) 270 547 548),
 Hd.k 272 (Hd.fq dO "_law_lowest" "_law_lowest" dY 271),
 Hd.k 276 (Hd.co "_law_is_part" "_law_is_part" 550 198 1 273 274 .none .none 275 553 554),
 Hd.k 277 (Hd.fq ff "_law_is_part" "_law_is_part" dY 276),
 Hd.k 283 (Hd.co "_law_worth" "_law_worth" 556 204 2 278 279 (.ref 280) (.ref 281) 282 565 566),
 Hd.k 284 (Hd.fq gT "_law_worth" "_law_worth" dY 283),
 Hd.k 288 (Hd.co "_law_shown" "_law_shown" 568 211 3 285 286 .none .none 287 571 572),
 Hd.k 289 (Hd.fq eP "_law_shown" "_law_shown" dY 288),
 Hd.k 293 (Hd.co "_law_cases" "_law_cases" 574 230 2 290 291 .none .none 292 577 578),
 Hd.k 294 (Hd.fq dG "_law_cases" "_law_cases" dY 293),
 Hd.k 298 (Hd.co "_law_told_well" "_law_told_well" 580 249 1 295 296 .none .none 297 583 584),
 Hd.k 299 (Hd.fq d6 "_law_told_well" "_law_told_well" dY 298),
 Hd.k 303 (Hd.co "law" "law" 586 253 1 300 301 .none .none 302 589 590),
 Hd.k 304 (Hd.fq kR "law" "law" dY 303)]
noncomputable def KA:List Addr:=[3,20,21,27,28,34,35,41,42,48,49,55,56,62,63,67,68,72,73,79,80,84,85,89,90,94,95,99,100,106,107,113,114,120,121,125,126,137,138,144,145,151,152,158,159,163,164,170,171,177,178,180,181,191,192,198,199,205,206,212,213,219,220,226,227,231,232,238,239,245,246,250,251,257,258,264,265,271,272,276,277,283,284,288,289,293,294,298,299,303,304]
set_option maxHeartbeats 0 in
theorem left:PySem.W.LeftO PW (PySem.W.view PW [1,2,3,4,5,6,7,9,10,11,12,13,14,15,17,18,19,20,21,22,23,25,26,27,28,30,31,32,33,34,35,36,37,38,39,40,41,42]) [] (fun _=>true) (PySem.W.kmHook Row.KX Row.KA (fun _=>rfl) [161]).obs (PySem.W.kmHook Row.KX Row.KA (fun _=>rfl) [161]).val 3244:=
 Hd.left (by kernel_rfl) (fun s=>by kernel_rfl) rfl fun w os=>by kernel_rfl
end Row
namespace L3
open PySem PySem.Spec PyProof.Rows L2
section
variable {prog:Program}{w:World}{A:Around}{R:Result→Shared→Prop}{s:Shared}
theorem y_{elt target iter:Expr}{ifs:List Expr}{scope:Scope}{pos:Pos}{it acc:Value}{env:Env}(I:Nat→Shared→Prop)
 (turn:∀n s,I n s→wpAny (model prog w) A (pyNext it) (fun r s₁=>match r with
   |none=>R (.ok .next) s₁
   |some v=>wpAny (model prog w) A (letOwnedTupleGo target it v) (fun _ s₀=>wpAny (model prog w) A (assign target env v) (fun _ s₂=>
     wpAny (model prog w) A (forIn ifs true fun c r=>if r=true then do let ok ←isTrue c env (eval c env);pure (ForInStep.yield ok)else pure (ForInStep.yield r)) (fun ok s₃=>
      if ok=true then wpAny (model prog w) A (eval elt env) (fun x s₄=>
       wpAny (model prog w) A (call (.builtin "list.append") [acc,x]) (fun _ s₅=>∃m,m<n∧I m s₅) (fun _ _=>False) s₄) (fun _ _=>False) s₃
      else∃m,m<n∧I m s₃) (fun _ _=>False) s₂) (fun _ _=>False) s₀) (fun _ _=>False) s₁) (fun _ _=>False) s)
 (n:Nat) (h:I n s):
 codeAny (model prog w) A (.compLoop (.ListComp elt [⟨target,iter,ifs,0⟩] scope pos) 0 it acc env) R s:=by
 refine codeAny_loop rfl I (fun n s hI=>?_) n h
 show wpAny _ A ((compTurn (.ListComp elt [⟨target,iter,ifs,0⟩] scope pos) 0 it acc env).onRaise (fun x=>do noteFrame x env;theTreesLotGoes x)) _ _ s
 refine wpAny_noted ?_
 rw[compTurn_list]
 refine wpAny_bind (wpAny_standAt (wpAny_bind (wpAny_mono (turn n s hI) (fun r s₁ h₁=>?_) fun _ _ h'=>h'.elim)))
 cases r with
 |none=>exact wpAny_pure h₁
 |some v=>
  refine wpAny_bind (wpAny_mono h₁ (fun _ s₀ h₀=>?_) fun _ _ h'=>h'.elim)
  refine wpAny_bind (wpAny_mono h₀ (fun _ s₂ h₂=>wpAny_bind (wpAny_mono h₂ (fun ok s₃ h₃=>?_) fun _ _ h'=>h'.elim)) fun _ _ h'=>h'.elim)
  cases ok with
  |false=>exact wpAny_pure ⟨rfl,h₃⟩
  |true=>
   exact wpAny_bind (wpAny_bind (wpAny_mono h₃ (fun x s₄ h₄=>wpAny_bind (wpAny_mono h₄ (fun _ s₅ h₅=>wpAny_pure (wpAny_pure ⟨rfl,h₅⟩)) fun _ _ h'=>h'.elim)) fun _ _ h'=>h'.elim))
end
noncomputable def df(cells:List (Str×Addr)):List (Str×NameKind)→List (Str×Addr)→List (Str×Addr)
 | [],acc=>acc
 |(n,k)::r,acc=>if k== .free then(match cells.lookup n with|some c=>df cells r ((n,c)::acc)|none=>df cells r acc)else df cells r acc
theorem cR{cells:List (Str×Addr)}:∀(names:List (Str×NameKind)) (acc:List (Str×Addr)),(∀x c,acc.lookup x=some c→cells.lookup x=some c)→
 ∀x c,(df cells names acc).lookup x=some c→cells.lookup x=some c
 | [],acc,h,x,c,e=>h x c e
 |(n,k)::r,acc,h,x,c,e=>by
  unfold df at e
  split at e
  · split at e
    · rename_i d q
      refine cR r _ (fun y b e'=>?_) x c e
      rw[List.lookup_cons]at e'
      split at e'
      · rename_i z
        cases e'
        have z':y=n:=by simpa using z
        rw[z'];exact q
      · exact h y b e'
    · exact cR r _ h x c e
  · exact cR r _ h x c e
theorem ix{cells:List (Str×Addr)}{x:Str}:∀(names:List (Str×NameKind)) (acc:List (Str×Addr)),(∃c,cells.lookup x=some c)→((x,NameKind.free)∈names∨∃c,acc.lookup x=some c)→
 ∃c,(df cells names acc).lookup x=some c
 | [],acc,_,h=>by
   rcases h with h|h
   · simp at h
   · exact h
 |(n,k)::r,acc,hc,h=>by
  unfold df
  split
  · rename_i hk
    split
    · rename_i d q
      refine ix r _ hc ?_
      rcases h with h|⟨c,h⟩
      · rcases List.mem_cons.mp h with e|e
        · cases e
          exact .inr ⟨d,by simp[List.lookup_cons]⟩
        · exact .inl e
      · refine .inr ?_
        rw[List.lookup_cons]
        split
        · exact⟨_,rfl⟩
        · exact⟨c,h⟩
    · rename_i q
      refine ix r _ hc ?_
      rcases h with h|h
      · rcases List.mem_cons.mp h with e|e
        · cases e
          obtain⟨c,hc⟩:=hc
          rw[hc]at q;cases q
        · exact .inl e
      · exact .inr h
  · rename_i hk
    refine ix r _ hc ?_
    rcases h with h|h
    · rcases List.mem_cons.mp h with e|e
      · cases e
        exact absurd rfl hk
      · exact .inl e
    · exact .inr h
theorem lO{scope:Scope}{env:Env}(h:∀x∈scope.names,x.2= .free→∃c,env.cells.lookup x.1=some c):closureFor scope env=pure (df env.cells scope.names []):=by
 have key:∀(names:List (Str×NameKind)) (acc:List (Str×Addr)),(∀x∈names,x.2= .free→∃c,env.cells.lookup x.1=some c)→
  (forIn names acc (fun(x:Str×NameKind) (cs:List (Str×Addr))=>if(x.2==NameKind.free)=true then(do let a ←cellOf env x.1;pure (ForInStep.yield ((x.1,a)::cs)):Sem (ForInStep (List (Str×Addr))))else pure (ForInStep.yield cs)))=(pure (df env.cells names acc):Sem (List (Str×Addr))):=by
  intro names
  induction names with
  |nil=>intro acc _;rfl
  |cons p r ih=>
   intro acc hh
   obtain⟨n,k⟩:=p
   rw[List.forIn_cons]
   have ih':=ih
   by_cases hk:(k==NameKind.free)=true
   · obtain⟨c,e⟩:=hh (n,k) List.mem_cons_self (by simpa using hk)
     simp only[hk,if_true]
     have e1:cellOf env n=pure c:=by
      unfold cellOf
      rw[e]
     rw[e1]
     simp only[pure_bind]
     rw[ih _ fun x hx=>hh x (List.mem_cons_of_mem _ hx)]
     conv=>rhs;unfold df
     simp only[hk,if_true]
     rw[show env.cells.lookup n=some c from e]
   · have hk':(k==NameKind.free)=false:=by simpa using hk
     simp only[hk',Bool.false_eq_true,if_false,pure_bind]
     rw[ih _ fun x hx=>hh x (List.mem_cons_of_mem _ hx)]
     conv=>rhs;unfold df
     simp only[hk',Bool.false_eq_true,if_false]
 unfold closureFor
 have:=key scope.names [] h
 rw[bind_pure]
 first
  |exact this
  |(simp only[bind_pure]at this⊢;exact this)
end L3
namespace L3
open PySem PySem.Spec L2
open PyProof.Rows hiding St
theorem iN(env:Env):∀(names:List (Str×NameKind)) (x:Str),
 (names.map fun(n,k)=>if(k==NameKind.free&&env.scope.kind== .function&&env.kindOf n==some .cell)then(n,NameKind.cell)else(n,k)).lookup x=
   (names.lookup x).map fun k=>if(k==NameKind.free&&env.scope.kind== .function&&env.kindOf x==some .cell)then NameKind.cell else k
 | [],_=>rfl
 |(n,k)::r,x=>by
  show List.lookup x ((if(k==NameKind.free&&env.scope.kind== .function&&env.kindOf n==some .cell)=true then(n,NameKind.cell)else(n,k))::_)=_
  cases hx:x==n with
  |true=>
   have e:x=n:=by simpa using hx
   subst e
   by_cases hc:(k==NameKind.free&&env.scope.kind== .function&&env.kindOf x==some .cell)=true
   · rw[if_pos hc];simp only[List.lookup_cons,beq_self_eq_true,Option.map_some];rw[if_pos hc]
   · rw[if_neg hc];simp only[List.lookup_cons,beq_self_eq_true,Option.map_some];rw[if_neg hc]
  |false=>
   by_cases hc:(k==NameKind.free&&env.scope.kind== .function&&env.kindOf n==some .cell)=true
   · rw[if_pos hc];simp only[List.lookup_cons,hx];exact iN env r x
   · rw[if_neg hc];simp only[List.lookup_cons,hx];exact iN env r x
theorem yG{env:Env}{scope:Scope}{x:Str}(h:scope.names.lookup x=some .free):(relabel scope env).names.lookup x=some .cell∨(relabel scope env).names.lookup x=some .free:=by
 have e:(relabel scope env).names.lookup x=_:=iN env scope.names x
 rw[e,h]
 simp only[Option.map_some]
 split
 · exact .inl rfl
 · exact .inr rfl
theorem x3{env:Env}{scope:Scope}{x:Str}(h:(relabel scope env).names.lookup x=some .cell∨(relabel scope env).names.lookup x=some .free):(x,NameKind.free)∈scope.names∨scope.names.lookup x=some .cell:=by
 have e:(relabel scope env).names.lookup x=_:=iN env scope.names x
 rw[e]at h
 cases q:scope.names.lookup x with
 |none=>rw[q]at h;rcases h with h|h<;>cases h
 |some k=>
  rw[q]at h
  simp only[Option.map_some]at h
  have m:=PySem.mem_of_lookup q
  by_cases hc:(k==NameKind.free&&env.scope.kind== .function&&env.kindOf x==some .cell)=true
  · have:k= .free:=by
     simp only[Bool.and_eq_true]at hc
     simpa using hc.1.1
    subst this;exact .inl m
  · rw[if_neg hc]at h
    rcases h with h|h
    · cases h;exact .inr rfl
    · cases h;exact .inl m
theorem fL:∀(names:List (Str×NameKind)) (L:Nat) (acc:List (Str×Addr)),cellsFrom L names acc=cellsFrom L names []++acc
 | [],_,_=>rfl
 |(n,k)::r,L,acc=>by
  unfold cellsFrom
  by_cases hk:(k==NameKind.cell)=true
  · rw[if_pos hk,if_pos hk,fL r (L+1) ((n,L)::acc),fL r (L+1) [(n,L)],List.append_assoc];rfl
  · rw[if_neg hk,if_neg hk];exact fL r L acc
theorem qy:∀ {names:List (Str×NameKind)} {L:Nat} {x:Str} {c:Addr},(x,c)∈cellsFrom L names []→(x,NameKind.cell)∈names
 | [],_,_,_,h=>by unfold cellsFrom at h;cases h
 |(n,k)::r,L,x,c,h=>by
  unfold cellsFrom at h
  by_cases hk:(k==NameKind.cell)=true
  · rw[if_pos hk,fL]at h
    have hk':k= .cell:=by simpa using hk
    subst hk'
    rcases List.mem_append.mp h with h|h
    · exact List.mem_cons_of_mem _ (qy h)
    · have:(x,c)=(n,L):=by simpa using h
      cases this
      exact List.mem_cons_self
  · rw[if_neg hk]at h
    exact List.mem_cons_of_mem _ (qy h)
theorem ph:∀ {l1 l2:List (Str×Addr)} {x:Str} {c:Addr},(l1++l2).lookup x=some c→l1.lookup x=some c∨(l1.lookup x=none∧l2.lookup x=some c)
 | [],_,_,_,h=> .inr ⟨rfl,h⟩
 |(n,d)::l1,l2,x,c,h=>by
  rw[List.cons_append,List.lookup_cons]at h
  rw[List.lookup_cons]
  cases hx:x==n with
  |true=>rw[hx]at h;exact .inl h
  |false=>rw[hx]at h;exact ph h
theorem sA:∀ {l1 l2:List (Str×Addr)} {x:Str},l1.lookup x=none→(l1++l2).lookup x=l2.lookup x
 | [],_,_,_=>rfl
 |(n,d)::l1,l2,x,h=>by
  rw[List.lookup_cons]at h
  rw[List.cons_append,List.lookup_cons]
  cases hx:x==n with
  |true=>rw[hx]at h;cases h
  |false=>rw[hx]at h;exact sA h
noncomputable def k9(scope:Scope)(C:Addr)(cl:List (Str×Addr)):List (Str×Addr):=cellsFrom (C+1) scope.names cl
theorem ij{scope:Scope}{C:Addr}{cl:List (Str×Addr)}{x:Str}{c:Addr}(h:(k9 scope C cl).lookup x=some c):(x,c)∈cellsFrom (C+1) scope.names []∨cl.lookup x=some c:=by
 unfold k9 at h
 rw[fL]at h
 rcases ph h with h|h
 · exact .inl (PySem.mem_of_lookup h)
 · exact .inr h.2
theorem HB(names:List (Str×NameKind))(h:Heap){C:Addr}(e:h.objs.size=C+1):CellsOk (pushCells h names) (C+1) (cellsFrom (C+1) names []):=by
 have:=cellsFrom_ok names h (C+1) [] ⟨fun _ _ hm=>(nomatch hm),List.Pairwise.nil⟩ (by rw[e];exact Nat.le_refl _)
 rw[e]at this
 exact this
theorem nj{names:List (Str×NameKind)}{C:Addr}{x:Str}{c:Addr}:∀ {L:Nat},C≤L→(x,c)∈cellsFrom L names []→C≤c:=by
 induction names with
 |nil=>intro L _ h;unfold cellsFrom at h;cases h
 |cons p r ih=>
  obtain⟨n,k⟩:=p
  intro L hL h
  unfold cellsFrom at h
  by_cases hk:(k==NameKind.cell)=true
  · rw[if_pos hk,fL]at h
    rcases List.mem_append.mp h with h|h
    · exact ih (Nat.le_trans hL (Nat.le_succ L)) h
    · have:(x,c)=(n,L):=by simpa using h
      cases this
      exact hL
  · rw[if_neg hk]at h
    exact ih hL h
theorem own_apart{names:List (Str×NameKind)}{x y:Str}{c:Addr}:∀ {L:Nat},(x,c)∈cellsFrom L names []→(y,c)∈cellsFrom L names []→x=y:=by
 induction names with
 |nil=>intro L h;unfold cellsFrom at h;cases h
 |cons p r ih=>
  obtain⟨n,k⟩:=p
  intro L h1 h2
  unfold cellsFrom at h1 h2
  by_cases hk:(k==NameKind.cell)=true
  · rw[if_pos hk,fL]at h1 h2
    rcases List.mem_append.mp h1 with g1|g1<;>rcases List.mem_append.mp h2 with g2|g2
    · exact ih g1 g2
    · have e2:(y,c)=(n,L):=by simpa using g2
      have ec:c=L:=(Prod.mk.inj e2).2
      have:=nj (C:=L+1) (Nat.le_refl _) g1
      rw[ec]at this
      exact absurd this (Nat.not_succ_le_self _)
    · have e1:(x,c)=(n,L):=by simpa using g1
      have ec:c=L:=(Prod.mk.inj e1).2
      have:=nj (C:=L+1) (Nat.le_refl _) g2
      rw[ec]at this
      exact absurd this (Nat.not_succ_le_self _)
    · have e1:(x,c)=(n,L):=by simpa using g1
      have e2:(y,c)=(n,L):=by simpa using g2
      exact(Prod.mk.inj e1).1.trans (Prod.mk.inj e2).1.symm
  · rw[if_neg hk]at h1 h2
    exact ih h1 h2
theorem tj{M:Model}{A:Around}{E:Value→Shared→Prop}{s:Shared}{scope:Scope}{globals:Addr}{cl:List (Str×Addr)}{qual:Str}{env:Env}{Q:Env→Shared→Prop}
 (hQ:Q (newEnv scope s.heap.objs.size globals (k9 scope s.heap.objs.size cl) qual none .none (some env) builtinsNs) {s with heap:=pushCells (s.heap.push {cls:= .type "dict",data:= .dict #[]}) scope.names}):
 wpAny M A (newFunctionEnv scope globals cl [] qual none .none (some env)) Q E s:=by
 simp only[newFunctionEnv,Option.isSome_some,if_true]
 refine wpAny_bind (wpAny_alloc ?_)
 refine wpAny_bind (wpAny_layCells _ (fun name kind cells=>by cases hkc:kind==NameKind.cell<;>simp[hkc]) _ _ _ _ ?_)
 rw[show({s with heap:=s.heap.push {cls:= .type "dict",data:= .dict #[]}}:Shared).heap.objs.size=s.heap.objs.size+1 from Heap.size_push ..]
 rw[List.forIn_nil]
 exact wpAny_bind (wpAny_pure (wpAny_pure hQ))
structure ba(X:Cx)(scope:Scope)(Nc:List Str)(fr:List (Option Nat)):Prop where
 kind:scope.kind= .function
 cells:∀x∈scope.names,x.2= .cell→scope.names.lookup x.1=some .cell
 names:∀x∈scope.names,x.2= .local→scope.names.lookup x.1=some .local
 free:∀x∈scope.names,x.2= .free→X.env.kindOf x.1=some .cell∨X.env.kindOf x.1=some .free
 len:fr.length=Nc.length
 map:∀(i j:Nat) (x:Str),Nc[i]?=some x→fr[i]?=some (some j)→X.N[j]?=some x∧scope.names.lookup x=some .free∧(X.env.kindOf x=some .cell∨X.env.kindOf x=some .free)
noncomputable def σC(fr:List (Option Nat))(σ:St):St:=fr.map fun o=>o.bind fun j=>(σ[j]?).join
noncomputable def fu(X:Cx)(scope:Scope)(Nc:List Str)(C:Addr)(s:Shared)(H:Hp)(ex:List Addr):Cx:=
 {X with N:=Nc,s₀:=s,H₀:=H,env:=compEnvC scope (k9 scope C (df X.env.cells scope.names [])) C X.env,outer:=X.stack,stack:=X.stack,ex:=ex,fn:=fun x=>scope.names.lookup x==some .cell,pn:=[],xe:=fun _ _=>False}
noncomputable def uz(wi:TI)(fr:List (Option Nat))(g:TG)(c:TT)(te:TE):TE:=fun σ H Q=>wi σ H fun J H1=>∀l,H1 l=none→
 ∃W:Nat→Nat→L2.St→Hp→Prop,(∃m,W 0 m (σC fr σ) (upd H1 l (.lst [])))∧∀i m σ H,W i m σ H→
  (J.stop i H∧Q (.ref l) H)∨(J.go i H∧∃N:L2.St→Hp→Prop,(∀σ' H',N σ' H'→∃m',m'<m∧W (i+1) m' σ' H')∧∀x H',J.nG i H x H'→
    g x σ H' fun σ2 H2=>c σ2 H2 fun b H3=>if b=true then te σ2 H3 fun y H4=>∃ys,H4 l=some (.lst ys)∧ys.length<sizeLine∧N σ2 (upd H4 l (.lst (ys++[y])))else N σ2 H3)
noncomputable def qh(X:Cx)(ifs:List Expr)(t:TT):Prop:=
 ∀(pins:List (Addr×Obj)) (s:Shared) (σ:St) (H:Hp) (Q:Bool→Hp→Prop),Inv X pins σ H s→t σ H Q→
  wpAny (model X.prog X.w) X.A (forIn ifs true fun c r=>if r=true then do let ok ←isTrue c X.env (eval c X.env);pure (ForInStep.yield ok)else pure (ForInStep.yield r)) (TP X pins σ Q) X.xe s
noncomputable def Ln:TT:=fun _ H Q=>Q true H
theorem F3{X:Cx}:qh X [] Ln:=fun _ _ _ H _ I h=>wpAny_tests_nil ⟨H,I,h⟩
theorem FN{X:Cx}{c:Expr}{t:TT}(h:PT X c t):qh X [c] t:=fun pins s σ H Q I q=>wpAny_tests_one (h pins s σ H Q I q)
section
variable {X:Cx}{scope:Scope}{Nc:List Str}{fr:List (Option Nat)}{pins:List (Addr×Obj)}{σ:St}{H:Hp}{s:Shared}
theorem JN{C:Addr}{fp:List Addr}(S:ba X scope Nc fr)(I:Inv X pins σ H s)(hC:C=s.heap.objs.size)(hf:∀b∈fp,kF X pins H b)(hlt:∀b∈fp,b<s.heap.objs.size)(hnc:∀b∈fp,∀x c,X.env.cells.lookup x=some c→c≠b):
 (fu X scope Nc C s H fp).Ok where
 mod:=I.ok.mod
 kind:=S.kind
 glob:=I.ok.glob
 blt:=I.ok.blt
 above:=Nat.le_of_eq hC.symm
 inj:=fun x y c h1 h2=>by
  have low:∀ {z},(df X.env.cells scope.names []).lookup z=some c→c<s.heap.objs.size:=fun{z} hz=>by
   obtain⟨v,q⟩:=I.cell z c (cR _ [] (fun _ _ e=>by cases e) z c hz)
   exact q.lt
  rcases ij h1 with h1|h1<;>rcases ij h2 with h2|h2
  · exact own_apart h1 h2
  · have a:=nj (C:=C+1) (Nat.le_refl _) h1
    have b:c<C:=by rw[hC];exact low h2
    exact absurd a (Nat.not_le_of_gt (Nat.lt_succ_of_lt b))
  · have a:=nj (C:=C+1) (Nat.le_refl _) h2
    have b:c<C:=by rw[hC];exact low h1
    exact absurd a (Nat.not_le_of_gt (Nat.lt_succ_of_lt b))
  · exact I.ok.inj x y c (cR _ [] (fun _ _ e=>by cases e) x c h1) (cR _ [] (fun _ _ e=>by cases e) y c h2)
 has:=fun x hx=>by
  rcases x3 hx with m|m
  · obtain⟨c,e⟩:=ix scope.names [] (I.ok.has x (S.free _ m rfl)) (.inl m)
    exact Option.isSome_iff_exists.mp (PySem.W.cellsFrom_some _ _ _ (.inr (by rw[e];rfl)))
  · exact Option.isSome_iff_exists.mp (PySem.W.cellsFrom_some _ _ _ (.inl m))
 xw:=fun x c hf h=>by
  have hl:scope.names.lookup x=some .cell:=by
   have:(scope.names.lookup x==some .cell)=true:=hf
   simpa using this
  obtain⟨c',e⟩:=Option.isSome_iff_exists.mp (PySem.W.cellsFrom_some (x:=x) scope.names (C+1) [] (.inl hl))
  have h':(cellsFrom (C+1) scope.names []++df X.env.cells scope.names []).lookup x=some c:=by
   rw[←fL];exact h
  rcases ph h' with q|q
  · have:=nj (C:=C+1) (Nat.le_refl _) (PySem.mem_of_lookup q)
    show s.heap.objs.size≤c
    rw[←hC];exact Nat.le_of_succ_le this
  · rw[q.1]at e;cases e
 hd:=I.ok.hd
 frames:=I.ok.frames
 zU:= .inl rfl
 BL:=fun b hb=>⟨by rw[show(fu X scope Nc C s H fp).env.locals=s.heap.objs.size from hC];exact Nat.ne_of_lt (hlt b hb),fun x c h=>by
  rcases ij h with h|h
  · have a:=nj (C:=C+1) (Nat.le_refl _) h
    have b':b<C:=by rw[hC];exact hlt b hb
    exact Nat.ne_of_gt (Nat.lt_of_lt_of_le b' (Nat.le_of_succ_le a))
  · exact hnc b hb x c (cR _ [] (fun _ _ e=>by cases e) x c h)⟩
 bs:=I.bs
 qb:=Nat.le_trans I.ok.qb I.sz
 sY:=fun b o e hb=>by
  have hn:=(hf b hb).2.2.2.1
  rcases hn with hn|hn
  · exact I.ok.sY b o e hn
  · exact absurd (Heap.lt_size (I.ok.bs b o e).1) (Nat.not_lt.mpr hn)
 tx:=fun b hb z=>by
  have q:=I.yN b z
  rcases List.mem_cons.mp q with q|q
  · exact(hf b hb).2.1 q
  · exact(hf b hb).2.2.1 q
 jV:=I.stack
 ue:=fun b hb=>I.ve b hb
 gt:=I.ok.gt
theorem zu{i:Nat}{v:V}(h:(σC fr σ)[i]?=some (some v)):∃j,fr[i]?=some (some j)∧σ[j]?=some (some v):=by
 unfold σC at h
 rw[List.getElem?_map]at h
 cases q:fr[i]? with
 |none=>rw[q]at h;cases h
 |some o=>
  rw[q]at h
  cases o with
  |none=>simp at h
  |some j=>
   simp only[Option.map_some,Option.some.injEq,Option.bind_some]at h
   refine⟨j,rfl,?_⟩
   cases r:σ[j]? with
   |none=>rw[r]at h;cases h
   |some u=>rw[r]at h;simp at h;rw[h]
theorem DN{s':Shared}{h':Heap}{C:Addr}{fp:List Addr}{t':Nat}(S:ba X scope Nc fr)(I:Inv X pins σ H s)(hC:C=s.heap.objs.size)(ok:(fu X scope Nc C s H fp).Ok)(hfr:∀b∈fp,H b=none)
 (k:∀b o,s.heap.get? b=some o→h'.get? b=some o) (hn:h'.Ns C (fun _=>none)) (hcs:∀x c,(x,c)∈cellsFrom (C+1) scope.names []→h'.IsCell c none):Inv (fu X scope Nc C s H fp) [] (σC fr σ) H {s with heap:=h',toks:=t'} where
 ok:=ok
 os:=rfl
 bare:=I.bare
 base:=Un.kept k
 loc:=⟨_,hn,fun i x v h1 h2 h3=>by
  obtain⟨j,q1,q2⟩:=zu h2
  obtain⟨n1,n2,n3⟩:=S.map i j x h1 q1
  obtain⟨m,hm,hl⟩:=I.loc
  have vis:xU X.env.scope x:=by
   rcases n3 with z|z
   · exact .inr (.inl z)
   · exact .inr (.inr z)
  obtain⟨u,r,lk⟩:=hl j x v n1 q2 vis
  refine⟨u,r,?_⟩
  rcases lk with⟨z,_⟩|⟨z,c,e,ic⟩
  · rcases n3 with y|y
    · rw[y]at z;cases z
    · rw[y]at z;cases z
  · refine .inr ⟨yG n2,?_⟩
    obtain⟨c',e'⟩:=ix scope.names [] ⟨c,e⟩ (.inl (PySem.mem_of_lookup n2))
    have e2:=cR _ [] (fun _ _ e=>by cases e) x c' e'
    rw[e]at e2;cases e2
    refine⟨c,?_,ic.keeps k⟩
    show(k9 scope C (df X.env.cells scope.names [])).lookup x=some c
    unfold k9
    rw[fL,sA ?_]
    · exact e'
    · cases q:(cellsFrom (C+1) scope.names []).lookup x with
      |none=>rfl
      |some c2=>
       have:=S.cells _ (qy (PySem.mem_of_lookup q)) rfl
       rw[n2]at this;cases this⟩
 cell:=fun x c h=>by
  rcases ij h with h|h
  · exact⟨_,hcs x c h⟩
  obtain⟨v,q⟩:=I.cell x c (cR _ [] (fun _ _ e=>by cases e) x c h)
  exact⟨v,q.keeps k⟩
 free:=by show H C=none;rw[hC];exact I.aI.fresh (Nat.le_refl _)
 h7:=fun x c h=>by
  rcases ij h with h|h
  · have a:=nj (C:=C+1) (Nat.le_refl _) h
    exact I.aI.fresh (by rw[←hC];exact Nat.le_of_succ_le a)
  · exact I.h7 x c (cR _ [] (fun _ _ e=>by cases e) x c h)
 pin:=fun p hp=>by cases hp
 aI:=I.aI.kept k
 len:=by unfold σC;rw[List.length_map];exact S.len
theorem Inv.forget{C:Addr}{h':Heap}(I:Inv X pins σ H s)(f:kF X pins H C)(hs:Heap.SameBut C s.heap h'):Inv X pins σ H {s with heap:=h'}:=by
 refine I.AW (s':={s with heap:=h'}) (ch:=[C]) rfl ?_ ?_ I.bare fun b hb=>?_
 · have ne:∀b,b∉[C]→b≠C:=fun b hb z=>hb (by simp[z])
   exact{keep:=fun b o q _ _ hx=>(hs.2 b (ne b hx)).trans q,slot:=fun b o q _ _ hx=>⟨o.slots,(hs.2 b (ne b hx)).trans q⟩,free:=fun b o q n _=>n,there:=fun b o q hx=>⟨o,(hs.2 b (ne b hx)).trans q⟩,nY:=fun _ _ e=>e,mJ:=fun _ _ _ e=>e,mK:=fun b ps e=>⟨#[],by rw[e];simp⟩}
 · intro a o q
   have na:∀b u,H b=some u→b≠C:=fun b u q z=>by rw[z,f.1]at q;cases q
   refine(I.aI a o q).oj (fun b u hb e=>?_) (fun _ q=>q) fun _ _ q=>q
   rw[hs.2 b ?_]
   · exact e
   · rcases hb with rfl|hb
     · exact na _ _ q
     · exact na _ _ hb
 · have:b=C:=by simpa using hb
   subst this
   exact⟨f.2.2.2.1,f.2.1,f.2.2.2.2.1,f.2.2.2.2.2⟩
theorem uc{elt tg iter:Expr}{ifs:List Expr}{wi:TI}{g:TG}{c:TT}{te:TE}{pos:Pos}{Q:VK}{RR:Value→Addr→Result→Shared→Prop}(hx:X.xe=fun _ _=>False)(hc:X.calm=true)(S:ba X scope Nc fr)(hi:PI X tg iter wi)
 (hg:∀C s H ex,PG (fu X scope Nc C s H ex) tg g) (ht:∀C s H ex,qh (fu X scope Nc C s H ex) ifs c) (he:∀C s H ex,PE (fu X scope Nc C s H ex) elt te) (I:Inv X pins σ H s) (h:uz wi fr g c te σ H Q)
 (fin:∀(l C:Addr) (s6:Shared) (H5:Hp) (m:Str→Option Value),s6.heap.Ns C m→kF X pins H5 C→Inv X pins σ H5 s6→Q (.ref l) H5→RR (.ref l) C (.ok .next) s6):
 wpAny (model X.prog X.w) X.A (eval iter X.env) (fun x s₁=>wpAny (model X.prog X.w) X.A (pyIter x) (fun it s₂=>wpAny (model X.prog X.w) X.A (newList []) (fun acc s₃=>
  wpAny (model X.prog X.w) X.A (newFunctionEnv scope X.env.globals (df X.env.cells scope.names []) [] X.env.qual none .none (some X.env)) (fun cenv s₄=>
   codeAny (model X.prog X.w) X.A (.compStart (.ListComp elt [⟨tg,iter,ifs,0⟩] scope pos) 0 it acc {cenv with scope:=relabel scope X.env}) (RR acc cenv.locals) s₄) X.xe s₃) X.xe s₂) X.xe s₁) X.xe s:=by
 refine bU (hi pins s σ H _ I h) fun v s1 h1=>bU h1 fun itv s2 h2=>?_
 obtain⟨it,fp,tn,J,H2,e,I2,T,st2,f2,hR⟩:=h2
 subst e
 refine wpAny_newList ?_ (Nat.zero_le _)
 have I3:=I2.DU (t':=s2.toks) (aq:=[]) (ys:=[]) .nil (Nat.zero_le _)
 generalize e3:({s2 with heap:=s2.heap.push {cls:= .type "list",data:= .seq ([]:List Value).toArray}}:Shared)=s3
 have I3:Inv X pins σ (upd H2 s2.heap.objs.size (.lst [])) s3:=by rw[←e3];exact I3
 have ml:s2.heap.objs.size<s3.heap.objs.size:=by rw[←e3];show _<(s2.heap.push _).objs.size;rw[Heap.size_push];omega
 have k3:∀b o,s2.heap.get? b=some o→s3.heap.get? b=some o:=fun b o q=>by rw[←e3];exact Heap.get?_push_of_some _ q
 obtain⟨W,⟨m0,w0⟩,turn⟩:=hR s2.heap.objs.size (I2.aI.fresh (Nat.le_refl _))
 refine tj ?_
 have hn:(pushCells (s3.heap.push {cls:= .type "dict",data:= .dict #[]}) scope.names).Ns s3.heap.objs.size (fun _=>none):=(Heap.Ns.new s3.heap (.type "dict")).keeps (pushCells_keeps _ _)
 have hcs:∀x c,(x,c)∈cellsFrom (s3.heap.objs.size+1) scope.names []→(pushCells (s3.heap.push {cls:= .type "dict",data:= .dict #[]}) scope.names).IsCell c none:=fun x c h=>((HB scope.names _ (Heap.size_push ..)).empty x c h).1
 have k4:∀b o,s3.heap.get? b=some o→(pushCells (s3.heap.push {cls:= .type "dict",data:= .dict #[]}) scope.names).get? b=some o:=fun b o q=>pushCells_keeps _ _ b o (Heap.get?_push_of_some _ q)
 generalize(pushCells (s3.heap.push {cls:= .type "dict",data:= .dict #[]}) scope.names)=h' at hn hcs k4⊢
 have hobj:∀b∈fp,∃o,s2.heap.get? b=some o∧∀v,o.data≠ .cell v:=T.obj _ _ st2
 have hlt2:∀b∈fp,b<s3.heap.objs.size:=fun b hb=>let⟨o,q,_⟩:=hobj b hb;Heap.lt_size (k3 b o q)
 have hnl:∀b∈fp,b≠s2.heap.objs.size:=fun b hb=>by
  obtain⟨o,q,_⟩:=hobj b hb
  exact Nat.ne_of_lt (Heap.lt_size q)
 have f3:∀b∈fp,kF X pins (upd H2 s2.heap.objs.size (.lst [])) b:=fun b hb=>⟨by rw[aC (hnl b hb)];exact(f2 b hb).1,(f2 b hb).2⟩
 have ok:=JN (C:=s3.heap.objs.size) (fp:=fp) S I3 rfl f3 hlt2 fun b hb=>(f2 b hb).2.2.2.2.1
 have I4:Inv (fu X scope Nc s3.heap.objs.size s3 (upd H2 s2.heap.objs.size (.lst [])) fp) [] (σC fr σ) (upd H2 s2.heap.objs.size (.lst [])) {s3 with heap:=h',toks:=s3.toks}:=
  DN (s':=s3) S I3 rfl ok (fun b hb=>(f3 b hb).1) k4 hn hcs
 have st4:tn 0 h':=T.keep _ _ _ st2 fun b _ o q=>k4 b o (k3 b o q)
 generalize hXc:fu X scope Nc s3.heap.objs.size s3 (upd H2 s2.heap.objs.size (.lst [])) fp=Xc at I4
 have hgc:PG Xc tg g:=by rw[←hXc];exact hg _ _ _ _
 have htc:qh Xc ifs c:=by rw[←hXc];exact ht _ _ _ _
 have hec:PE Xc elt te:=by rw[←hXc];exact he _ _ _ _
 have xP:Xc.prog=X.prog:=by rw[←hXc];rfl
 have xW:Xc.w=X.w:=by rw[←hXc];rfl
 have xK:Xc.K=X.K:=by rw[←hXc];rfl
 have xc:Xc.calm=true:=by rw[←hXc];exact hc
 have xA:Xc.A=X.A:=by rw[←hXc];rfl
 have xE:Xc.env=compEnvC scope (k9 scope s3.heap.objs.size (df X.env.cells scope.names [])) s3.heap.objs.size X.env:=by rw[←hXc];rfl
 have xx:Xc.xe=fun _ _=>False:=by rw[←hXc];rfl
 have fpc:∀ {H':Hp},(∀b∈fp,H' b=none)→∀b∈fp,kF Xc [] H' b:=fun{H'} hn b hb=>by
  rw[←hXc]
  refine⟨hn b hb,Nat.ne_of_lt (hlt2 b hb),ok.tx b hb,.inl hb,(ok.BL b hb).2,fun p hp=>by cases hp⟩
 have loop:codeAny (model X.prog X.w) X.A (.compLoop (.ListComp elt [⟨tg,iter,ifs,0⟩] scope pos) 0 (.ref it) (.ref s2.heap.objs.size) (compEnvC scope (k9 scope s3.heap.objs.size (df X.env.cells scope.names [])) s3.heap.objs.size X.env))
  (RR (.ref s2.heap.objs.size) s3.heap.objs.size) {s3 with heap:=h',toks:=s3.toks}:=by
  refine y_ (fun n s'=>∃i σ' H',Inv Xc [] σ' H' s'∧tn i s'.heap∧(∀b∈fp,H' b=none)∧W i n σ' H') ?_ m0 ⟨0,_,_,I4,st4,fun b hb=>(f3 b hb).1,w0⟩
  rintro n s5 ⟨i,σ5,H5,I5,st5,fr5,w5⟩
  rcases turn i n σ5 H5 w5 with⟨stop,qn⟩|⟨go,N,hN,step⟩
  · have q:=T.done Xc xP xW xK xc i [] s5 σ5 H5 (fun _ _=>False) I5 (fpc fr5) st5 stop
    rw[xA]at q
    refine bU q fun r s6 ⟨hr,I6⟩=>?_
    subst hr
    obtain⟨m,hm,_⟩:=I6.loc
    rw[xE]at hm
    have free6:H5 s3.heap.objs.size=none:=by have:=I6.free;rw[xE]at this;exact this
    have un6:Un (oG X.stack) fp (upd H2 s2.heap.objs.size (.lst [])) H5 s3.heap s6.heap:=by have:=I6.base;rw[←hXc]at this;exact this
    have os6:s6.os=s3.os:=by have:=I6.os;rw[←hXc]at this;exact this
    have hok6:gN X.prog X.w H5 s6.heap:=by have:=I6.aI;rw[xP,xW]at this;exact this
    have J:=I3.AW (s':=s6) (ch:=fp) os6 un6 hok6 I6.bare fun b hb=>⟨(f3 b hb).2.2.2.1,(f3 b hb).2.1,(f3 b hb).2.2.2.2.1,(f3 b hb).2.2.2.2.2⟩
    exact fin _ _ s6 H5 m hm (I3.tD (Nat.le_refl _) free6) J qn
  · have q:=T.item Xc xP xW xK xc i [] s5 σ5 H5 (fun _ _=>False) I5 (fpc fr5) st5 go
    rw[xA]at q
    refine bU q fun r s6 ⟨u,hr,h6⟩=>?_
    subst hr
    refine bU h6 fun _ s7 ⟨x,H7,I7,r7,y7,st7,fr7⟩=>?_
    have I7':=I7.pinned (fpc fr7) (T.obj _ _ st7)
    have q8:=hgc _ s7 σ5 H7 x u _ I7' r7 (step x H7 y7)
    rw[xP,xW,xA,xE,xx]at q8
    refine bU q8 fun _ s8 ⟨σ8,H8,I8,q8⟩=>?_
    have q9:=htc _ s8 σ8 H8 _ I8 q8
    rw[xP,xW,xA,xE,xx]at q9
    refine bU q9 fun b s9 ⟨H9,I9,q9⟩=>?_
    have again:∀ {H':Hp} {s':Shared},Inv Xc ([]++qX fp s7.heap) σ8 H' s'→N σ8 H'→∃m,m<n∧∃i σ' H',Inv Xc [] σ' H' s'∧tn i s'.heap∧(∀b∈fp,H' b=none)∧W i m σ' H':=fun{H' s'} J nn=>by
     obtain⟨m',hm,w7⟩:=hN σ8 H' nn
     refine⟨m',hm,i+1,σ8,H',J.gH,T.keep _ _ _ st7 fun b hb o e=>(J.pin (b,o) (List.mem_append_right _ (List.mem_append_right _ (mi hb e)))).1,fun b hb=>?_,w7⟩
     obtain⟨o,e,d⟩:=T.obj _ _ st7 b hb
     exact(J.pin (b,o) (List.mem_append_right _ (List.mem_append_right _ (mi hb e)))).2.1
    cases b with
    |false=>exact again I9 q9
    |true=>
     have qe:=hec _ s9 σ8 H9 _ I9 q9
     rw[xP,xW,xA,xE,xx]at qe
     refine bU qe fun y s10 ⟨vy,H10,I10,ry,ys,hy,hlt,qN⟩=>?_
     have qa:=vm (X:=Xc) _ s10 σ8 H10 (.ref s2.heap.objs.size) [vy] (.ref s2.heap.objs.size) [y] (fun _ H'=>N σ8 H') I10 rfl (.cons ry .nil) ⟨_,ys,vy,rfl,rfl,hy,hlt,qN⟩
     rw[xP,xW,xA,xx]at qa
     exact bU qa fun _ s11 ⟨_,H11,I11,_,q11⟩=>again I11 q11
 refine codeAny_compStart_list ?_ ?_
 · exact loop
 · exact T.self _ 0 _ _ _ st4 loop
theorem zI{elt tg iter:Expr}{ifs:List Expr}{wi:TI}{g:TG}{c:TT}{te:TE}{pos:Pos}(hx:X.xe=fun _ _=>False)(hc:X.calm=true)(S:ba X scope Nc fr)(hi:PI X tg iter wi)
 (hg:∀C s H ex,PG (fu X scope Nc C s H ex) tg g) (ht:∀C s H ex,qh (fu X scope Nc C s H ex) ifs c) (he:∀C s H ex,PE (fu X scope Nc C s H ex) elt te)
 (hs:∀x,foldedSetIterable iter X.env x=pure x:=by intro _;rfl):PE X (.ListComp elt [⟨tg,iter,ifs,0⟩] scope pos) (uz wi fr g c te):=by
 intro pins s σ H Q I h
 rw[eval_ListComp]
 have hcl:closureFor scope X.env=pure (df X.env.cells scope.names []):=lO fun x hx hk=>I.ok.has x.1 (S.free x hx hk)
 refine wpAny_comprehension_free rfl hs hcl S.kind S.names ?_
 exact uc (RR:=fun acc C=>compPost (model X.prog X.w) X.A X.xe none (EP X pins σ Q) acc C) hx hc S hi hg ht he I h fun l C s6 H5 m hm f J q=>⟨m,hm,fun h'' hs''=>⟨.ref l,H5,Inv.forget J f hs'',rfl,q⟩⟩
theorem GP{elt tg iter:Expr}{ifs:List Expr}{wi:TI}{g:TG}{c:TT}{te:TE}{pos pos' spos:Pos}{i:Nat}{x:Str}(hx:X.xe=fun _ _=>False)(hc:X.calm=true)(S:ba X scope Nc fr)(hi:PI X tg iter wi)
 (hg:∀C s H ex,PG (fu X scope Nc C s H ex) tg g) (ht:∀C s H ex,qh (fu X scope Nc C s H ex) ifs c) (he:∀C s H ex,PE (fu X scope Nc C s H ex) elt te) (hN:X.N.Nodup) (hni:X.N[i]?=some x) (hl:Loc X.env.scope x) (hf:X.fn x=true∨X.env.scope.names.lookup x=some .local)
 (hsw:swapsWith (.ListComp elt [⟨tg,iter,ifs,0⟩] scope pos) (some (.Name x pos')) spos.line X.env=pure true)
 (hs:∀x,foldedSetIterable iter X.env x=pure x:=by intro _;rfl):PS X (.Assign [.Name x pos'] (.ListComp elt [⟨tg,iter,ifs,0⟩] scope pos) spos) (nZ (uz wi fr g c te) (mf i)):=by
 intro pins s σ H D I h
 have hcl:closureFor scope X.env=pure (df X.env.cells scope.names []):=lO fun x hx hk=>I.ok.has x.1 (S.free x hx hk)
 rw[exec_Assign_Name_used _ _ _ _ hsw]
 refine wpAny_bind (wpAny_standAt (wpAny_bind ?_))
 show wpAny _ X.A (do let _ ←comprehension (.ListComp elt [⟨tg,iter,ifs,0⟩] scope pos) scope X.env _ (newList []) false (eval iter X.env) (some (assign (.Name x pos') X.env))) _ _ s
 refine wpAny_bind (wpAny_mono (wpAny_comprehension_free (use:=some (assign (.Name x pos') X.env)) (Q:=fun _ s'=>SP X pins D .next s') rfl hs hcl S.kind S.names
  (uc (RR:=fun acc C=>compPost (model X.prog X.w) X.A X.xe (some (assign (.Name x pos') X.env)) (fun _ s'=>SP X pins D .next s') acc C) hx hc S hi hg ht he I h fun l C s6 H5 m hm f J q=>?_)) (fun _ s' hq=>wpAny_pure (wpAny_pure hq)) fun _ _ e=>e)
 show wpAny _ X.A (assign (.Name x pos') X.env (.ref l)) _ _ _
 refine wpAny_assign_Name (vz J hN hni hl (show RelV (.ref l) (.ref l)from rfl) (fun s7 J7 hch=>?_) hf)
 obtain⟨a,hsame,ha⟩:=hch
 have hCa:C≠a:=by
  rcases ha with rfl|ha
  · exact f.2.1
  · exact fun z=>f.2.2.2.2.1 x a ha z.symm
 refine⟨m,hm.sameBut hsame hCa,fun h'' hs''=>⟨σ.set i (some (.ref l)),H5,Inv.forget J7 f hs'',q⟩⟩
end
end L3
namespace L3
open PySem PySem.Spec L2
open PyProof.Rows hiding St
inductive D where
 |aG|bl (b:Bool)|int (i:Int)|str (x:Str)|ty (n:String)|ref (n:Nat)|lst (xs:List D)|tup (xs:List D)
inductive Cell where
 |lst (xs:List D)|ins (C:Addr) (fs:List (Str×D))|dead
  |tab (P:Addr) (pos:Pos) (qual:Str) (b:Bool)
noncomputable abbrev ag:=List Cell
noncomputable abbrev cj:=List (Option D)
mutual
noncomputable def Rep(α:List (Option Addr))(H:Hp):D→V→Prop
 | .aG,v=>v= .aG
 | .bl b,v=>v= .bl b
 | .int i,v=>v= .int i
 | .str x,v=>v= .str x
 | .ty n,v=>v= .ty n
 | .ref n,v=>α[n]?=some none∨∃a,α[n]?=some (some a)∧v= .ref a
 | .lst xs,v=>∃a vs,v= .ref a∧some a∉α∧Rd H a (.lst vs)∧aJ α H xs vs
 | .tup xs,v=>∃a vs,v= .ref a∧some a∉α∧H a=some (.tup vs)∧aJ α H xs vs
noncomputable def aJ(α:List (Option Addr))(H:Hp):List D→List V→Prop
 | [],vs=>vs=[]
 |d::ds,vs=>∃v r,vs=v::r∧Rep α H d v∧aJ α H ds r
end
theorem bf{α:List (Option Addr)}{H:Hp}:∀ {ds:List D} {vs:List V},aJ α H ds vs↔Paired (Rep α H) ds vs
 | [],vs=>by
   unfold aJ
   constructor
   · rintro rfl;exact .nil
   · intro h;cases h;rfl
 |d::ds,vs=>by
  unfold aJ
  constructor
  · rintro⟨v,r,rfl,h1,h2⟩;exact .cons h1 (bf.mp h2)
  · intro h;cases h with|cons h1 h2=>exact⟨_,_,rfl,h1,bf.mpr h2⟩
section
variable {α:List (Option Addr)}{H:Hp}
theorem aJ.length{ds:List D}{vs:List V}(h:aJ α H ds vs):ds.length=vs.length:=Paired.length (bf.mp h)
theorem uF{A B:Type}{F:A→B→Prop}:∀ {xs:List A} {ys:List B} {i:Nat} {x:A},Paired F xs ys→xs[i]?=some x→∃y,ys[i]?=some y∧F x y
 |_,_,_,_,.nil,e=>by simp at e
 |_,_,0,_,.cons r _,e=>by simp at e;subst e;exact⟨_,rfl,r⟩
 |_,_,i+1,x,.cons _ t,e=>by
  obtain⟨u,h1,h2⟩:=uF (i:=i) (x:=x) t (by simpa using e)
  exact⟨u,by simpa using h1,h2⟩
theorem fG{A B:Type}{F:A→B→Prop}:∀ {xs xs':List A} {ys ys':List B},Paired F xs ys→Paired F xs' ys'→Paired F (xs++xs') (ys++ys')
 |_,_,_,_,.nil,s=>s
 |_,_,_,_,.cons r t,s=> .cons r (fG t s)
theorem r9{A B:Type}{F:A→B→Prop}:∀ {xs:List A} {ys:List B} (n:Nat),Paired F xs ys→Paired F (xs.take n) (ys.take n)
 |_,_,0,_=> .nil
 |_,_,_+1,.nil=> .nil
 |_,_,n+1,.cons r t=> .cons r (r9 n t)
theorem sf{A B:Type}{F:A→B→Prop}:∀ {xs:List A} {ys:List B} (n:Nat),Paired F xs ys→Paired F (xs.drop n) (ys.drop n)
 |_,_,0,r=>r
 |_,_,_+1,.nil=> .nil
 |_,_,n+1,.cons _ t=>sf n t
theorem uq{A B:Type}{F:A→B→Prop}{x:A}{y:B}(r:F x y):∀ {xs:List A} {ys:List B} (i:Nat),Paired F xs ys→Paired F (xs.set i x) (ys.set i y)
 |_,_,_,.nil=> .nil
 |_,_,0,.cons _ t=> .cons r t
 |_,_,i+1,.cons q t=> .cons q (uq r i t)
theorem k6{A B:Type}{F:A→B→Prop}{xs:List A}{ys:List B}(h:Paired F xs ys):∀k:Nat,Paired F (List.replicate k xs).flatten (List.replicate k ys).flatten
 |0=> .nil
 |k+1=>by
  rw[List.replicate_succ,List.replicate_succ,List.flatten_cons,List.flatten_cons]
  exact fG h (k6 h k)
theorem aJ.get{ds:List D}{vs:List V}{i:Nat}{d:D}(h:aJ α H ds vs)(e:ds[i]?=some d):∃v,vs[i]?=some v∧Rep α H d v:=uF (bf.mp h) e
end
structure Step(α:List (Option Addr))(H:Hp)(α':List (Option Addr))(H':Hp):Prop where
 ext:∀b o,some b∉α→H b=some o→H' b=some o
 pre:∀(n:Nat) (x:Option Addr),α[n]?=some x→α'[n]?=some x∨α'[n]?=some none
 new:∀b,some b∈α'→some b∉α→H b=none
theorem Step.refl{α:List (Option Addr)}{H:Hp}:Step α H α H:=⟨fun _ _ _ h=>h,fun _ _ h=> .inl h,fun _ h n=>absurd h n⟩
theorem Step.trans{α α1 α2:List (Option Addr)}{H H1 H2:Hp}(a:Step α H α1 H1)(b:Step α1 H1 α2 H2):Step α H α2 H2 where
 ext:=fun c o hc e=>b.ext c o (fun z=>by rw[a.new c z hc]at e;cases e) (a.ext c o hc e)
 pre:=fun n x e=>by
  rcases a.pre n x e with h|h
  · exact b.pre n x h
  · rcases b.pre n none h with h'|h'
    · exact .inr h'
    · exact .inr h'
 new:=fun c hc n=>by
  by_cases h1:some c∈α1
  · exact a.new c h1 n
  · have:=b.new c hc h1
    cases q:H c with
    |none=>rfl
    |some o=>rw[a.ext c o n q]at this;cases this
theorem Step.laid{α:List (Option Addr)}{H:Hp}{p:Addr}{o:HO}(h:H p=none):Step α H α (upd H p o):=
 ⟨fun b u _ e=>by rw[aC (dm e h)];exact e,fun _ _ h=> .inl h,fun _ h n=>absurd h n⟩
theorem Step.cell{α:List (Option Addr)}{H:Hp}{p:Addr}{o:HO}(h:H p=none):Step α H (α++[some p]) (upd H p o):=
 ⟨fun b u _ e=>by rw[aC (dm e h)];exact e,fun n x e=> .inl (by rw[List.getElem?_append_left (List.getElem?_eq_some_iff.mp e).1];exact e),fun b hb n=>by
  rcases List.mem_append.mp hb with z|z
  · exact absurd z n
  · have:b=p:=by simpa using z
    subst this;exact h⟩
theorem Step.write{α:List (Option Addr)}{H:Hp}{p:Addr}{o:HO}(h:some p∈α):Step α H α (upd H p o):=
 ⟨fun b u n e=>by rw[aC (fun z=>by subst z;exact n h)];exact e,fun _ _ h=> .inl h,fun _ h n=>absurd h n⟩
mutual
theorem Rep.step{α α':List (Option Addr)}{H H':Hp}(s:Step α H α' H'):∀ {d:D} {v:V},Rep α H d v→Rep α' H' d v
 | .aG,_,h=>by unfold Rep at h⊢;exact h
 | .bl _,_,h=>by unfold Rep at h⊢;exact h
 | .int _,_,h=>by unfold Rep at h⊢;exact h
 | .str _,_,h=>by unfold Rep at h⊢;exact h
 | .ty _,_,h=>by unfold Rep at h⊢;exact h
 | .ref n,_,h=>by
   unfold Rep at h⊢
   rcases h with h|⟨a,e,r⟩
   · rcases s.pre _ _ h with z|z<;>exact .inl z
   · rcases s.pre _ _ e with z|z
     · exact .inr ⟨a,z,r⟩
     · exact .inl z
 | .lst xs,_,h=>by
   unfold Rep at h⊢
   obtain⟨a,vs,e,n,r,q⟩:=h
   refine⟨a,vs,e,fun z=>?_,?_,aJ.step s q⟩
   · have:=s.new a z n
     rcases r with r|⟨o,r⟩<;>(rw[this]at r;cases r)
   · rcases r with r|⟨o,r⟩
     · exact .inl (s.ext _ _ n r)
     · exact .inr ⟨o,s.ext _ _ n r⟩
 | .tup xs,_,h=>by
   unfold Rep at h⊢
   obtain⟨a,vs,e,n,r,q⟩:=h
   exact⟨a,vs,e,(fun z=>by rw[s.new a z n]at r;exact nomatch r),s.ext _ _ n r,aJ.step s q⟩
theorem aJ.step{α α':List (Option Addr)}{H H':Hp}(s:Step α H α' H'):∀ {ds:List D} {vs:List V},aJ α H ds vs→aJ α' H' ds vs
 | [],_,h=>by unfold aJ at h⊢;exact h
 |d::ds,_,h=>by
  unfold aJ at h⊢
  obtain⟨v,r,e,h1,h2⟩:=h
  exact⟨v,r,e,Rep.step s h1,aJ.step s h2⟩
end
structure bZ(G F H:Hp):Prop where
 eq:∀b,H b=(G b).or (F b)
 yn:∀b o,G b=some o→F b=none
section
variable {G F H:Hp}
theorem bZ.get(P:bZ G F H){b:Addr}{o:HO}(h:G b=some o):H b=some o:=by rw[P.eq b,h];rfl
theorem bZ.same(P:bZ G F H):DB G H:=fun _ _ h=>P.get h
theorem bZ.none(P:bZ G F H){b:Addr}(h:H b=none):G b=none∧F b=none:=by
 have e:=P.eq b
 rw[h]at e
 cases q:G b with
 |none=>rw[q]at e;exact⟨rfl,e.symm⟩
 |some o=>rw[q]at e;cases e
theorem bZ.frame(P:bZ G F H){b:Addr}{o:HO}(h:F b=some o):H b=some o∧G b=Option.none:=by
 have hn:G b=Option.none:=by
  cases q:G b with
  |none=>rfl
  |some u=>rw[P.yn b u q]at h;cases h
 exact⟨by rw[P.eq b,hn,h];rfl,hn⟩
theorem bZ.laid(P:bZ G F H){p:Addr}{o:HO}(h:H p=Option.none):bZ (upd G p o) F (upd H p o):=by
 obtain⟨h1,h2⟩:=P.none h
 refine⟨fun b=>?_,fun b u e=>?_⟩
 · by_cases hb:b=p
   · subst hb;rw[aZ,aZ];rfl
   · rw[aC hb,aC hb];exact P.eq b
 · by_cases hb:b=p
   · subst hb;exact h2
   · rw[aC hb]at e;exact P.yn b u e
theorem bZ.write(P:bZ G F H){p:Addr}{o o':HO}(h:G p=some o):bZ (upd G p o') F (upd H p o'):=by
 refine⟨fun b=>?_,fun b u e=>?_⟩
 · by_cases hb:b=p
   · subst hb;rw[aZ,aZ];rfl
   · rw[aC hb,aC hb];exact P.eq b
 · by_cases hb:b=p
   · subst hb;exact P.yn b o h
   · rw[aC hb]at e;exact P.yn b u e
theorem bZ.hide(P:bZ G F H){p:Addr}{o:HO}(h:H p=Option.none):bZ G (upd F p o) (upd H p o):=by
 obtain⟨h1,h2⟩:=P.none h
 refine⟨fun b=>?_,fun b u e=>?_⟩
 · by_cases hb:b=p
   · subst hb;rw[aZ,aZ,h1];rfl
   · rw[aC hb,aC hb];exact P.eq b
 · by_cases hb:b=p
   · subst hb;rw[h1]at e;cases e
   · rw[aC hb];exact P.yn b u e
theorem bZ.Nx(P:bZ G F H){p:Addr}{o o':HO}(h:F p=some o):bZ G (upd F p o') (upd H p o'):=by
 have h1:=(P.frame h).2
 refine⟨fun b=>?_,fun b u e=>?_⟩
 · by_cases hb:b=p
   · subst hb;rw[aZ,aZ,h1];rfl
   · rw[aC hb,aC hb];exact P.eq b
 · by_cases hb:b=p
   · subst hb;rw[h1]at e;cases e
   · rw[aC hb];exact P.yn b u e
theorem bZ.show{p:Addr}{o:HO}(P:bZ G (upd F p o) H)(h:F p=Option.none):bZ (upd G p o) F H:=by
 have h1:=(P.frame (b:=p) aZ)
 refine⟨fun b=>?_,fun b u e=>?_⟩
 · by_cases hb:b=p
   · subst hb;rw[aZ,h1.1];rfl
   · rw[aC hb,P.eq b,aC hb]
 · by_cases hb:b=p
   · subst hb;exact h
   · rw[aC hb]at e
     have:=P.yn b u e
     rw[aC hb]at this;exact this
end
mutual
theorem Rep.mono{α:List (Option Addr)}{G H:Hp}(s:DB G H):∀ {d:D} {v:V},Rep α G d v→Rep α H d v
 | .aG,_,h=>by unfold Rep at h⊢;exact h
 | .bl _,_,h=>by unfold Rep at h⊢;exact h
 | .int _,_,h=>by unfold Rep at h⊢;exact h
 | .str _,_,h=>by unfold Rep at h⊢;exact h
 | .ty _,_,h=>by unfold Rep at h⊢;exact h
 | .ref n,_,h=>by unfold Rep at h⊢;exact h
 | .lst xs,_,h=>by
   unfold Rep at h⊢
   obtain⟨a,vs,e,n,r,q⟩:=h
   refine⟨a,vs,e,n,?_,aJ.mono s q⟩
   rcases r with r|⟨o,r⟩
   · exact .inl (s _ _ r)
   · exact .inr ⟨o,s _ _ r⟩
 | .tup xs,_,h=>by
   unfold Rep at h⊢
   obtain⟨a,vs,e,n,r,q⟩:=h
   exact⟨a,vs,e,n,s _ _ r,aJ.mono s q⟩
theorem aJ.mono{α:List (Option Addr)}{G H:Hp}(s:DB G H):∀ {ds:List D} {vs:List V},aJ α G ds vs→aJ α H ds vs
 | [],_,h=>by unfold aJ at h⊢;exact h
 |d::ds,_,h=>by
  unfold aJ at h⊢
  obtain⟨v,r,e,h1,h2⟩:=h
  exact⟨v,r,e,Rep.mono s h1,aJ.mono s h2⟩
end
noncomputable def ji(α:List (Option Addr))(H:Hp):List (Str×D)→List (Str×V)→Prop:=Paired fun p q=>p.1=q.1∧Rep α H p.2 q.2
noncomputable def jL(α:List (Option Addr))(H:Hp)(a:Addr):Cell→Prop
 | .lst xs=>∃vs,H a=some (.lst vs)∧aJ α H xs vs
 | .ins C fs=>∃dx vs,H a=some (.ins C dx vs)∧ji α H fs vs
 | .dead=>False
 | .tab P pos qual b=>a=P∧∃ps:Array Value,H a=some (.js ps)∧TriplesOk ps.toList∧
    ((b=false∧codeAmong pos ps.toList=none)∨(b=true∧∃c o vs t,codeAmong pos ps.toList=some (.ref c)∧some c∉α∧H c=some (.fW o (.own c))∧o.data= .fields vs∧vs[1]?=some (.str qual t)))
structure aU(α:List (Option Addr))(st:ag)(H:Hp):Prop where
 len:α.length=st.length
 nd:∀(i j:Nat) (a:Addr),α[i]?=some (some a)→α[j]?=some (some a)→i=j
 at':∀(n:Nat) (c:Cell),st[n]?=some c→(c= .dead∧α[n]?=some none)∨∃a,α[n]?=some (some a)∧jL α H a c
theorem ji.step{α α':List (Option Addr)}{H H':Hp}(s:Step α H α' H'){ds:List (Str×D)}{vs:List (Str×V)}(h:ji α H ds vs):ji α' H' ds vs:=Paired.Df h fun _ _ z=>⟨z.1,z.2.step s⟩
theorem jL.same{α α':List (Option Addr)}{H H':Hp}{a:Addr}{c:Cell}(s:Step α H α' H')(e:H' a=H a)(h:jL α H a c):jL α' H' a c:=by
 cases c with
 |lst xs=>obtain⟨vs,h1,h2⟩:=h;exact⟨vs,e.trans h1,h2.step s⟩
 |ins C fs=>obtain⟨dx,vs,h1,h2⟩:=h;exact⟨dx,vs,e.trans h1,h2.step s⟩
 |dead=>exact h.elim
 |tab P pos qual b=>
  obtain⟨z,ps,h1,h2,h3⟩:=h
  refine⟨z,ps,e.trans h1,h2,?_⟩
  rcases h3 with h3|⟨hb,c,o,vs,t,q1,q2,q3,q4⟩
  · exact .inl h3
  · exact .inr ⟨hb,c,o,vs,t,q1,(fun y=>by rw[s.new c y q2]at q3;cases q3),s.ext c _ q2 q3,q4⟩
theorem jL.some{α:List (Option Addr)}{H:Hp}{a:Addr}{c:Cell}(h:jL α H a c):∃o,H a=some o:=by
 cases c with
 |lst xs=>obtain⟨vs,h1,h2⟩:=h;exact⟨_,h1⟩
 |ins C fs=>obtain⟨dx,vs,h1,h2⟩:=h;exact⟨_,h1⟩
 |dead=>exact h.elim
 |tab P pos qual b=>obtain⟨_,ps,h1,_⟩:=h;exact⟨_,h1⟩
theorem eQ{α:List (Option Addr)}{H:Hp}{n:Nat}{v:V}{a:Addr}(e:α[n]?=Option.some (Option.some a))(r:Rep α H (.ref n) v):v= .ref a:=by
 unfold Rep at r
 rcases r with r|⟨b,eb,rfl⟩
 · rw[e]at r;cases r
 · rw[e]at eb;cases eb;rfl
section
variable {α:List (Option Addr)}{st:ag}{H:Hp}
theorem aU.jg(S:aU α st H){n:Nat}{xs:List D}(e:st[n]?=Option.some (.lst xs)):∃a,α[n]?=Option.some (Option.some a)∧∃vs,H a=Option.some (.lst vs)∧aJ α H xs vs:=by
 rcases S.at' n _ e with⟨z,_⟩|z
 · cases z
 · exact z
theorem aU.wB(S:aU α st H){n:Nat}{C:Addr}{fs:List (Str×D)}(e:st[n]?=Option.some (.ins C fs)):∃a,α[n]?=Option.some (Option.some a)∧∃dx vs,H a=Option.some (.ins C dx vs)∧ji α H fs vs:=by
 rcases S.at' n _ e with⟨z,_⟩|z
 · cases z
 · exact z
theorem aU.mem(S:aU α st H){a:Addr}(h:Option.some a∈α):∃(n:Nat) (c:Cell),α[n]?=Option.some (Option.some a)∧st[n]?=Option.some c∧jL α H a c:=by
 obtain⟨n,hn,e⟩:=List.mem_iff_getElem.mp h
 have hl:n<st.length:=by rw[←S.len];exact hn
 have e':α[n]?=Option.some (Option.some a):=by rw[List.getElem?_eq_getElem hn,e]
 rcases S.at' n st[n] (by simp[hl])with⟨_,q⟩|⟨a',q,ca⟩
 · rw[e']at q;cases q
 · rw[e']at q;cases q
   exact⟨n,_,e',by simp[hl],ca⟩
theorem aU.jI(S:aU α st H){p:Addr}(h:H p=none):Option.some p∉α:=fun z=>by
 obtain⟨n,c,_,_,ca⟩:=S.mem z
 obtain⟨o,e⟩:=ca.some
 rw[h]at e;cases e
theorem aU.laid(S:aU α st H){p:Addr}{o:HO}(h:H p=none):aU α st (upd H p o):=
 ⟨S.len,S.nd,fun n c e=>by
  rcases S.at' n c e with z|⟨a,q,ca⟩
  · exact .inl z
  · exact .inr ⟨a,q,ca.same (Step.laid h) (aC (by obtain⟨u,z⟩:=ca.some;exact dm z h))⟩⟩
theorem aU.cell(S:aU α st H){p:Addr}{o:HO}{c:Cell}(h:H p=none)(hc:jL (α++[Option.some p]) (upd H p o) p c):aU (α++[Option.some p]) (st++[c]) (upd H p o) where
 len:=by rw[List.length_append,List.length_append,S.len];rfl
 nd:=fun i j a ei ej=>by
  have key:∀(i:Nat) (a:Addr),(α++[Option.some p])[i]?=Option.some (Option.some a)→(i<α.length∧α[i]?=Option.some (Option.some a))∨(i=α.length∧a=p):=by
   intro i a e
   by_cases hi:i<α.length
   · rw[List.getElem?_append_left hi]at e;exact .inl ⟨hi,e⟩
   · rw[List.getElem?_append_right (Nat.le_of_not_lt hi)]at e
     have h0:i-α.length=0:=by
      cases q:i-α.length with
      |zero=>rfl
      |succ k=>rw[q]at e;simp at e
     rw[h0]at e
     have:p=a:=by simpa using e
     exact .inr ⟨by omega,this.symm⟩
  rcases key i a ei with⟨h1,e1⟩|⟨h1,e1⟩<;>rcases key j a ej with⟨h2,e2⟩|⟨h2,e2⟩
  · exact S.nd i j a e1 e2
  · subst e2;exact absurd (List.mem_of_getElem? e1) (S.jI h)
  · subst e1;exact absurd (List.mem_of_getElem? e2) (S.jI h)
  · omega
 at':=fun n d e=>by
  by_cases hn:n<st.length
  · rw[List.getElem?_append_left hn]at e
    have hl:n<α.length:=by rw[S.len];exact hn
    rcases S.at' n d e with⟨z,q⟩|⟨a,q,ca⟩
    · exact .inl ⟨z,by rw[List.getElem?_append_left hl];exact q⟩
    · exact .inr ⟨a,by rw[List.getElem?_append_left hl];exact q,ca.same (Step.cell h) (aC (by obtain⟨u,z⟩:=ca.some;exact dm z h))⟩
  · rw[List.getElem?_append_right (Nat.le_of_not_lt hn)]at e
    have h0:n-st.length=0:=by
     cases q:n-st.length with
     |zero=>rfl
     |succ k=>rw[q]at e;simp at e
    rw[h0]at e
    have hd:c=d:=by simpa using e
    subst hd
    refine .inr ⟨p,?_,hc⟩
    rw[List.getElem?_append_right (by rw[S.len];exact Nat.le_of_not_lt hn),S.len,h0]
    rfl
theorem aU.write(S:aU α st H){p:Addr}{o:HO}{c:Cell}{n:Nat}(e:α[n]?=Option.some (Option.some p))(hc:jL α (upd H p o) p c):aU α (st.set n c) (upd H p o) where
 len:=by rw[List.length_set];exact S.len
 nd:=S.nd
 at':=fun m d q=>by
  have hp:Option.some p∈α:=List.mem_of_getElem? e
  by_cases hm:m=n
  · subst hm
    have hl:m<st.length:=by
     have:=(List.getElem?_eq_some_iff.mp q).1
     rw[List.length_set]at this;exact this
    rw[List.getElem?_set_self hl]at q
    cases q
    exact .inr ⟨p,e,hc⟩
  · rw[List.getElem?_set_ne (Ne.symm hm)]at q
    rcases S.at' m d q with z|⟨a,r,ca⟩
    · exact .inl z
    · refine .inr ⟨a,r,ca.same (Step.write hp) (aC fun z=>?_)⟩
      subst z
      exact hm (S.nd m n _ r e)
end
end L3
namespace L3
open PySem PySem.Spec L2
open PyProof.Rows hiding St
noncomputable abbrev DK:=D→ag→Prop
noncomputable abbrev DE:=cj→ag→DK→Prop
noncomputable abbrev DT:=cj→ag→(Bool→ag→Prop)→Prop
noncomputable abbrev DA:=cj→ag→(List D→ag→Prop)→Prop
structure l9 where
 nx:cj→ag→Prop
 rt:DK
 bk:cj→ag→Prop:=fun _ _=>False
 ct:cj→ag→Prop:=fun _ _=>False
noncomputable abbrev DS:=l9→cj→ag→Prop
structure dX(α:List (Option Addr))(H:Hp)(σd:cj)(σ:L2.St):Prop where
 len:σd.length=σ.length
 at':∀(i:Nat) (d:D),σd[i]?=some (some d)→∃v,σ[i]?=some (some v)∧Rep α H d v
theorem dX.step{α α':List (Option Addr)}{H H':Hp}{σd:cj}{σ:L2.St}(s:Step α H α' H')(h:dX α H σd σ):dX α' H' σd σ:=
 ⟨h.len,fun i d e=>let⟨v,q,r⟩:=h.at' i d e;⟨v,q,r.step s⟩⟩
theorem dX.set{α:List (Option Addr)}{H:Hp}{σd:cj}{σ:L2.St}(h:dX α H σd σ)(i:Nat){d:D}{v:V}(r:Rep α H d v):dX α H (σd.set i (some d)) (σ.set i (some v)):=by
 refine⟨by rw[List.length_set,List.length_set,h.len],fun j e q=>?_⟩
 have hl:=h.len
 by_cases hj:j=i
 · subst hj
   have hlt:j<σd.length:=by
    have:=(List.getElem?_eq_some_iff.mp q).1
    rw[List.length_set]at this;exact this
   rw[List.getElem?_set_self hlt]at q
   cases q
   exact⟨v,List.getElem?_set_self (by omega),r⟩
 · rw[List.getElem?_set_ne (Ne.symm hj)]at q
   rw[List.getElem?_set_ne (Ne.symm hj)]
   exact h.at' j e q
noncomputable def LK(α:List (Option Addr))(G F:Hp)(K:DK)(Q:VK):Prop:=∀d st',K d st'→∀α' G' H' v,Step α G α' G'→bZ G' F H'→aU α' st' G'→Rep α' G' d v→Q v H'
noncomputable def EU(α:List (Option Addr))(G F:Hp)(K:Bool→ag→Prop)(Q:Bool→Hp→Prop):Prop:=∀b st',K b st'→∀α' G' H',Step α G α' G'→bZ G' F H'→aU α' st' G'→Q b H'
noncomputable def Nw(α:List (Option Addr))(G F:Hp)(K:List D→ag→Prop)(Q:List V→Hp→Prop):Prop:=∀ds st',K ds st'→∀α' G' H' vs,Step α G α' G'→bZ G' F H'→aU α' st' G'→aJ α' G' ds vs→Q vs H'
inductive Mt(t:DE)(σ:L2.St)(H:Hp)(Q:VK):Prop
 |mk (α:List (Option Addr)) (σd:cj) (st:ag) (K:DK) (G F:Hp) (P:bZ G F H) (R:dX α G σd σ) (S:aU α st G) (h:t σd st K) (k:LK α G F K Q):Mt t σ H Q
noncomputable def LE(t:DE):TE:=Mt t
inductive Ma(t:DT)(σ:L2.St)(H:Hp)(Q:Bool→Hp→Prop):Prop
 |mk (α:List (Option Addr)) (σd:cj) (st:ag) (K:Bool→ag→Prop) (G F:Hp) (P:bZ G F H) (R:dX α G σd σ) (S:aU α st G) (h:t σd st K) (k:EU α G F K Q):Ma t σ H Q
noncomputable def LT(t:DT):TT:=Ma t
inductive Ml(t:DA)(σ:L2.St)(H:Hp)(Q:List V→Hp→Prop):Prop
 |mk (α:List (Option Addr)) (σd:cj) (st:ag) (K:List D→ag→Prop) (G F:Hp) (P:bZ G F H) (R:dX α G σd σ) (S:aU α st G) (h:t σd st K) (k:Nw α G F K Q):Ml t σ H Q
noncomputable def LA(t:DA):TA:=Ml t
theorem LK.here{α:List (Option Addr)}{G F H:Hp}{K:DK}{Q:VK}(h:LK α G F K Q)(P:bZ G F H){d:D}{st:ag}{v:V}(k:K d st)(S:aU α st G)(r:Rep α G d v):Q v H:=h d st k α G H v Step.refl P S r
theorem LK.at{α α1:List (Option Addr)}{G F G1:Hp}{K:DK}{Q:VK}(h:LK α G F K Q)(s:Step α G α1 G1):LK α1 G1 F K Q:=fun d st' k α' G' H' v s' P S r=>h d st' k α' G' H' v (s.trans s') P S r
theorem EU.at{α α1:List (Option Addr)}{G F G1:Hp}{K:Bool→ag→Prop}{Q:Bool→Hp→Prop}(h:EU α G F K Q)(s:Step α G α1 G1):EU α1 G1 F K Q:=fun d st' k α' G' H' s' P S=>h d st' k α' G' H' (s.trans s') P S
section
variable {X:Cx}{a b c e:Expr}{es:List Expr}{ta tb tc te:DE}{pos:Pos}
theorem PE.imp{t t':TE}(h:PE X e t)(f:∀σ H Q,t' σ H Q→t σ H Q):PE X e t':=fun pins s σ H Q I q=>h pins s σ H Q I (f σ H Q q)
theorem PT.imp{t t':TT}(h:PT X e t)(f:∀σ H Q,t' σ H Q→t σ H Q):PT X e t':=fun pins s σ H Q I q=>h pins s σ H Q I (f σ H Q q)
theorem PW.imp{t t':TT}(h:PW X e t)(f:∀σ H Q,t' σ H Q→t σ H Q):PW X e t':=fun w pins s σ H Q I q=>h w pins s σ H Q I (f σ H Q q)
theorem PA.imp{t t':TA}(h:PA X es t)(f:∀σ H Q,t' σ H Q→t σ H Q):PA X es t':=fun p pins s σ H Q I q=>h p pins s σ H Q I (f σ H Q q)
noncomputable def ae(i:Nat):DE:=fun σ st K=>match σ[i]? with|some (some d)=>K d st|_=>False
noncomputable def dC(d:D):DE:=fun _ st K=>K d st
theorem Lg{i:Nat}{x:Str}(h:PE X (.Name x pos) (Hx i)):PE X (.Name x pos) (LE (ae i)):=PE.imp h fun σ H Q ⟨α,σd,st,K,G,F,P,R,S,t,k⟩=>by
 unfold ae at t
 split at t
 · rename_i d q
   obtain⟨v,e,r⟩:=R.at' i d q
   exact⟨v,e,k.here P t S r⟩
 · exact t.elim
theorem oN{v:V}{d:D}(h:PE X e (tC v))(r:∀α H,Rep α H d v):PE X e (LE (dC d)):=PE.imp h fun σ H Q ⟨α,σd,st,K,G,F,P,R,S,t,k⟩=>k.here P t S (r α G)
theorem LL{i:Int}{j:Nat}:PE X (.Constant (.int i) j pos) (LE (dC (.int i))):=oN JR fun _ _=>by unfold Rep;rfl
theorem ML{i:Bool}{j:Nat}:PE X (.Constant (.bool i) j pos) (LE (dC (.bl i))):=oN Kr fun _ _=>by unfold Rep;rfl
theorem K0{i:Str}{j:Nat}:PE X (.Constant (.str i) j pos) (LE (dC (.str i))):=oN JD fun _ _=>by unfold Rep;rfl
theorem Lz{j:Nat}:PE X (.Constant .none j pos) (LE (dC .aG)):=oN IB fun _ _=>by unfold Rep;rfl
noncomputable abbrev dN:=D→D→ag→DK→Prop
noncomputable abbrev w6:=D→ag→DK→Prop
noncomputable abbrev ft:=List D→ag→DK→Prop
inductive Mo(r:dN)(x y:V)(H:Hp)(Q:VK):Prop
 |mk (α:List (Option Addr)) (d e:D) (st:ag) (K:DK) (G F:Hp) (P:bZ G F H) (rx:Rep α G d x) (ry:Rep α G e y) (S:aU α st G) (h:r d e st K) (k:LK α G F K Q):Mo r x y H Q
noncomputable def LR(r:dN):R2:=Mo r
inductive Ii(r:w6)(x:V)(H:Hp)(Q:VK):Prop
 |mk (α:List (Option Addr)) (d:D) (st:ag) (K:DK) (G F:Hp) (P:bZ G F H) (rx:Rep α G d x) (S:aU α st G) (h:r d st K) (k:LK α G F K Q):Ii r x H Q
noncomputable def E4(r:w6):V→Hp→VK→Prop:=Ii r
inductive H0(r:ft)(xs:List V)(H:Hp)(Q:VK):Prop
 |mk (α:List (Option Addr)) (ds:List D) (st:ag) (K:DK) (G F:Hp) (P:bZ G F H) (rx:aJ α G ds xs) (S:aU α st G) (h:r ds st K) (k:LK α G F K Q):H0 r xs H Q
noncomputable def f_(r:ft):List V→Hp→VK→Prop:=H0 r
noncomputable def au(r:dN)(ta tb:DE):DE:=fun σ st K=>ta σ st fun x st1=>tb σ st1 fun y st2=>r x y st2 K
noncomputable def nz(r:w6)(ta:DE):DE:=fun σ st K=>ta σ st fun x st1=>r x st1 K
theorem LE.op{r:dN}{σ:L2.St}{H:Hp}{Q:VK}(h:LE (au r ta tb) σ H Q):Bc (LR r) (LE ta) (LE tb) σ H Q:=by
 obtain⟨α,σd,st,K,G,F,P,R,S,t,k⟩:=h
 refine⟨α,σd,st,_,G,F,P,R,S,t,fun d st1 q α1 G1 H1 v s1 P1 S1 r1=>?_⟩
 refine⟨α1,σd,st1,_,G1,F,P1,R.step s1,S1,q,fun d2 st2 q2 α2 G2 H2 v2 s2 P2 S2 r2=>?_⟩
 exact⟨α2,d,d2,st2,K,G2,F,P2,r1.step s2,r2,S2,q2,(k.at s1).at s2⟩
theorem LE.un{r:w6}{σ:L2.St}{H:Hp}{Q:VK}(h:LE (nz r ta) σ H Q):Mc (E4 r) (LE ta) σ H Q:=by
 obtain⟨α,σd,st,K,G,F,P,R,S,t,k⟩:=h
 refine⟨α,σd,st,_,G,F,P,R,S,t,fun d st1 q α1 G1 H1 v s1 P1 S1 r1=>?_⟩
 exact⟨α1,d,st1,K,G1,F,P1,r1,S1,q,k.at s1⟩
theorem MN{op:Operator}{r:dN}(ho:cm X (binaryOp op) (LR r))(ha:PE X a (LE ta))(hb:PE X b (LE tb)):PE X (.BinOp a op b pos) (LE (au r ta tb)):=PE.imp (K5 ho ha hb) fun _ _ _ h=>LE.op h
theorem MM{op:UnaryOp}{r:w6}(ho:zQ X (unaryOp op) (E4 r))(ha:PE X a (LE ta)):PE X (.UnaryOp op a pos) (LE (nz r ta)):=PE.imp (Ly ho ha) fun _ _ _ h=>LE.un h
theorem Lp{op:CmpOp}{r:dN}(ho:cm X (compareOp op) (LR r))(ha:PE X a (LE ta))(hb:PE X b (LE tb))(hm:behindInMarks op b=false:=by first|exact bc _|rfl):PE X (.Compare a [op] [b] pos) (LE (au r ta tb)):=PE.imp (FL ho ha hb hm) fun _ _ _ h=>LE.op h
noncomputable def a5(t:DE):DT:=fun σ st K=>t σ st fun d st1=>match d with| .bl b=>K b st1|_=>False
theorem LT.test{σ:L2.St}{H:Hp}{Q:Bool→Hp→Prop}(h:LT (a5 te) σ H Q):LE te σ H fun x H'=>∃k,x= .bl k∧Q k H':=by
 obtain⟨α,σd,st,K,G,F,P,R,S,t,k⟩:=h
 refine⟨α,σd,st,_,G,F,P,R,S,t,fun d st1 q α1 G1 H1 v s1 P1 S1 r1=>?_⟩
 cases d with
 |bl b=>
  unfold Rep at r1
  exact⟨b,r1,k b st1 q α1 G1 H1 s1 P1 S1⟩
 |_=>exact q.elim
theorem Io{op:CmpOp}{r:dN}(ho:cm X (compareOp op) (LR r))(ha:PE X a (LE ta))(hb:PE X b (LE tb))(hm:behindInMarks op b=false:=by first|exact bc _|rfl):PT X (.Compare a [op] [b] pos) (LT (a5 (au r ta tb))):=PT.imp (F7 ho ha hb hm) fun σ H Q h=>by
 have q:=LT.test h
 exact LE.op (Q:=fun x H'=>∃k,x= .bl k∧Q k H') q
theorem Jv(he:PE X e (LE te))(hv:∀whole,isTrue e X.env whole=(do let v ←whole;standAt e.pos;holding [v] (truthy v)):=by intro _;rfl):PT X e (LT (a5 te)):=PT.imp (Ih he hv) fun σ H Q h=>LT.test h
noncomputable def ib(t:DT):DT:=fun σ st K=>t σ st fun b st1=>K (!b) st1
noncomputable def nH(t u:DT):DT:=fun σ st K=>t σ st fun b st1=>if b=true then u σ st1 K else K false st1
noncomputable def jY(t u:DT):DT:=fun σ st K=>t σ st fun b st1=>if b=true then K true st1 else u σ st1 K
theorem Kb{t:DT}(ha:PT X a (LT t)):PT X (.UnaryOp .Not a pos) (LT (ib t)):=PT.imp (Im ha) fun σ H Q ⟨α,σd,st,K,G,F,P,R,S,t,k⟩=>
 ⟨α,σd,st,_,G,F,P,R,S,t,fun b st1 q α1 G1 H1 s1 P1 S1=>k _ st1 q α1 G1 H1 s1 P1 S1⟩
theorem LT.and{t u:DT}{σ:L2.St}{H:Hp}{Q:Bool→Hp→Prop}(h:LT (nH t u) σ H Q):Ir (LT t) (LT u) σ H Q:=by
 obtain⟨α,σd,st,K,G,F,P,R,S,t,k⟩:=h
 refine⟨α,σd,st,_,G,F,P,R,S,t,fun b st1 q α1 G1 H1 s1 P1 S1=>?_⟩
 cases b with
 |true=>exact⟨α1,σd,st1,K,G1,F,P1,R.step s1,S1,q,k.at s1⟩
 |false=>exact k _ st1 q α1 G1 H1 s1 P1 S1
theorem LT.or{t u:DT}{σ:L2.St}{H:Hp}{Q:Bool→Hp→Prop}(h:LT (jY t u) σ H Q):Mp (LT t) (LT u) σ H Q:=by
 obtain⟨α,σd,st,K,G,F,P,R,S,t,k⟩:=h
 refine⟨α,σd,st,_,G,F,P,R,S,t,fun b st1 q α1 G1 H1 s1 P1 S1=>?_⟩
 cases b with
 |false=>exact⟨α1,σd,st1,K,G1,F,P1,R.step s1,S1,q,k.at s1⟩
 |true=>exact k _ st1 q α1 G1 H1 s1 P1 S1
theorem Gb{t:DT}(ha:PT X a (LT t)):PW X (.BoolOp .And [a] pos) (LT t):=pw_and1 ha
theorem Iw{t:DT}(ha:PT X a (LT t)):PW X (.BoolOp .Or [a] pos) (LT t):=pw_or1 ha
theorem I_{t u:DT}(ha:PT X a (LT t))(hb:PW X (.BoolOp .And (b::es) pos) (LT u)):PW X (.BoolOp .And (a::b::es) pos) (LT (nH t u)):=PW.imp (pw_and ha hb) fun _ _ _ h=>LT.and h
theorem Li{t u:DT}(ha:PT X a (LT t))(hb:PW X (.BoolOp .Or (b::es) pos) (LT u)):PW X (.BoolOp .Or (a::b::es) pos) (LT (jY t u)):=PW.imp (pw_or ha hb) fun _ _ _ h=>LT.or h
noncomputable def rN(ta tb:DE):DE:=fun σ st K=>ta σ st fun d st1=>match d with| .bl b=>if b=true then tb σ st1 K else K (.bl false) st1|_=>False
noncomputable def Dt(ta tb:DE):DE:=fun σ st K=>ta σ st fun d st1=>match d with| .bl b=>if b=true then K (.bl true) st1 else tb σ st1 K|_=>False
noncomputable def uv(t:DT):DE:=fun σ st K=>t σ st fun b st1=>K (.bl (!b)) st1
theorem LB{op:BoolOp}(ha:PE X a (LE ta)):PE X (.BoolOp op [a] pos) (LE ta):=Hu ha
theorem KS(ha:PE X a (LE ta))(hb:PE X (.BoolOp .And (b::es) pos) (LE tb)):PE X (.BoolOp .And (a::b::es) pos) (LE (rN ta tb)):=PE.imp (IE ha hb) fun σ H Q ⟨α,σd,st,K,G,F,P,R,S,t,k⟩=>by
 refine⟨α,σd,st,_,G,F,P,R,S,t,fun d st1 q α1 G1 H1 v s1 P1 S1 r1=>?_⟩
 cases d with
 |bl b=>
  unfold Rep at r1
  refine⟨b,r1,?_⟩
  cases b with
  |true=>exact⟨α1,σd,st1,K,G1,F,P1,R.step s1,S1,q,k.at s1⟩
  |false=>exact k _ st1 q α1 G1 H1 _ s1 P1 S1 (by unfold Rep;rfl)
 |_=>exact q.elim
theorem Na(ha:PE X a (LE ta))(hb:PE X (.BoolOp .Or (b::es) pos) (LE tb)):PE X (.BoolOp .Or (a::b::es) pos) (LE (Dt ta tb)):=PE.imp (L5 ha hb) fun σ H Q ⟨α,σd,st,K,G,F,P,R,S,t,k⟩=>by
 refine⟨α,σd,st,_,G,F,P,R,S,t,fun d st1 q α1 G1 H1 v s1 P1 S1 r1=>?_⟩
 cases d with
 |bl b=>
  unfold Rep at r1
  refine⟨b,r1,?_⟩
  cases b with
  |false=>exact⟨α1,σd,st1,K,G1,F,P1,R.step s1,S1,q,k.at s1⟩
  |true=>exact k _ st1 q α1 G1 H1 _ s1 P1 S1 (by unfold Rep;rfl)
 |_=>exact q.elim
theorem Ku(ha:PE X a (LE ta)):PE X (.UnaryOp .Not a pos) (LE (uv (a5 ta))):=PE.imp (Ic ha) fun σ H Q ⟨α,σd,st,K,G,F,P,R,S,t,k⟩=>by
 refine⟨α,σd,st,_,G,F,P,R,S,t,fun d st1 q α1 G1 H1 v s1 P1 S1 r1=>?_⟩
 cases d with
 |bl b=>
  unfold Rep at r1
  exact⟨b,r1,k _ st1 q α1 G1 H1 _ s1 P1 S1 (by unfold Rep;rfl)⟩
 |_=>exact q.elim
noncomputable def IA(t:DT)(ta tb:DE):DE:=fun σ st K=>t σ st fun b st1=>if b=true then ta σ st1 K else tb σ st1 K
theorem KO{t:DT}(hc:PT X c (LT t))(ha:PE X a (LE ta))(hb:PE X b (LE tb)):PE X (.IfExp c a b pos) (LE (IA t ta tb)):=PE.imp (Eb hc ha hb) fun σ H Q ⟨α,σd,st,K,G,F,P,R,S,t,k⟩=>by
 refine⟨α,σd,st,_,G,F,P,R,S,t,fun b st1 q α1 G1 H1 s1 P1 S1=>?_⟩
 cases b with
 |true=>exact⟨α1,σd,st1,K,G1,F,P1,R.step s1,S1,q,k.at s1⟩
 |false=>exact⟨α1,σd,st1,K,G1,F,P1,R.step s1,S1,q,k.at s1⟩
noncomputable def ak:DA:=fun _ st K=>K [] st
noncomputable def af(ta:DE)(tr:DA):DA:=fun σ st K=>ta σ st fun x st1=>tr σ st1 fun xs st2=>K (x::xs) st2
theorem xy:PA X [] (LA ak):=PA.imp IW fun σ H Q ⟨α,σd,st,K,G,F,P,R,S,t,k⟩=>k [] st t α G H [] Step.refl P S (by unfold aJ;rfl)
theorem vf{tr:DA}(ha:PE X e (LE te))(hr:PA X es (LA tr))(hs:starEach (e::es) X.env=(false,eval e X.env)::starEach es X.env:=by rfl):PA X (e::es) (LA (af te tr)):=PA.imp (FX ha hr hs) fun σ H Q ⟨α,σd,st,K,G,F,P,R,S,t,k⟩=>by
 refine⟨α,σd,st,_,G,F,P,R,S,t,fun d st1 q α1 G1 H1 v s1 P1 S1 r1=>?_⟩
 refine⟨α1,σd,st1,_,G1,F,P1,R.step s1,S1,q,fun ds st2 q2 α2 G2 H2 vs s2 P2 S2 r2=>?_⟩
 exact k _ st2 q2 α2 G2 H2 (v::vs) (s1.trans s2) P2 S2 (by unfold aJ;exact⟨v,vs,rfl,r1.step s2,r2⟩)
noncomputable def gg(t:DA):DE:=fun σ st K=>t σ st fun ds st1=>ds.length≤sizeLine∧K (.tup ds) st1
noncomputable def nc(t:DA):DE:=fun σ st K=>t σ st fun ds st1=>ds.length≤sizeLine∧K (.lst ds) st1
noncomputable def uY(t:DA):DE:=fun σ st K=>t σ st fun ds st1=>ds.length≤sizeLine∧K (.ref st1.length) (st1++[.lst ds])
theorem LK.tup{α:List (Option Addr)}{G F H:Hp}{K:DK}{Q:VK}{ds:List D}{vs:List V}{st:ag}{p:Addr}(k:LK α G F K Q)(P:bZ G F H)(q:K (.tup ds) st)(S:aU α st G)(r:aJ α G ds vs)(hp:H p=none):Q (.ref p) (upd H p (.tup vs)):=
 have hg:=(P.none hp).1
 k _ st q α _ _ _ (Step.laid hg) (P.laid hp) (S.laid hg) (by unfold Rep;exact⟨p,vs,rfl,S.jI hg,aZ,r.step (Step.laid hg)⟩)
theorem LK.lst{α:List (Option Addr)}{G F H:Hp}{K:DK}{Q:VK}{ds:List D}{vs:List V}{st:ag}{p:Addr}(k:LK α G F K Q)(P:bZ G F H)(q:K (.lst ds) st)(S:aU α st G)(r:aJ α G ds vs)(hp:H p=none):Q (.ref p) (upd H p (.lst vs)):=
 have hg:=(P.none hp).1
 k _ st q α _ _ _ (Step.laid hg) (P.laid hp) (S.laid hg) (by unfold Rep;exact⟨p,vs,rfl,S.jI hg,.of aZ,r.step (Step.laid hg)⟩)
theorem LK.new{α:List (Option Addr)}{G F H:Hp}{K:DK}{Q:VK}{ds:List D}{vs:List V}{st:ag}{p:Addr}(k:LK α G F K Q)(P:bZ G F H)(q:K (.ref st.length) (st++[.lst ds]))(S:aU α st G)(r:aJ α G ds vs)(hp:H p=none):Q (.ref p) (upd H p (.lst vs)):=
 have hg:=(P.none hp).1
 k _ _ q (α++[some p]) _ _ _ (Step.cell hg) (P.laid hp) (S.cell hg ⟨vs,aZ,r.step (Step.cell hg)⟩) (by
  unfold Rep
  refine .inr ⟨p,?_,rfl⟩
  rw[List.getElem?_append_right (by rw[S.len];exact Nat.le_refl _),S.len,Nat.sub_self]
  rfl)
theorem Kq{n:Nat}{t:DA}(h:PA X es (LA t)):PE X (.Tuple es n pos) (LE (gg t)):=PE.imp (Iy h) fun σ H Q ⟨α,σd,st,K,G,F,P,R,S,t,k⟩=>
 ⟨α,σd,st,_,G,F,P,R,S,t,fun ds st1 q α1 G1 H1 vs s1 P1 S1 r1=>⟨by rw[←r1.length];exact q.1,fun p hp=>(k.at s1).tup P1 q.2 S1 r1 hp⟩⟩
theorem Lr{t:DA}(h:PA X es (LA t)):PE X (.List es pos) (LE (nc t)):=PE.imp (C8 h) fun σ H Q ⟨α,σd,st,K,G,F,P,R,S,t,k⟩=>
 ⟨α,σd,st,_,G,F,P,R,S,t,fun ds st1 q α1 G1 H1 vs s1 P1 S1 r1=>⟨by rw[←r1.length];exact q.1,fun p hp=>(k.at s1).lst P1 q.2 S1 r1 hp⟩⟩
theorem Kp{t:DA}(h:PA X es (LA t)):PE X (.List es pos) (LE (uY t)):=PE.imp (C8 h) fun σ H Q ⟨α,σd,st,K,G,F,P,R,S,t,k⟩=>
 ⟨α,σd,st,_,G,F,P,R,S,t,fun ds st1 q α1 G1 H1 vs s1 P1 S1 r1=>⟨by rw[←r1.length];exact q.1,fun p hp=>(k.at s1).new P1 q.2 S1 r1 hp⟩⟩
noncomputable abbrev cD:=List D→ag→DK→Prop
inductive Iz(T:cD)(vs:List V)(H:Hp)(Q:VK):Prop
 |mk (α:List (Option Addr)) (ds:List D) (st:ag) (K:DK) (G F:Hp) (P:bZ G F H) (rx:aJ α G ds vs) (S:aU α st G) (h:T ds st K) (k:LK α G F K Q):Iz T vs H Q
noncomputable def cJ(S:cD):Sp:=fun vs H Q _=>Iz S vs H Q
noncomputable def aM(S:cD)(t:DA):DE:=fun σ st K=>t σ st fun ds st1=>S ds st1 K
theorem LE.call{S:cD}{t:DA}{σ:L2.St}{H:Hp}{Q:VK}(h:LE (aM S t) σ H Q):E1 (cJ S) [] E0 (LA t) σ H Q:=by
 obtain⟨α,σd,st,K,G,F,P,R,S,t,k⟩:=h
 refine⟨α,σd,st,_,G,F,P,R,S,t,fun ds st1 q α1 G1 H1 vs s1 P1 S1 r1=>?_⟩
 try dsimp only
 rw[List.append_nil]
 exact⟨α1,ds,st1,K,G1,F,P1,r1,S1,q,k.at s1⟩
theorem HV{S:cD}{k:Nat}{f:Addr}{fd:FuncData}{ps:List Str}{x:Str}{p:Pos}{t:DA}(F:bo X.prog X.w X.K X.mg X.base cE k f fd ps (cJ S))(hr:cT k X.A)(hg:Gl X x)(hm:X.mg x=some (.ref f))(hk:PySem.W.keepIn X.K (.ref f)=true)(hb:Binds X.K fd ps [])
 (ha:PA X (e::es) (LA t)) (hdb:(x==("__debug__":Str))=false:=by decide) (he:starEach (e::es) X.env=(false,eval e X.env)::starEach es X.env:=by rfl) (hpl:(backTo pos (starEach es X.env)).any (·.1)=false:=by rfl):
 PE X (.Call (.Name x p) (e::es) [] pos) (LE (aM S t)):=PE.imp (GF F hr hg hm hk hb .nil AD ha hdb he hpl) fun _ _ _ h=>LE.call h
noncomputable def bw(r:ft)(t:DA):DE:=fun σ st K=>t σ st fun ds st1=>r ds st1 K
theorem LE.cb{r:ft}{t:DA}{σ:L2.St}{H:Hp}{Q:VK}(h:LE (bw r t) σ H Q):IF (f_ r) (LA t) σ H Q:=by
 obtain⟨α,σd,st,K,G,F,P,R,S,t,k⟩:=h
 refine⟨α,σd,st,_,G,F,P,R,S,t,fun ds st1 q α1 G1 H1 vs s1 P1 S1 r1=>?_⟩
 exact⟨α1,ds,st1,K,G1,F,P1,r1,S1,q,k.at s1⟩
end
end L3
namespace L3
open PySem PySem.Spec L2
open PyProof.Rows hiding St
section
variable {X:Cx}
theorem cm.imp{f:Value→Value→Sem Value}{r r':R2}(h:cm X f r)(k:∀x y H Q,r' x y H Q→r x y H Q):cm X f r':=fun pins s σ H x y v u Q I rx ry q=>h pins s σ H x y v u Q I rx ry (k x y H Q q)
theorem bY.imp{f:Value}{r r':List V→Hp→VK→Prop}(h:bY X f r)(k:∀xs H Q,r' xs H Q→r xs H Q):bY X f r':=fun pins s σ H xs us Q I rs q=>h pins s σ H xs us Q I rs (k xs H Q q)
noncomputable def vN(C:Int→Int→Prop)(g:Int→Int→D):dN:=fun x y st K=>match x,y with| .int i,.int j=>C i j∧K (g i j) st|_,_=>False
theorem mX{f:Value→Value→Sem Value}{C:Int→Int→Prop}{g:Int→Int→D}{g':Int→Int→V}(hg:∀i j α H,Rep α H (g i j) (g' i j))(h:cm X f (rI C g')):cm X f (LR (vN C g)):=cm.imp h fun x y H Q ⟨α,d,e,st,K,G,F',P,r1,r2,S,q,k⟩=>by
 cases d<;>cases e<;>first
  |exact q.elim
  |(unfold Rep at r1 r2;exact⟨_,_,r1,r2,q.1,k.here P q.2 S (hg _ _ _ _)⟩)
noncomputable abbrev T2:Int→Int→Prop:=fun _ _=>True
theorem A3{g:Int→Int→V}{f:Value→Value→Sem Value}(h:cm X f (wQ g)):cm X f (rI T2 g):=cm.imp h fun x y H Q ⟨i,j,e1,e2,_,q⟩=>⟨i,j,e1,e2,q⟩
noncomputable abbrev Fd:dN:=vN T2 fun i j=> .int (i-j)
noncomputable abbrev Bs:dN:=vN (fun _ j=>j≠0∧j.natAbs.log2<9000) fun i j=> .int (i.fdiv j)
noncomputable abbrev EW:dN:=vN (fun _ j=>j≠0) fun i j=> .int (i.fmod j)
noncomputable abbrev Fg:dN:=vN Eo fun i j=> .int (i^j.toNat)
noncomputable abbrev IJ:dN:=vN T2 fun i j=> .bl (decide (i<j))
noncomputable abbrev HN:dN:=vN T2 fun i j=> .bl (decide (j<i))
theorem Lq:cm X (binaryOp .Sub) (LR Fd):=mX (fun _ _ _ _=>by unfold Rep;rfl) (A3 IC)
theorem HG:cm X (binaryOp .FloorDiv) (LR Bs):=mX (fun _ _ _ _=>by unfold Rep;rfl) (E8 fun i j _ _ _ _ _ hc q=>floordiv_int hc.1 q (.inl (PyProof.noPylong_of_log2 hc.2)))
theorem Lc:cm X (binaryOp .Mod) (LR EW):=mX (fun _ _ _ _=>by unfold Rep;rfl) FQ
theorem L4:cm X (binaryOp .Pow) (LR Fg):=mX (fun _ _ _ _=>by unfold Rep;rfl) Jd
theorem MG:cm X (compareOp .Lt) (LR IJ):=mX (fun _ _ _ _=>by unfold Rep;rfl) (A3 LF)
theorem MT:cm X (compareOp .Gt) (LR HN):=mX (fun _ _ _ _=>by unfold Rep;rfl) (A3 Lh)
noncomputable def Fv:w6:=fun x st K=>match x with| .int i=>K (.int (-i)) st|_=>False
theorem Lv:zQ X (unaryOp .USub) (E4 Fv):=fun pins s σ H x v Q I rx ⟨α,d,st,K,G,F',P,r,S,q,k⟩=>by
 cases d<;>first
  |exact q.elim
  |(unfold Rep at r;exact Ji pins s σ H x v Q I rx ⟨_,r,k.here P q S (by unfold Rep;rfl)⟩)
theorem Inv.sR{pins:List (Addr×Obj)}{σ:L2.St}{H:Hp}{s:Shared}{l:Addr}{xs:List V}(I:Inv X pins σ H s)(h:Rd H l (.lst xs)):
 xs.length≤sizeLine∧∃(aq:List Value) (n:Nat),Vals xs aq∧xs.length=aq.length∧s.heap.get? l=some {cls:= .type "list",data:= .seq aq.toArray n}:=by
 obtain⟨z,aq,n,r,e⟩:=h.ok I.aI
 exact⟨z,aq,n,r,r.length,e⟩
theorem fM{G F H:Hp}(P:bZ G F H){a:Addr}{u:HO}(h:Rd G a u):Rd H a u:=by
 rcases h with h|⟨o,h⟩
 · exact .inl (P.get h)
 · exact .inr ⟨o,P.get h⟩
theorem G8:cm X (binaryOp .Add) (fun x y H Q=>∃l b xs zs,x= .ref l∧y= .ref b∧Rd H l (.lst xs)∧Rd H b (.lst zs)∧xs.length+zs.length≤sizeLine∧∀p,H p=none→Q (.ref p) (upd H p (.lst (xs++zs)))):=by
 intro pins s σ H x y v u Q I rx ry h
 obtain⟨l,b,xs,zs,rfl,rfl,hH,hB,hz,q⟩:=h
 cases rx
 cases ry
 obtain⟨z,aq,n,r,hl,e⟩:=Inv.sR I hH
 obtain⟨z2,its2,n2,r2,hl2,e2⟩:=Inv.sR I hB
 refine PySem.P.add_list e e2 ?_ (by rw[List.size_toArray,List.size_toArray];omega)
 have ea:aq.toArray++its2.toArray=(aq++its2).toArray:=by simp
 rw[ea]
 exact⟨.ref _,_,I.DU (t':=s.toks) (r.append r2) (by rw[List.length_append];omega),rfl,q _ I.fresh⟩
theorem zY:cm X (binaryOp .Mult) (fun x y H Q=>∃l k xs,x= .ref l∧y= .int k∧Rd H l (.lst xs)∧ -(2^63)≤k∧k<2^63∧xs.length*k.toNat≤sizeLine∧
 ∀p,H p=none→Q (.ref p) (upd H p (.lst (List.replicate k.toNat xs).flatten))):=by
 intro pins s σ H x y v u Q I rx ry h
 obtain⟨l,k,xs,rfl,rfl,hH,h1,h2,hz,q⟩:=h
 cases rx
 obtain⟨t,rfl⟩:=ry
 obtain⟨z,aq,n,r,hl,e⟩:=Inv.sR I hH
 have hlen:aq.toArray.size*k.toNat≤sizeLine:=by rw[List.size_toArray,←hl];exact hz
 have hcap:¬aq.toArray.size*k.toNat>(2^63-1)/8:=by
  have:(sizeLine:Nat)≤(2^63-1)/8:=by decide
  omega
 have hfit:¬(!Builtin.List.listFitsIndex k)=true:=by
  rw[fitsIndex_both h1 h2]
  exact Bool.false_ne_true
 have hlong:¬Builtin.List.listTooLong (aq.toArray.size*k.toNat)=true:=by
  rw[Ex hlen]
  exact Bool.false_ne_true
 have hnew:List.foldl (fun x1 x2=>x1++x2) #[] (List.replicate (if aq.toArray.isEmpty=true then 0 else k.toNat) aq.toArray)=(List.replicate k.toNat aq).flatten.toArray:=by
  have f0:∀m:Nat,List.foldl (fun x1 x2=>x1++x2) #[] (List.replicate m aq.toArray)=(List.replicate m aq).flatten.toArray:=fun m=>by
   have:=foldl_rep aq m []
   rw[List.nil_append]at this
   exact this
  rw[f0]
  cases aq with
  |nil=>simp
  |cons a r'=>rw[if_neg (by simp)]
 refine wpAny_binaryOp_repeat_ref (T:="list") (U:="int") (by decide) ⟨_,e,rfl⟩ (fun s'=>typeIs_int s' k t) noFill_list_mul F.fills_int_mul F.slot_int_rmul repeat_list F.slot_int_index.lookup
  (call_meets F.slot_int_rmul (typeIs_int s k t) F.entry_int_rmul (F.args_int_rmul_2 _ _) (int___rmul___int_list k t l aq.toArray n)
    ⟨e,rfl,⟨_,e,rfl⟩,call_meets F.slot_list_mul ⟨_,e,rfl⟩ F.entry_list_mul (F.args_list_mul_2 _ _) (AutoListH.list___mul___list_int_3 l aq.toArray n k t hfit hcap hlong) ⟨e,?_⟩⟩)
 rw[hnew]
 exact⟨.ref _,_,I.DU (t':=s.toks) (r.rep k.toNat) (by rw[len_rep,Nat.mul_comm];exact hz),rfl,q _ I.fresh⟩
theorem Ej:cm X (binaryOp .Add) (fun x y H Q=>∃a b xs ys,x= .ref a∧y= .ref b∧H a=some (.tup xs)∧H b=some (.tup ys)∧xs.length+ys.length≤sizeLine∧
 (xs=[]→Q (.ref b) H)∧(xs≠ []→ys=[]→Q (.ref a) H)∧(xs≠ []→ys≠ []→∀p,H p=none→Q (.ref p) (upd H p (.tup (xs++ys))))):=by
 intro pins s σ H x y v u Q I rx ry h
 obtain⟨a,b,xs,ys,rfl,rfl,ha,hb,hz,q0,q1,q2⟩:=h
 by_cases hx:xs=[]
 · cases rx
   cases ry
   obtain⟨aq,r1,p1,_⟩:=I.tuple (.of ha)
   obtain⟨its2,r2,p2,_⟩:=I.tuple (.of hb)
   obtain⟨⟨cls,dd,data,sl⟩,ho,hc,n,hd⟩:=id p1
   obtain⟨⟨cls2,dd2,data2,sl2⟩,ho2,hc2,n2,hd2⟩:=id p2
   simp only at hc hd hc2 hd2
   subst hc hd hc2 hd2
   have hi:aq=[]:=(L2.Vals.rL r1).mpr hx
   exact concat_meets ⟨_,ho,rfl⟩ ⟨_,ho2,rfl⟩ noFill_tuple_add seq_tuple_add PySem.F.slot_tuple_add PySem.F.entry_tuple_add (PySem.F.args_tuple_add_2 _ _)
    (tuple_addW0 a b aq.toArray its2.toArray n n2 dd dd2 sl sl2 (by simp[hi])) ⟨ho,ho2,⟨.ref b,H,I,rfl,q0 hx⟩⟩
 · exact Gz pins s σ H _ _ v u Q I rx ry ⟨a,b,xs,ys,rfl,rfl,.of ha,.of hb,hx,hz,q1 hx,q2 hx⟩
theorem uN:fillsNumberSlot (.type "tuple") "mul"=pure false:=
 PySem.fillsNumberSlot_seq (id:="tuple.__mul__") (r:=some (.builtin "tuple.__rmul__")) F.slot_tuple_mul.lookup (by decide+kernel) F.slot_tuple_rmul.lookup (by decide+kernel)
theorem Am:seqRepeat? (.type "tuple")=pure (some (.builtin "tuple.__mul__")):=by
 unfold seqRepeat?
 rw[PySem.seqSlot_of (T:="tuple") (name:="__mul__") (id:="tuple.__mul__") F.slot_tuple_mul.lookup (by decide+kernel),PySem.seqSlot_of (T:="tuple") (name:="__rmul__") (id:="tuple.__rmul__") F.slot_tuple_rmul.lookup (by decide+kernel)]
 rfl
theorem wY(a:Int)(t:Tok)(l:Addr)(aq:Array Value)(n:Nat)(dd:Option Addr)(sl:Array (Option Value)):Meets (Builtin.«int.__rmul__» ⟨[.int a t,.ref l],[]⟩) (fun _ R s=>s.heap.get? l=some {cls:= .type "tuple",dict:=dd,data:= .seq aq n,slots:=sl}∧R (.ok (.ret Value.notImplemented)) s):=
 .of_wp fun P w A R s h=>by
  obtain⟨hp,g,d,tk,os⟩:=s
  obtain⟨hl,h⟩:=h
  wp_walk
  exact⟨_,rfl,h⟩
theorem wX(l:Addr)(aq:Array Value)(n:Nat)(dd:Option Addr)(sl:Array (Option Value))(x:Int)(u:Tok)(h0:(decide (x< -(2^63))||decide (x≥2^63))=false)(h1:(aq.isEmpty||x==1)=true):
 Meets (Builtin.«tuple.__mul__» ⟨[.ref l,.int x u],[]⟩) (fun _ R s=>s.heap.get? l=some {cls:= .type "tuple",dict:=dd,data:= .seq aq n,slots:=sl}∧R (.ok (.ret (.ref l))) s):=
 .of_wp fun P w A R s h=>by
  obtain⟨hp,g,d,tk,os⟩:=s
  obtain⟨hl,h⟩:=h
  wp_walk
  refine wpAny_ite_false (by rw[h0];rfl) ?_
  wp_walk
  exact⟨_,rfl,h⟩
theorem wV(l:Addr)(aq:Array Value)(n:Nat)(dd:Option Addr)(sl:Array (Option Value))(x:Int)(u:Tok)(h0:(decide (x< -(2^63))||decide (x≥2^63))=false)(h1:(aq.isEmpty||x==1)=false)(h2:(decide (x≤0)||aq.isEmpty)=true):
 Meets (Builtin.«tuple.__mul__» ⟨[.ref l,.int x u],[]⟩) (fun _ R s=>s.heap.get? l=some {cls:= .type "tuple",dict:=dd,data:= .seq aq n,slots:=sl}∧R (.ok (.ret (.ref s.heap.objs.size))) {s with heap:=s.heap.push {cls:= .type "tuple",data:= .seq #[]}}):=
 .of_wp fun P w A R s h=>by
  obtain⟨hp,g,d,tk,os⟩:=s
  obtain⟨hl,h⟩:=h
  wp_walk
  refine wpAny_ite_false (by rw[h0];rfl) ?_
  wp_walk
  exact⟨_,rfl,h⟩
theorem xi(l:Addr)(aq:Array Value)(n:Nat)(dd:Option Addr)(sl:Array (Option Value))(x:Int)(u:Tok)(h0:(decide (x< -(2^63))||decide (x≥2^63))=false)(h1:(aq.isEmpty||x==1)=false)(h2:(decide (x≤0)||aq.isEmpty)=false)(h3:¬((aq.size:Int)*x>(2^63-1)/8))(h4:Builtin.Tuple.tupleTooMany (aq.size*x)=false)
 (hz:(List.foldl (fun x1 x2=>x1++x2) #[] (List.replicate x.toNat aq)).size≤sizeLine):
 Meets (Builtin.«tuple.__mul__» ⟨[.ref l,.int x u],[]⟩) (fun _ R s=>s.heap.get? l=some {cls:= .type "tuple",dict:=dd,data:= .seq aq n,slots:=sl}∧R (.ok (.ret (.ref s.heap.objs.size))) {s with heap:=s.heap.push {cls:= .type "tuple",data:= .seq (List.foldl (fun x1 x2=>x1++x2) #[] (List.replicate x.toNat aq))}}):=
 .of_wp fun P w A R s h=>by
  obtain⟨hp,g,d,tk,os⟩:=s
  obtain⟨hl,h⟩:=h
  wp_walk
  refine wpAny_ite_false (by rw[h0];rfl) ?_
  wp_walk
  refine wpAny_ite_false (decide_eq_false h3) ?_
  wp_walk
  exact⟨_,rfl,h⟩
theorem FP:cm X (binaryOp .Mult) (fun x y H Q=>∃l k xs,x= .ref l∧y= .int k∧H l=some (.tup xs)∧ -(2^63)≤k∧k<2^63∧xs.length*k.toNat≤sizeLine∧
 ((xs=[]∨k=1)→Q (.ref l) H)∧(¬(xs=[]∨k=1)→∀p,H p=none→Q (.ref p) (upd H p (.tup (List.replicate k.toNat xs).flatten)))):=by
 intro pins s σ H x y v u Q I rx ry h
 obtain⟨l,k,xs,rfl,rfl,hH,h1,h2,hz,q1,q2⟩:=h
 cases rx
 obtain⟨t,rfl⟩:=ry
 obtain⟨aq,r,p1,_⟩:=I.tuple (.of hH)
 obtain⟨⟨cls,dd,data,sl⟩,ho,hc,n,hd⟩:=id p1
 simp only at hc hd
 subst hc hd
 have hl:xs.length=aq.length:=r.length
 have f0:(decide (k< -(2^63))||decide (k≥2^63))=false:=by
  rw[decide_eq_false (by omega),decide_eq_false (by omega)];rfl
 refine wpAny_binaryOp_repeat_ref (T:="tuple") (U:="int") (by decide) ⟨_,ho,rfl⟩ (fun s'=>typeIs_int s' k t) uN F.fills_int_mul F.slot_int_rmul Am F.slot_int_index.lookup
  (call_meets F.slot_int_rmul (typeIs_int s k t) F.entry_int_rmul (F.args_int_rmul_2 _ _) (wY k t l aq.toArray n dd sl) ⟨ho,rfl,⟨_,ho,rfl⟩,?_⟩)
 by_cases hs:xs=[]∨k=1
 · have f1:(aq.toArray.isEmpty||k==1)=true:=by
    rcases hs with z|z
    · have:aq=[]:=List.length_eq_zero_iff.mp (by rw[←hl,z];rfl)
      rw[this];rfl
    · rw[z];simp
   exact call_meets F.slot_tuple_mul ⟨_,ho,rfl⟩ F.entry_tuple_mul (F.args_tuple_mul_2 _ _) (wX l aq.toArray n dd sl k t f0 f1) ⟨ho,⟨.ref l,H,I,rfl,q1 hs⟩⟩
 · have hne:aq≠ []:=fun z=>hs (.inl (List.length_eq_zero_iff.mp (by rw[hl,z];rfl)))
   have hk1:k≠1:=fun z=>hs (.inr z)
   have e1:aq.toArray.isEmpty=false:=by simpa using hne
   have f1:(aq.toArray.isEmpty||k==1)=false:=by rw[e1];simpa using hk1
   have new:∀(us:List Value) (ys:List V),Vals ys us→ys.length≤sizeLine→Inv X pins σ (upd H s.heap.objs.size (.tup ys)) {s with heap:=s.heap.push {cls:= .type "tuple",data:= .seq us.toArray}}:=fun us ys hv hy=>
    I.laid (t':=s.toks) (fun _ _ q=>Heap.get?_push_of_some _ q) (Nat.le_refl _) ⟨hy,us,hv,⟨_,Heap.get?_push_size _ rfl,rfl,_,rfl⟩⟩
   by_cases h0:k≤0
   · have f2:(decide (k≤0)||aq.toArray.isEmpty)=true:=by rw[decide_eq_true h0];rfl
     refine call_meets F.slot_tuple_mul ⟨_,ho,rfl⟩ F.entry_tuple_mul (F.args_tuple_mul_2 _ _) (wV l aq.toArray n dd sl k t f0 f1 f2) ⟨ho,?_⟩
     have ez:k.toNat=0:=by omega
     rw[ez]at q2
     exact⟨.ref _,_,new [] [] .nil (Nat.zero_le _),rfl,q2 hs _ I.fresh⟩
   · have f2:(decide (k≤0)||aq.toArray.isEmpty)=false:=by rw[decide_eq_false h0,e1];rfl
     have hk:(k.toNat:Int)=k:=by omega
     have hlen:aq.toArray.size*k.toNat≤sizeLine:=by rw[List.size_toArray,←hl];exact hz
     have hsz:((aq.toArray.size:Nat):Int)*k≤(sizeLine:Int):=by
      rw[←hk]
      exact_mod_cast hlen
     have f3:¬(((aq.toArray.size:Nat):Int)*k>(2^63-1)/8):=by
      have:((sizeLine:Nat):Int)≤(2^63-1)/8:=by decide
      omega
     have f4:Builtin.Tuple.tupleTooMany (((aq.toArray.size:Nat):Int)*k)=false:=by
      unfold Builtin.Tuple.tupleTooMany
      exact decide_eq_false (by omega)
     have hnew:List.foldl (fun x1 x2=>x1++x2) #[] (List.replicate k.toNat aq.toArray)=(List.replicate k.toNat aq).flatten.toArray:=by
      have:=foldl_rep aq k.toNat []
      rw[List.nil_append]at this
      exact this
     have hfl:(List.replicate k.toNat aq).flatten.length=aq.length*k.toNat:=by rw[len_rep,Nat.mul_comm]
     refine call_meets F.slot_tuple_mul ⟨_,ho,rfl⟩ F.entry_tuple_mul (F.args_tuple_mul_2 _ _) (xi l aq.toArray n dd sl k t f0 f1 f2 f3 f4 (by rw[hnew,List.size_toArray,hfl];exact hlen)) ⟨ho,?_⟩
     rw[hnew]
     exact⟨.ref _,_,new _ _ (r.rep k.toNat) (by rw[len_rep,Nat.mul_comm];exact hz),rfl,q2 hs _ I.fresh⟩
noncomputable def Fi:dN:=fun x y st K=>match x,y with
 | .int i,.int j=>K (.int (i+j)) st
 | .tup xs,.tup ys=>xs.length+ys.length≤sizeLine∧K (.tup (xs++ys)) st
 | .lst xs,.lst ys=>xs.length+ys.length≤sizeLine∧K (.lst (xs++ys)) st
 | .str x,.str y=>x.length+y.length≤sizeLine∧K (.str (x++y)) st
 |_,_=>False
theorem LQ:cm X (binaryOp .Add) (LR Fi):=fun pins s σ H x y v u Q I rx ry ⟨α,d,e,st,K,G,F',P,r1,r2,S,q,k⟩=>by
 cases d<;>cases e<;>try exact q.elim
 · unfold Rep at r1 r2
   exact JZ pins s σ H x y v u Q I rx ry ⟨_,_,r1,r2,k.here P q S (by unfold Rep;rfl)⟩
 · unfold Rep at r1 r2
   exact AH pins s σ H x y v u Q I rx ry ⟨_,_,r1,r2,q.1,k.here P q.2 S (by unfold Rep;rfl)⟩
 · unfold Rep at r1 r2
   obtain⟨a,vs,rfl,na,ha,ra⟩:=r1
   obtain⟨b,ws,rfl,nb,hb,rb⟩:=r2
   refine G8 pins s σ H _ _ v u Q I rx ry ⟨a,b,vs,ws,rfl,rfl,fM P ha,fM P hb,by rw[←ra.length,←rb.length];exact q.1,fun p hp=>?_⟩
   exact k.lst P q.2 S (bf.mpr (fG (bf.mp ra) (bf.mp rb))) hp
 · rename_i xs ys
   unfold Rep at r1 r2
   obtain⟨a,vs,rfl,na,ha,ra⟩:=r1
   obtain⟨b,ws,rfl,nb,hb,rb⟩:=r2
   have hl1:=ra.length
   have hl2:=rb.length
   refine Ej pins s σ H _ _ v u Q I rx ry ⟨a,b,vs,ws,rfl,rfl,P.get ha,P.get hb,by rw[←hl1,←hl2];exact q.1,fun z=>?_,fun _ z=>?_,fun _ _ p hp=>?_⟩
   · refine k.here P q.2 S ?_
     unfold Rep
     have:xs=[]:=by rw[z]at hl1;exact List.length_eq_zero_iff.mp hl1
     subst this
     exact⟨b,ws,rfl,nb,hb,rb⟩
   · refine k.here P q.2 S ?_
     unfold Rep
     have:ys=[]:=by rw[z]at hl2;exact List.length_eq_zero_iff.mp hl2
     subst this
     rw[List.append_nil]
     exact⟨a,vs,rfl,na,ha,ra⟩
   · exact k.tup P q.2 S (bf.mpr (fG (bf.mp ra) (bf.mp rb))) hp
noncomputable def E_:dN:=fun x y st K=>match x,y with
 | .int i,.int j=>IntMulOk i j∧K (.int (i*j)) st
 | .lst xs,.int k=>(-(2^63)≤k∧k<2^63∧xs.length*k.toNat≤sizeLine)∧K (.lst (List.replicate k.toNat xs).flatten) st
 | .tup xs,.int k=>(-(2^63)≤k∧k<2^63∧xs.length*k.toNat≤sizeLine)∧K (.tup (List.replicate k.toNat xs).flatten) st
 |_,_=>False
theorem KY:cm X (binaryOp .Mult) (LR E_):=fun pins s σ H x y v u Q I rx ry ⟨α,d,e,st,K,G,F',P,r1,r2,S,q,k⟩=>by
 cases d<;>cases e<;>try exact q.elim
 · unfold Rep at r1 r2
   have h:cm X (binaryOp .Mult) (rI IntMulOk fun i j=> .int (i*j)):=E8 fun _ _ _ _ _ _ _ hc q=>mul_int q hc
   exact h pins s σ H x y v u Q I rx ry ⟨_,_,r1,r2,q.1,k.here P q.2 S (by unfold Rep;rfl)⟩
 · unfold Rep at r1 r2
   obtain⟨a,vs,rfl,na,ha,ra⟩:=r1
   refine zY pins s σ H _ _ v u Q I rx ry ⟨a,_,vs,rfl,r2,fM P ha,q.1.1,q.1.2.1,by rw[←ra.length];exact q.1.2.2,fun p hp=>?_⟩
   exact k.lst P q.2 S (bf.mpr (k6 (bf.mp ra) _)) hp
 · rename_i xs m
   have r1':=r1
   unfold Rep at r1 r2
   obtain⟨a,vs,rfl,na,ha,ra⟩:=r1
   refine FP pins s σ H _ _ v u Q I rx ry ⟨a,_,vs,rfl,r2,P.get ha,q.1.1,q.1.2.1,by rw[←ra.length];exact q.1.2.2,fun hs=>?_,fun _ p hp=>k.tup P q.2 S (bf.mpr (k6 (bf.mp ra) _)) hp⟩
   have e:(List.replicate m.toNat xs).flatten=xs:=by
    rcases hs with z|z
    · have:xs=[]:=List.length_eq_zero_iff.mp (by rw[ra.length,z];rfl)
      rw[this];simp
    · rw[z];simp
   have q2:=q.2
   rw[e]at q2
   exact k.here P q2 S r1'
noncomputable def live(st:ag):D→Bool
 | .ref n=>(match st[n]? with|some (.lst _)=>true|some (.ins _ _)=>true|_=>false)
 |_=>true
theorem yx{α:List (Option Addr)}{H:Hp}{st:ag}{n:Nat}{v:V}(S:aU α st H)(h:live st (.ref n)=true)(r:Rep α H (.ref n) v):∃a,v= .ref a:=by
 unfold live at h
 simp only at h
 split at h
 · rename_i e
   obtain⟨a,ea,_⟩:=S.jg e
   exact⟨a,eQ ea r⟩
 · rename_i e
   obtain⟨a,ea,_⟩:=S.wB e
   exact⟨a,eQ ea r⟩
 · cases h
noncomputable def Gx:dN:=fun x y st K=>match y with| .aG=>live st x=true∧K (.bl (match x with| .aG=>false|_=>true)) st|_=>False
theorem F1:cm X (compareOp .IsNot) (LR Gx):=cm.imp FJ fun x y H Q ⟨α,d,e,st,K,G,F',P,r1,r2,S,q,k⟩=>by
 cases e<;>try exact q.elim
 unfold Rep at r2
 refine⟨r2,k.here P q.2 S ?_⟩
 unfold Rep
 cases d
 case ref n=>
  obtain⟨a,rfl⟩:=yx S q.1 r1
  rfl
 all_goals(unfold Rep at r1;first|(rw[r1];rfl)|(obtain⟨a,vs,rfl,_⟩:=r1;rfl))
noncomputable def pJ:dN:=fun x y st K=>match y with
 | .int i=>(match x with
   | .lst xs=>(match dM xs i with|some d=>K d st|none=>False)
   | .tup xs=>(match dM xs i with|some d=>K d st|none=>False)
   | .ref n=>(match st[n]? with|some (.lst xs)=>(match dM xs i with|some d=>K d st|none=>False)|_=>False)
   |_=>False)
 |_=>False
theorem aJ.dM{α:List (Option Addr)}{H:Hp}{ds:List D}{vs:List V}{i:Int}{d:D}(h:aJ α H ds vs)(e:L2.dM ds i=some d):∃v,L2.dM vs i=some v∧Rep α H d v:=by
 unfold L2.dM at e⊢
 rw[←h.length]
 cases q:kb ds.length i with
 |none=>rw[q]at e;cases e
 |some j=>rw[q]at e;exact h.get e
theorem MZ:Fo X (LR pJ):=fun value slice pins s σ H x y v u Q I rx ry ⟨α,d,e,st,K,G,F',P,r1,r2,S,q,k⟩ hs=>by
 cases e<;>try exact q.elim
 unfold Rep at r2
 cases d<;>try exact q.elim
 · rename_i i n
   unfold pJ at q
   simp only at q
   split at q
   · split at q
     · rename_i xs e1 _ d' e2
       obtain⟨a,ea,vs,hv,rv⟩:=S.jg e1
       have r1':=eQ ea r1
       subst r1'
       obtain⟨z,ez,rz⟩:=rv.dM e2
       exact zk value slice pins s σ H _ _ v u Q I rx ry ⟨a,vs,_,z,rfl,r2,.of (P.get hv),ez,k.here P q S rz⟩ hs
     · exact q.elim
   · exact q.elim
 · unfold pJ at q
   simp only at q
   split at q
   · rename_i xs d' e2
     unfold Rep at r1
     obtain⟨a,vs,rfl,na,ha,ra⟩:=r1
     obtain⟨z,ez,rz⟩:=ra.dM e2
     exact zk value slice pins s σ H _ _ v u Q I rx ry ⟨a,vs,_,z,rfl,r2,.inl (fM P ha),ez,k.here P q S rz⟩ hs
   · exact q.elim
 · unfold pJ at q
   simp only at q
   split at q
   · rename_i xs d' e2
     unfold Rep at r1
     obtain⟨a,vs,rfl,na,ha,ra⟩:=r1
     obtain⟨z,ez,rz⟩:=ra.dM e2
     exact II value slice pins s σ H _ _ v u Q I rx ry ⟨a,vs,_,z,rfl,r2,.of (P.get ha),ez,k.here P q S rz⟩ hs
   · exact q.elim
theorem M0{a b:Expr}{ta tb:DE}{pos:Pos}(ha:PE X a (LE ta))(hb:PE X b (LE tb))(hs:rk b:=by intro _ _;rfl):PE X (.Subscript a b pos) (LE (au pJ ta tb)):=PE.imp (Kw MZ ha hb hs) fun _ _ _ h=>LE.op h
end
end L3
namespace L3
open PySem PySem.Spec L2
open PyProof.Rows hiding St
section
variable {X:Cx}
noncomputable def items?(st:ag):D→Option (List D)
 | .lst xs=>some xs
 | .tup xs=>some xs
 | .ref n=>(match st[n]? with|some (.lst xs)=>some xs|_=>none)
 |_=>none
@[simp] theorem L8(st:ag)(xs:List D):items? st (.lst xs)=some xs:=rfl
@[simp] theorem Mq(st:ag)(xs:List D):items? st (.tup xs)=some xs:=rfl
@[simp] theorem items_int(st:ag)(i:Int):items? st (.int i)=none:=rfl
@[simp] theorem Nh(st:ag)(i:Bool):items? st (.bl i)=none:=rfl
@[simp] theorem items_str(st:ag)(i:Str):items? st (.str i)=none:=rfl
@[simp] theorem Mh(st:ag):items? st .aG=none:=rfl
theorem aH{st:ag}{n:Nat}{xs:List D}(h:st[n]?=some (.lst xs)):items? st (.ref n)=some xs:=by unfold items?;simp only[h]
theorem nN{α:List (Option Addr)}{H:Hp}{st:ag}{d:D}{v:V}{xs:List D}(S:aU α st H)(r:Rep α H d v)(e:items? st d=some xs):
 ∃p vs,v= .ref p∧aJ α H xs vs∧(Rd H p (.lst vs)∨H p=some (.tup vs)):=by
 cases d<;>try(cases e;done)
 · unfold items? at e
   simp only at e
   split at e
   · rename_i ys q
     cases e
     obtain⟨a,ea,vs,h1,h2⟩:=S.jg q
     have r':=eQ ea r
     subst r'
     exact⟨a,vs,rfl,h2,.inl (.of h1)⟩
   · cases e
 · cases e
   unfold Rep at r
   obtain⟨a,vs,rfl,_,h1,h2⟩:=r
   exact⟨a,vs,rfl,h2,.inl h1⟩
 · cases e
   unfold Rep at r
   obtain⟨a,vs,rfl,_,h1,h2⟩:=r
   exact⟨a,vs,rfl,h2,.inr h1⟩
theorem AF{K:PySem.W.Frag}{G F H:Hp}(P:bZ G F H){p:Addr}{vs:List V}(h:Rd G p (.lst vs)∨G p=some (.tup vs)):k_ K H p vs∨iE K H p vs:=h.elim (fun z=> .inl (.inl (fM P z))) fun z=> .inr (.of (P.get z))
theorem gE{α:List (Option Addr)}{H:Hp}{ds:List D}{xs:List V}{d:D}(r:aJ α H ds xs)(e:ds=[d]):∃v,xs=[v]∧Rep α H d v:=by
 subst e
 unfold aJ at r
 obtain⟨v,q,rfl,h1,h2⟩:=r
 unfold aJ at h2
 subst h2
 exact⟨v,rfl,h1⟩
theorem pH{α:List (Option Addr)}{H:Hp}{ds:List D}{xs:List V}{d e:D}(r:aJ α H ds xs)(q:ds=[d,e]):∃v u,xs=[v,u]∧Rep α H d v∧Rep α H e u:=by
 subst q
 unfold aJ at r
 obtain⟨v,q,rfl,h1,h2⟩:=r
 obtain⟨u,rfl,h3⟩:=gE h2 rfl
 exact⟨v,u,rfl,h1,h3⟩
noncomputable def wz:ft:=fun ds st K=>match ds with
 | [.str x]=>x.length≤sizeLine∧K (.int x.length) st
 | [d]=>(match items? st d with|some xs=>K (.int xs.length) st|none=>False)
 |_=>False
theorem Ks:bY X (.builtin "len") (f_ wz):=fun pins s σ H xs us Q I rs ⟨α,ds,st,K,G,F',P,r,S,q,k⟩=>by
 unfold wz at q
 split at q
 · rename_i x
   obtain⟨v,rfl,r1⟩:=gE r rfl
   unfold Rep at r1
   subst r1
   exact yO pins s σ H _ us Q I rs ⟨x,rfl,q.1,k.here P q.2 S (by unfold Rep;rfl)⟩
 · rename_i d _
   split at q
   · rename_i ys e
     obtain⟨v,rfl,r1⟩:=gE r rfl
     obtain⟨p,vs,rfl,r2,h⟩:=nN S r1 e
     refine xR pins s σ H _ us Q I rs ⟨p,vs,rfl,AF P h,k.here P q S (by unfold Rep;rw[r2.length])⟩
   · exact q.elim
 · exact q.elim
noncomputable def Ms(g:Int→Int):ft:=fun ds st K=>match ds with| [.int i]=>K (.int (g i)) st|_=>False
noncomputable abbrev Bb:ft:=Ms fun i=>if i<0 then-i else i
theorem LH:bY X (.builtin "abs") (f_ Bb):=bY.imp EC fun xs H Q ⟨α,ds,st,K,G,F',P,r,S,q,k⟩=>by
 unfold Bb Ms at q
 split at q
 · obtain⟨v,rfl,r1⟩:=gE r rfl
   unfold Rep at r1
   subst r1
   exact⟨_,rfl,k.here P q S (by unfold Rep;rfl)⟩
 · exact q.elim
noncomputable def Aj:ft:=fun ds st K=>match ds with| [.int i]=>K (.int i) st| [.bl b]=>K (.int (if b then 1 else 0)) st|_=>False
theorem KP:bY X (.type "int") (f_ Aj):=bY.imp Bi fun xs H Q ⟨α,ds,st,K,G,F',P,r,S,q,k⟩=>by
 unfold Aj at q
 split at q
 · obtain⟨v,rfl,r1⟩:=gE r rfl
   unfold Rep at r1
   subst r1
   exact .inl ⟨_,rfl,k.here P q S (by unfold Rep;rfl)⟩
 · obtain⟨v,rfl,r1⟩:=gE r rfl
   unfold Rep at r1
   subst r1
   exact .inr ⟨_,rfl,k.here P q S (by unfold Rep;rfl)⟩
 · exact q.elim
noncomputable def rF:ft:=fun ds st K=>match ds with| [d]=>(match items? st d with|some xs=>K (.tup xs) st|none=>False)|_=>False
theorem G_:bY X (.type "tuple") (f_ rF):=bY.imp vW fun xs H Q ⟨α,ds,st,K,G,F',P,r,S,q,k⟩=>by
 unfold rF at q
 split at q
 · rename_i d
   split at q
   · rename_i ys e
     obtain⟨v,rfl,r1⟩:=gE r rfl
     cases d with
     |tup zs=>
      cases e
      have r0:=r1
      unfold Rep at r1
      obtain⟨a,vs,rfl,na,h1,h2⟩:=r1
      exact⟨a,vs,rfl,.inr ⟨.of (P.get h1),k.here P q S r0⟩⟩
     |_=>
      obtain⟨p,vs,rfl,r2,h⟩:=nN S r1 e
      refine⟨p,vs,rfl,?_⟩
      rcases h with h|h
      · exact .inl ⟨.inl (fM P h),fun l hl=>k.tup P q S r2 hl⟩
      · first
         |(cases e;done)
         |(exfalso
           unfold items? at e
           simp only at e
           first
            |(split at e
              · rename_i z
                obtain⟨a,ea,vs',h1,h2⟩:=S.jg z
                have e':=eQ ea r1
                cases e'
                rw[h]at h1;cases h1
              · cases e)
            |(unfold Rep at r1
              obtain⟨a,vs',e',_,h1,_⟩:=r1
              cases e'
              rcases h1 with h1|⟨o,h1⟩<;>(rw[h]at h1;cases h1)))
   · exact q.elim
 · exact q.elim
noncomputable def tY:ft:=fun ds st K=>match ds with| [d]=>(match items? st d with|some xs=>K (.lst xs) st|none=>False)|_=>False
theorem J8:bY X (.type "list") (f_ tY):=bY.imp qY fun xs H Q ⟨α,ds,st,K,G,F',P,r,S,q,k⟩=>by
 unfold tY at q
 split at q
 · split at q
   · rename_i ys e
     obtain⟨v,rfl,r1⟩:=gE r rfl
     obtain⟨p,vs,rfl,r2,h⟩:=nN S r1 e
     exact⟨p,vs,rfl,AF P h,fun l hl=>k.lst P q S r2 hl⟩
   · exact q.elim
 · exact q.elim
noncomputable def rQ:ft:=fun ds st K=>match ds with| [d]=>(match items? st d with|some xs=>K (.ref st.length) (st++[.lst xs])|none=>False)|_=>False
theorem FY:bY X (.type "list") (f_ rQ):=bY.imp qY fun xs H Q ⟨α,ds,st,K,G,F',P,r,S,q,k⟩=>by
 unfold rQ at q
 split at q
 · split at q
   · rename_i ys e
     obtain⟨v,rfl,r1⟩:=gE r rfl
     obtain⟨p,vs,rfl,r2,h⟩:=nN S r1 e
     exact⟨p,vs,rfl,AF P h,fun l hl=>k.new P q S r2 hl⟩
   · exact q.elim
 · exact q.elim
noncomputable def i8:List D→Option (List Bool)
 | []=>some []
 | .bl b::r=>(i8 r).map (b:: ·)
 |_::_=>none
noncomputable def kI:List D→Option (List Int)
 | []=>some []
 | .int b::r=>(kI r).map (b:: ·)
 |_::_=>none
theorem tT{α:List (Option Addr)}{H:Hp}:∀ {ds:List D} {vs:List V} {bs:List Bool},aJ α H ds vs→i8 ds=some bs→vs=bs.map V.bl
 | [],vs,bs,r,e=>by
   unfold aJ at r
   cases e
   exact r
 |d::ds,vs,bs,r,e=>by
  unfold aJ at r
  obtain⟨v,q,rfl,h1,h2⟩:=r
  cases d<;>try(cases e;done)
  unfold i8 at e
  cases z:i8 ds with
  |none=>rw[z]at e;cases e
  |some cs=>
   rw[z]at e
   cases e
   unfold Rep at h1
   rw[h1,tT h2 z]
   rfl
theorem qF{α:List (Option Addr)}{H:Hp}:∀ {ds:List D} {vs:List V} {bs:List Int},aJ α H ds vs→kI ds=some bs→vs=bs.map V.int
 | [],vs,bs,r,e=>by
   unfold aJ at r
   cases e
   exact r
 |d::ds,vs,bs,r,e=>by
  unfold aJ at r
  obtain⟨v,q,rfl,h1,h2⟩:=r
  cases d<;>try(cases e;done)
  unfold kI at e
  cases z:kI ds with
  |none=>rw[z]at e;cases e
  |some cs=>
   rw[z]at e
   cases e
   unfold Rep at h1
   rw[h1,qF h2 z]
   rfl
theorem tP:∀ {bs:List Bool} {us:List Value},Vals (bs.map V.bl) us→us=bs.map Value.bool
 | [],_,.nil=>rfl
 |b::bs,_,.cons h t=>by
  have h:_=Value.bool b:=h
  rw[h,tP t]
  rfl
end
end L3
namespace L3
open PySem PySem.Spec L2
open PyProof.Rows hiding St
section
variable {X:Cx}
noncomputable def wk:ft:=fun ds st K=>match ds with| [.lst xs]=>(match i8 xs with|some bs=>K (.bl (bs.all id)) st|none=>False)|_=>False
theorem range_all{α:Type}(l:List α)(f:α→Bool)(tr:Nat→Bool)(h:∀i x,l[i]?=some x→tr i=f x):(List.range l.length).all tr=l.all f:=by
 induction l generalizing tr with
 |nil=>rfl
 |cons a l ih=>
  rw[List.length_cons,List.range_succ_eq_map,List.all_cons,List.all_cons,List.all_map,h 0 a rfl]
  congr 1
  exact ih (tr∘Nat.succ) fun i x e=>h (i+1) x (by simpa using e)
theorem K7(hc:X.calm=true):bY X (.builtin "all") (f_ wk):=fun pins s σ H xs us Q I rs ⟨α,ds,st,K,G,F',P,r,S,q,k⟩=>by
 unfold wk at q
 split at q
 · rename_i ys
   split at q
   · rename_i bs e
     obtain⟨v,rfl,r1⟩:=gE r rfl
     unfold Rep at r1
     obtain⟨a,vs,rfl,na,h1,h2⟩:=r1
     obtain⟨u,rfl,ru⟩:=vals1 rs
     cases ru
     have hv:=tT h2 e
     subst hv
     obtain⟨z,aq,n,rv,hl,eo⟩:=Inv.sR I (fM P h1)
     have hits:=tP rv
     subst hits
     have isL:s.heap.IsList a (bs.map Value.bool).toArray:=⟨_,eo,rfl,n,rfl⟩
     refine call_all_walk (wpAny_pyIter_list isL ?_)
     have hne:a≠s.heap.objs.size:=Nat.ne_of_lt (Heap.lt_size eo)
     refine⟨s.heap.objs.size,_,_,_,_,_,fun i=>(bs[i]?).getD true,rfl,Walks.list (A:=X.A.in1) (I.ok.hd hc) _ a hne (bs.map Value.bool).toArray,⟨⟨_,Heap.get?_push_size _ rfl,rfl,rfl⟩,⟨_,Heap.get?_push_of_some _ eo,rfl,n,rfl⟩⟩,?_,?_⟩
     · intro i w s' Q' E' hP hQ
       rw[List.getElem?_toArray,List.getElem?_map]at hP
       cases zb:bs[i]? with
       |none=>rw[zb]at hP;cases hP
       |some b=>
        rw[zb]at hP
        cases hP
        simp only[zb]at hQ
        exact wpAny_truthy_bool hQ
     · intro h' tk hk
       have kp:∀b o,s.heap.get? b=some o→h'.get? b=some o:=fun b o q=>hk b o (by
        intro hb
        have:b=s.heap.objs.size:=by simpa using hb
        exact absurd (Heap.lt_size q) (by rw[this];exact Nat.lt_irrefl _)) (Heap.get?_push_of_some _ q)
       have ea:(List.range (bs.map Value.bool).toArray.size).all (fun i=>(bs[i]?).getD true)=bs.all id:=by
        rw[List.size_toArray,List.length_map]
        exact range_all bs id _ fun i x e=>by rw[e];rfl
       rw[ea]
       exact⟨.bl (bs.all id),H,I.kept (t':=tk) kp,rfl,k.here P q S (by unfold Rep;rfl)⟩
   · exact q.elim
 · exact q.elim
noncomputable def ie(st:ag):D→Option String
 | .aG=>some "NoneType"
 | .bl _=>some "bool"
 | .int _=>some "int"
 | .str _=>some "str"
 | .lst _=>some "list"
 | .tup _=>some "tuple"
 | .ref n=>(match st[n]? with|some (.lst _)=>some "list"|_=>none)
 | .ty _=>none
@[simp] theorem NK(st:ag)(xs:List D):ie st (.lst xs)=some "list":=rfl
@[simp] theorem Nn(st:ag)(xs:List D):ie st (.tup xs)=some "tuple":=rfl
@[simp] theorem ty_int(st:ag)(i:Int):ie st (.int i)=some "int":=rfl
@[simp] theorem NL(st:ag)(i:Bool):ie st (.bl i)=some "bool":=rfl
@[simp] theorem ty_str(st:ag)(i:Str):ie st (.str i)=some "str":=rfl
@[simp] theorem Nl(st:ag):ie st .aG=some "NoneType":=rfl
noncomputable def qI(t c:String):Bool:=t==c||(t=="bool"&&c=="int")
theorem yD{α:List (Option Addr)}{H:Hp}{st:ag}{K:PySem.W.Frag}{d:D}{v:V}{t:String}(S:aU α st H)(r:Rep α H d v)(e:ie st d=some t):iY K H v (.type t):=by
 cases d<;>unfold ie at e<;>try(cases e;done)
 · unfold Rep at r;cases e;subst r;exact .aG
 · unfold Rep at r;cases e;subst r;exact .bl _
 · unfold Rep at r;cases e;subst r;exact .int _
 · unfold Rep at r;cases e;subst r;exact .str _
 · simp only at e
   split at e
   · rename_i z
     cases e
     obtain⟨a,ea,vs',h1,h2⟩:=S.jg z
     have r':=eQ ea r
     subst r'
     exact .lst h1
   · cases e
 · cases e
   unfold Rep at r
   obtain⟨a,vs,rfl,na,h1,h2⟩:=r
   rcases h1 with h1|⟨o,h1⟩
   · exact .lst h1
   · exact .fW h1
 · cases e
   unfold Rep at r
   obtain⟨a,vs,rfl,na,h1,h2⟩:=r
   exact .tup h1
theorem zl{G F H:Hp}{K:PySem.W.Frag}(P:bZ G F H){x:V}{t:Value}(h:iY K G x t):iY K H x t:=by
 cases h with
 |aG=>exact .aG
 |bl x=>exact .bl x
 |int x=>exact .int x
 |str x=>exact .str x
 |rY x=>exact .rY x
 |lst e=>exact .lst (P.get e)
 |fW e=>exact .fW (P.get e)
 |tup e=>exact .tup (P.get e)
 |dK e=>exact .dK (P.get e)
 |dT e=>exact .dT (P.get e)
 |ins e a b c d f=>exact .ins (P.get e) a b c d f
noncomputable def rE:List String:=["NoneType","bool","int","str","list","tuple"]
noncomputable def kC:List String:=["bool","int","str","list","tuple"]
theorem zC(K:PySem.W.Frag){t c:String}(ht:t∈rE)(hc:c∈kC):PySem.W.kitOne K (.type t) (.type c)=some (qI t c):=by
 simp only[rE,kC,List.mem_cons,List.not_mem_nil,or_false]at ht hc
 rcases ht with rfl|rfl|rfl|rfl|rfl|rfl<;>rcases hc with rfl|rfl|rfl|rfl|rfl<;>with_unfolding_all rfl
theorem ym{st:ag}{d:D}{t:String}(e:ie st d=some t):t∈rE:=by
 cases d<;>unfold ie at e<;>first
  |(cases e;done)
  |(cases e;decide)
  |(simp only at e;split at e<;>cases e;decide)
theorem kitx_of{pins:List (Addr×Obj)}{σ:L2.St}{H:Hp}{s:Shared}{x:V}{u:Value}{t:String}(I:Inv X pins σ H s)(rx:RelV x u)(ty:iY X.K H x (.type t)):
 ∃Hh:Heap→Prop,PySem.W.KitX X.K u (.type t) Hh∧Hh s.heap∧u≠ .builtin "__main__.__loader__#opaque":=by
 cases ty with
 |aG=>cases (show u=Value.none from rx);exact⟨_,PySem.W.kitx_none,True.intro,fun z=>nomatch z⟩
 |bl y=>cases (show u=Value.bool y from rx);exact⟨_,PySem.W.kitx_bool,True.intro,fun z=>nomatch z⟩
 |int i=>obtain⟨t,q⟩:=(show∃t,u=Value.int i t from rx);cases q;exact⟨_,PySem.W.kitx_int,True.intro,fun z=>nomatch z⟩
 |str y=>obtain⟨t,q⟩:=(show∃t,u=Value.str y t from rx);cases q;exact⟨_,PySem.W.kitx_str,True.intro,fun z=>nomatch z⟩
 |rY y=>obtain⟨t,q⟩:=(show∃t,u=Value.float y t from rx);cases q;exact⟨_,PySem.W.kitx_float,True.intro,fun z=>nomatch z⟩
 | @lst a xs ea=>
   cases (show u=Value.ref a from rx)
   obtain⟨_,_,n,_,h1⟩:=(show dj X.prog X.w H s.heap a (.lst xs)from I.aI a _ ea)
   exact⟨_,PySem.W.kitx_list,⟨_,h1,rfl⟩,fun z=>nomatch z⟩
 | @fW a ob xs ea=>
   cases (show u=Value.ref a from rx)
   obtain⟨_,_,_,n,_,h1⟩:=(show dj X.prog X.w H s.heap a (.fW ob (.lst xs))from I.aI a _ ea)
   exact⟨_,PySem.W.kitx_list,⟨_,h1,rfl⟩,fun z=>nomatch z⟩
 | @tup a xs ea=>
   cases (show u=Value.ref a from rx)
   obtain⟨_,_,_,p⟩:=(show dj X.prog X.w H s.heap a (.tup xs)from I.aI a _ ea)
   obtain⟨o,h1,h2,_⟩:=p
   exact⟨_,PySem.W.kitx_tuple,⟨o,h1,h2⟩,fun z=>nomatch z⟩
 | @dK a kvs ea=>
   cases (show u=Value.ref a from rx)
   obtain⟨_,_,vs,_,p⟩:=(show dj X.prog X.w H s.heap a (.dK kvs)from I.aI a _ ea)
   obtain⟨o,es,ep,h1,h2,_⟩:=p
   exact⟨_,PySem.W.kitx_dict,⟨o,h1,h2.1⟩,fun z=>nomatch z⟩
 | @dT a kvs ea=>
   cases (show u=Value.ref a from rx)
   obtain⟨_,_,xs,_,o,es,ep,h1,h2,_⟩:=(show dj X.prog X.w H s.heap a (.dT kvs)from I.aI a _ ea)
   exact⟨_,PySem.W.kitx_dict,⟨o,h1,h2.1⟩,fun z=>nomatch z⟩
noncomputable def mm:List D→Option (List String)
 | []=>some []
 | .ty b::r=>(mm r).map (b:: ·)
 |_::_=>none
theorem xZ{α:List (Option Addr)}{H:Hp}:∀ {ds:List D} {vs:List V} {bs:List String},aJ α H ds vs→mm ds=some bs→vs=bs.map V.ty
 | [],vs,bs,r,e=>by
   unfold aJ at r
   cases e
   exact r
 |d::ds,vs,bs,r,e=>by
  unfold aJ at r
  obtain⟨v,q,rfl,h1,h2⟩:=r
  cases d<;>try(cases e;done)
  unfold mm at e
  cases z:mm ds with
  |none=>rw[z]at e;cases e
  |some cs=>
   rw[z]at e
   cases e
   unfold Rep at h1
   rw[h1,xZ h2 z]
   rfl
theorem xB:∀ {bs:List String} {us:List Value},Vals (bs.map V.ty) us→us=bs.map Value.type
 | [],_,.nil=>rfl
 |b::bs,_,.cons h t=>by
  have h:_=Value.type b:=h
  rw[h,xB t]
  rfl
theorem zj(K:PySem.W.Frag){t:String}(ht:t∈rE):∀cs:List String,(∀c∈cs,c∈kC)→PySem.W.kitAny K (.type t) (cs.map Value.type)=some (cs.any (qI t))
 | [],_=>rfl
 |c::cs,h=>by
  show(match PySem.W.kitOne K (.type t) (.type c)with|some true=>some true|some false=>PySem.W.kitAny K (.type t) (cs.map Value.type)|none=>none)=_
  rw[zC K ht (h c List.mem_cons_self),List.any_cons]
  cases qI t c with
  |true=>rfl
  |false=>exact zj K ht cs fun c hc=>h c (List.mem_cons_of_mem _ hc)
noncomputable def tM:ft:=fun ds st K=>match ds with
 | [d,.ty c]=>(match ie st d with|some t=>c∈kC∧K (.bl (qI t c)) st|none=>False)
 | [d,.tup cs]=>(match ie st d,mm cs with|some t,some cl=>(∀c∈cl,c∈kC)∧K (.bl (cl.any (qI t))) st|_,_=>False)
 |_=>False
theorem KG:bY X (.builtin "isinstance") (f_ tM):=fun pins s σ H xs us Q I rs ⟨α,ds,st,K,G,F',P,r,S,q,k⟩=>by
 unfold tM at q
 split at q
 · rename_i d c
   split at q
   · rename_i t e
     obtain⟨v,v2,rfl,r1,r2⟩:=pH r rfl
     obtain⟨u,u2,rfl,ru,ru2⟩:=vals2 rs
     unfold Rep at r2
     subst r2
     cases (show u2=Value.type c from ru2)
     exact BI I ru (zl P (yD S r1 e)) (zC _ (ym e) q.1) fun tk=>⟨.bl (qI t c),H,I.tok tk,rfl,k.here P q.2 S (by unfold Rep;rfl)⟩
   · exact q.elim
 · rename_i d cs
   split at q
   · rename_i t cl e ec
     obtain⟨v,v2,rfl,r1,r2⟩:=pH r rfl
     obtain⟨u,u2,rfl,ru,ru2⟩:=vals2 rs
     unfold Rep at r2
     obtain⟨a,vs,rfl,na,h1,h2⟩:=r2
     cases (show u2=Value.ref a from ru2)
     have hv:=xZ h2 ec
     subst hv
     obtain⟨Hh,Z,hh,hne⟩:=kitx_of I ru (zl P (yD S r1 e))
     obtain⟨aq,r',pl,hz⟩:=I.tuple (iE.of (P.get h1))
     have hi:=xB r'
     subst hi
     obtain⟨⟨cls,dd,data,sl⟩,ho,hc,n,hd⟩:=pl
     simp only at hc hd
     subst hc hd
     exact PySem.W.kia_tup Z I.gw hh ho (zj _ (ym e) cl q.1) hne fun tk=>⟨.bl _,H,I.tok tk,rfl,k.here P q.2 S (by unfold Rep;rfl)⟩
   · exact q.elim
 · exact q.elim
end
end L3
namespace L3
open PySem PySem.Spec L2 PySem.SeqAt
open PyProof.Rows hiding St
mutual
noncomputable def cO:D→D→Bool
 | .aG,.aG=>true
 | .bl a,.bl b=>a==b
 | .bl a,.int b=>(if a then 1 else 0)==b
 | .int a,.bl b=>a==(if b then 1 else 0)
 | .int a,.int b=>a==b
 | .str a,.str b=>a==b
 | .lst xs,.lst ys=>kG xs ys
 | .tup xs,.tup ys=>kG xs ys
 |_,_=>false
noncomputable def kG:List D→List D→Bool
 | [],[]=>true
 |x::xs,y::ys=>cO x y&&kG xs ys
 |_,_=>false
end
noncomputable def pl:Nat→D→Bool
 |_,.aG=>true
 |_,.bl _=>true
 |_,.int _=>true
 |_,.str _=>true
 |n+1,.lst xs=>xs.all (pl n)
 |n+1,.tup xs=>xs.all (pl n)
 |_,_=>false
mutual
theorem m7:∀(n:Nat) (d:D),pl n d=true→cO d d=true
 |_,.aG,_=>rfl
 |_,.bl _,_=>by simp[cO]
 |_,.int _,_=>by simp[cO]
 |_,.str _,_=>by simp[cO]
 |n+1,.lst xs,h=>by unfold cO;exact qw n xs (by unfold pl at h;exact h)
 |n+1,.tup xs,h=>by unfold cO;exact qw n xs (by unfold pl at h;exact h)
 |0,.lst xs,h=>by cases h
 |0,.tup xs,h=>by cases h
 |_,.ref _,h=>by unfold pl at h;cases h
 |_,.ty _,h=>by unfold pl at h;cases h
theorem qw:∀(n:Nat) (xs:List D),xs.all (pl n)=true→kG xs xs=true
 |_,[],_=>by unfold kG;rfl
 |n,x::xs,h=>by
  rw[List.all_cons,Bool.and_eq_true]at h
  unfold kG
  rw[m7 n x h.1,qw n xs h.2]
  rfl
end
mutual
theorem Rep.inj{α:List (Option Addr)}{H:Hp}:∀ {d e:D} {v:V} (n:Nat),pl n d=true→pl n e=true→Rep α H d v→Rep α H e v→d=e
 | .aG,e,v,n,_,he,h1,h2=>by
   unfold Rep at h1;subst h1
   cases e<;>first|(unfold pl at he;cases he;done)|(unfold Rep at h2;cases h2;rfl)|(unfold Rep at h2;cases h2;done)|(unfold Rep at h2;obtain⟨_,_,h2,_⟩:=h2;cases h2)|rfl|(cases h2;done)|(obtain⟨_,_,h2,_⟩:=h2;cases h2)|(obtain⟨_,_,h2⟩:=h2;cases h2)
 | .bl b,e,v,n,_,he,h1,h2=>by
   unfold Rep at h1;subst h1
   cases e<;>first|(unfold pl at he;cases he;done)|(unfold Rep at h2;cases h2;rfl)|(unfold Rep at h2;cases h2;done)|(unfold Rep at h2;obtain⟨_,_,h2,_⟩:=h2;cases h2)|(cases h2;rfl)|(cases h2;done)|(obtain⟨_,_,h2,_⟩:=h2;cases h2)|(obtain⟨_,_,h2⟩:=h2;cases h2)
 | .int b,e,v,n,_,he,h1,h2=>by
   unfold Rep at h1;subst h1
   cases e<;>first|(unfold pl at he;cases he;done)|(unfold Rep at h2;cases h2;rfl)|(unfold Rep at h2;cases h2;done)|(unfold Rep at h2;obtain⟨_,_,h2,_⟩:=h2;cases h2)|(cases h2;rfl)|(cases h2;done)|(obtain⟨_,_,h2,_⟩:=h2;cases h2)|(obtain⟨_,_,h2⟩:=h2;cases h2)
 | .str b,e,v,n,_,he,h1,h2=>by
   unfold Rep at h1;subst h1
   cases e<;>first|(unfold pl at he;cases he;done)|(unfold Rep at h2;cases h2;rfl)|(unfold Rep at h2;cases h2;done)|(unfold Rep at h2;obtain⟨_,_,h2,_⟩:=h2;cases h2)|(cases h2;rfl)|(cases h2;done)|(obtain⟨_,_,h2,_⟩:=h2;cases h2)|(obtain⟨_,_,h2⟩:=h2;cases h2)
 | .ty b,e,v,n,hd,he,h1,h2=>by unfold pl at hd;cases hd
 | .ref b,e,v,n,hd,he,h1,h2=>by unfold pl at hd;cases hd
 | .lst xs,e,v,0,hd,he,h1,h2=>by cases hd
 | .tup xs,e,v,0,hd,he,h1,h2=>by cases hd
 | .lst xs,e,v,n+1,hd,he,h1,h2=>by
   unfold Rep at h1
   obtain⟨a,vs,rfl,na,ha,ra⟩:=h1
   cases e<;>unfold Rep at h2<;>try(cases h2;done)
   · unfold pl at he;cases he
   · obtain⟨a',vs',e',na',ha',ra'⟩:=h2
     cases e'
     have:vs=vs':=by
      rcases ha with ha|⟨o,ha⟩<;>rcases ha' with ha'|⟨o',ha'⟩<;>(rw[ha]at ha';first|(cases ha';rfl)|(cases ha';done))
     subst this
     rw[aJ.inj n (by unfold pl at hd;exact hd) (by unfold pl at he;exact he) ra ra']
   · obtain⟨a',vs',e',na',ha',ra'⟩:=h2
     cases e'
     rcases ha with ha|⟨o,ha⟩<;>(rw[ha]at ha';cases ha')
 | .tup xs,e,v,n+1,hd,he,h1,h2=>by
   unfold Rep at h1
   obtain⟨a,vs,rfl,na,ha,ra⟩:=h1
   cases e<;>unfold Rep at h2<;>try(cases h2;done)
   · unfold pl at he;cases he
   · obtain⟨a',vs',e',na',ha',ra'⟩:=h2
     cases e'
     rcases ha' with ha'|⟨o,ha'⟩<;>(rw[ha]at ha';cases ha')
   · obtain⟨a',vs',e',na',ha',ra'⟩:=h2
     cases e'
     rw[ha]at ha'
     cases ha'
     rw[aJ.inj n (by unfold pl at hd;exact hd) (by unfold pl at he;exact he) ra ra']
theorem aJ.inj{α:List (Option Addr)}{H:Hp}:∀ {ds es:List D} {vs:List V} (n:Nat),ds.all (pl n)=true→es.all (pl n)=true→aJ α H ds vs→aJ α H es vs→ds=es
 | [],es,vs,n,_,_,h1,h2=>by
   unfold aJ at h1
   subst h1
   cases es with
   |nil=>rfl
   |cons e es=>unfold aJ at h2;obtain⟨_,_,h,_⟩:=h2;cases h
 |d::ds,es,vs,n,hd,he,h1,h2=>by
  unfold aJ at h1
  obtain⟨v,r,rfl,r1,r2⟩:=h1
  cases es with
  |nil=>unfold aJ at h2;cases h2
  |cons e es=>
   unfold aJ at h2
   obtain⟨v',r',h,q1,q2⟩:=h2
   cases h
   rw[List.all_cons,Bool.and_eq_true]at hd he
   rw[Rep.inj n hd.1 he.1 r1 q1,aJ.inj n hd.2 he.2 r2 q2]
end
theorem mN:∀ {xs ys:List D},xs.length≠ys.length→kG xs ys=false
 | [],[],h=>absurd rfl h
 | [],_::_,_=>by unfold kG;rfl
 |_::_,[],_=>by unfold kG;rfl
 |x::xs,y::ys,h=>by
  unfold kG
  rw[mN (by simpa using h),Bool.and_false]
theorem mS:∀ {xs ys:List D},xs.length=ys.length→kG xs ys=(List.range xs.length).all fun j=>cO (xs.getD j .aG) (ys.getD j .aG)
 | [],[],_=>by unfold kG;rfl
 | [],_::_,h=>by cases h
 |_::_,[],h=>by cases h
 |x::xs,y::ys,h=>by
  unfold kG
  rw[List.length_cons,List.range_succ_eq_map,List.all_cons,List.all_map,mS (by simpa using h)]
  rfl
section
variable {X:Cx}{pins:List (Addr×Obj)}{σ:L2.St}{H:Hp}{s:Shared}{α:List (Option Addr)}
theorem jF{xs:List D}{vs:List V}{aq:List Value}(r:aJ α H xs vs)(v:Vals vs aq)(j:Nat)(hj:j<aq.length):∃x,xs[j]?=some (xs.getD j .aG)∧Rep α H (xs.getD j .aG) x∧RelV x aq[j]:=by
 have h1:=r.length
 have h2:=v.length
 have hx:j<xs.length:=by omega
 have e:xs[j]?=some (xs.getD j .aG):=by rw[List.getElem?_eq_getElem hx,List.getD_eq_getElem?_getD,List.getElem?_eq_getElem hx];rfl
 obtain⟨x,q,rr⟩:=r.get e
 obtain⟨u,q2,rv⟩:=v.get q
 rw[List.getElem?_eq_getElem hj]at q2
 cases q2
 exact⟨x,e,rr,rv⟩
theorem iD{xs:List D}{n:Nat}(h:xs.all (pl n)=true)(j:Nat):pl n (xs.getD j .aG)=true:=by
 rw[List.getD_eq_getElem?_getD]
 cases e:xs[j]? with
 |none=>cases n<;>rfl
 |some d=>exact List.all_eq_true.mp h d (List.mem_of_getElem? e)
noncomputable def vt:D→Bool
 | .aG=>true
 | .bl _=>true
 | .int _=>true
 | .str _=>true
 |_=>false
theorem zz{A:Around}{d e:D}{x y:V}{u v:Value}(hd:vt d=true)(he:vt e=true)(rd:Rep α H d x)(re:Rep α H e y)(rx:RelV x u)(ry:RelV y v):RcAt A s u v (cO d e)∧EqAt A s u v (cO d e):=by
 cases d<;>cases e<;>try(first|(cases hd;done)|(cases he;done))
 all_goals(unfold Rep at rd re;subst rd re)
 all_goals(first|(obtain⟨t,rfl⟩:=rx;obtain⟨t',rfl⟩:=ry)|(obtain⟨t,rfl⟩:=rx;cases ry)|(cases rx;obtain⟨t,rfl⟩:=ry)|(cases rx;cases ry))
 all_goals unfold cO
 · exact⟨RcAt.none_none,EqAt.same _⟩
 · exact⟨RcAt.none_bool _,EqAt.none_bool _⟩
 · exact⟨RcAt.none_int _ _,EqAt.none_int _ _⟩
 · exact⟨RcAt.none_str _ _,EqAt.none_str _ _⟩
 · exact⟨RcAt.bool_none _,EqAt.bool_none _⟩
 · exact⟨RcAt.bool_bool _ _,EqAt.bool_bool _ _⟩
 · exact⟨RcAt.bool_int _ _ _,EqAt.bool_int _ _ _⟩
 · exact⟨RcAt.bool_str _ _ _,EqAt.bool_str _ _ _⟩
 · exact⟨RcAt.int_none _ _,EqAt.int_none _ _⟩
 · exact⟨RcAt.int_bool _ _ _,EqAt.int_bool _ _ _⟩
 · exact⟨RcAt.int_int _ _ _ _,EqAt.int_int _ _ _ _⟩
 · exact⟨RcAt.int_str _ _ _ _,EqAt.int_str _ _ _ _⟩
 · exact⟨RcAt.str_none _ _,EqAt.str_none _ _⟩
 · exact⟨RcAt.str_bool _ _ _,EqAt.str_bool _ _ _⟩
 · exact⟨RcAt.str_int _ _ _ _,EqAt.str_int _ _ _ _⟩
 · exact⟨RcAt.str_str _ _ _ _,EqAt.str_str _ _ _ _⟩
theorem lst_is(I:Inv X pins σ H s){xs:List D}{x:V}{u:Value}(r:Rep α H (.lst xs) x)(rx:RelV x u):∃a vs aq,u= .ref a∧aJ α H xs vs∧Vals vs aq∧s.heap.IsList a aq.toArray:=by
 unfold Rep at r
 obtain⟨a,vs,rfl,na,ha,ra⟩:=r
 cases rx
 obtain⟨z,aq,n,rv,hl,eo⟩:=Inv.sR I ha
 exact⟨a,vs,aq,rfl,ra,rv,⟨_,eo,rfl,n,rfl⟩⟩
theorem tup_is(I:Inv X pins σ H s){xs:List D}{x:V}{u:Value}(r:Rep α H (.tup xs) x)(rx:RelV x u):∃a vs aq,u= .ref a∧aJ α H xs vs∧Vals vs aq∧s.heap.IsTuple a aq.toArray:=by
 unfold Rep at r
 obtain⟨a,vs,rfl,na,ha,ra⟩:=r
 cases rx
 obtain⟨aq,r',p,hz⟩:=I.tuple (iE.of ha)
 exact⟨a,vs,aq,rfl,ra,r',p⟩
theorem vC(I:Inv X pins σ H s){A:Around}{xs:List D}{e:D}{x y:V}{u v:Value}(he:vt e=true)(rd:Rep α H (.lst xs) x)(re:Rep α H e y)(rx:RelV x u)(ry:RelV y v)(hu:A.units<cLine):
 (RcAt A s u v (cO (.lst xs) e)∧EqAt A s u v (cO (.lst xs) e))∧RcAt A s v u (cO e (.lst xs))∧EqAt A s v u (cO e (.lst xs)):=by
 obtain⟨a,vs,aq,rfl,_,_,hl⟩:=lst_is I rd rx
 cases e<;>try(cases he;done)
 all_goals(unfold Rep at re;subst re)
 all_goals(first|(obtain⟨t,rfl⟩:=ry)|(cases ry))
 all_goals unfold cO
 · exact⟨⟨RcAt.list_none hl hu,EqAt.list_none hl hu⟩,RcAt.none_list hl hu,EqAt.none_list hl hu⟩
 · exact⟨⟨RcAt.list_bool _ hl hu,EqAt.list_bool _ hl hu⟩,RcAt.bool_list _ hl hu,EqAt.bool_list _ hl hu⟩
 · exact⟨⟨RcAt.list_int _ _ hl hu,EqAt.list_int _ _ hl hu⟩,RcAt.int_list _ _ hl hu,EqAt.int_list _ _ hl hu⟩
 · exact⟨⟨RcAt.list_str _ _ hl hu,EqAt.list_str _ _ hl hu⟩,RcAt.str_list _ _ hl hu,EqAt.str_list _ _ hl hu⟩
theorem vR(I:Inv X pins σ H s){A:Around}{xs:List D}{e:D}{x y:V}{u v:Value}(he:vt e=true)(rd:Rep α H (.tup xs) x)(re:Rep α H e y)(rx:RelV x u)(ry:RelV y v)(hu:A.units<cLine):
 (RcAt A s u v (cO (.tup xs) e)∧EqAt A s u v (cO (.tup xs) e))∧RcAt A s v u (cO e (.tup xs))∧EqAt A s v u (cO e (.tup xs)):=by
 obtain⟨a,vs,aq,rfl,_,_,hl⟩:=tup_is I rd rx
 cases e<;>try(cases he;done)
 all_goals(unfold Rep at re;subst re)
 all_goals(first|(obtain⟨t,rfl⟩:=ry)|(cases ry))
 all_goals unfold cO
 · exact⟨⟨RcAt.tuple_none hl hu,EqAt.tuple_none hl hu⟩,RcAt.none_tuple hl hu,EqAt.none_tuple hl hu⟩
 · exact⟨⟨RcAt.tuple_bool _ hl hu,EqAt.tuple_bool _ hl hu⟩,RcAt.bool_tuple _ hl hu,EqAt.bool_tuple _ hl hu⟩
 · exact⟨⟨RcAt.tuple_int _ _ hl hu,EqAt.tuple_int _ _ hl hu⟩,RcAt.int_tuple _ _ hl hu,EqAt.int_tuple _ _ hl hu⟩
 · exact⟨⟨RcAt.tuple_str _ _ hl hu,EqAt.tuple_str _ _ hl hu⟩,RcAt.str_tuple _ _ hl hu,EqAt.str_tuple _ _ hl hu⟩
theorem zw{A:Around}{n:Nat}{d e:D}{x y:V}{a b:Addr}(hd:pl n d=true)(he:pl n e=true)(rd:Rep α H d x)(re:Rep α H e y)(rx:RelV x (.ref a))(ry:RelV y (.ref b))(h:RcAt A s (.ref a) (.ref b) (cO d e)):
 RcAt A s (.ref a) (.ref b) (cO d e)∧EqAt A s (.ref a) (.ref b) (cO d e):=by
 refine⟨h,?_⟩
 by_cases hab:a=b
 · subst hab
   have hx:x=y:=RelV.inj rx ry
   subst hx
   have:=Rep.inj n hd he rd re
   subst this
   rw[m7 n d hd]
   exact EqAt.same _
 · exact EqAt.of_refs hab h
theorem Az(I:Inv X pins σ H s):∀(n:Nat) (A:Around) (d e:D) (x y:V) (u v:Value),pl n d=true→pl n e=true→Rep α H d x→Rep α H e y→RelV x u→RelV y v→A.units+n<cLine→
 RcAt A s u v (cO d e)∧EqAt A s u v (cO d e):=by
 intro n
 induction n with
 |zero=>
  intro A d e x y u v hd he rd re rx ry hu
  refine zz ?_ ?_ rd re rx ry
  · cases d<;>first|rfl|(cases hd)
  · cases e<;>first|rfl|(cases he)
 |succ n ih=>
  intro A d e x y u v hd he rd re rx ry hu
  have hu0:A.units<cLine:=by omega
  have hin:A.in1.units+n<cLine:=by rw[Around.in1_units];omega
  cases d<;>try(cases hd;done)
  case lst xs=>
   cases e<;>try(cases he;done)
   case lst ys=>
    have rd0:=rd
    have re0:=re
    have rx0:=rx
    have ry0:=ry
    obtain⟨a,vs,aq,rfl,r1,v1,l1⟩:=lst_is I rd rx
    obtain⟨b,ws,jts,rfl,r2,v2,l2⟩:=lst_is I re ry
    have e1:=r1.length
    have e2:=v1.length
    have e3:=r2.length
    have e4:=v2.length
    refine zw hd he rd0 re0 rx0 ry0 ?_
    unfold cO
    by_cases hlen:xs.length=ys.length
    · rw[mS hlen]
      have hsz:aq.toArray.size=jts.toArray.size:=by simp only[List.size_toArray];omega
      have hx:xs.length=aq.toArray.size:=by simp only[List.size_toArray];omega
      rw[hx]
      refine RcAt.lists l1 l2 hsz hu0 fun j h1 h2=>?_
      have h1':j<aq.length:=by simpa using h1
      have h2':j<jts.length:=by simpa using h2
      obtain⟨p,_,q1,q2⟩:=jF r1 v1 j h1'
      obtain⟨p',_,q1',q2'⟩:=jF r2 v2 j h2'
      exact(ih A.in1 _ _ p p' _ _ (iD (by unfold pl at hd;exact hd) j) (iD (by unfold pl at he;exact he) j) q1 q1' (by simpa using q2) (by simpa using q2') hin).2
    · rw[mN hlen]
      exact RcAt.lists_lengths l1 l2 (by simp only[List.size_toArray,bne_iff_ne,ne_eq];omega) hu0
   case tup ys=>
    obtain⟨a,vs,aq,rfl,r1,v1,l1⟩:=lst_is I rd rx
    obtain⟨b,ws,jts,rfl,r2,v2,l2⟩:=tup_is I re ry
    unfold cO
    exact⟨RcAt.list_tuple l1 l2 hu0,EqAt.list_tuple l1 l2 hu0⟩
   all_goals exact(vC I rfl rd re rx ry hu0).1
  case tup xs=>
   cases e<;>try(cases he;done)
   case tup ys=>
    have rd0:=rd
    have re0:=re
    have rx0:=rx
    have ry0:=ry
    obtain⟨a,vs,aq,rfl,r1,v1,l1⟩:=tup_is I rd rx
    obtain⟨b,ws,jts,rfl,r2,v2,l2⟩:=tup_is I re ry
    have e1:=r1.length
    have e2:=v1.length
    have e3:=r2.length
    have e4:=v2.length
    refine zw hd he rd0 re0 rx0 ry0 ?_
    unfold cO
    have key:=RcAt.tuples (e:=fun j=>cO (xs.getD j .aG) (ys.getD j .aG)) l1 l2 hu0 fun j h1 h2=>by
     have h1':j<aq.length:=by simpa using h1
     have h2':j<jts.length:=by simpa using h2
     obtain⟨p,_,q1,q2⟩:=jF r1 v1 j h1'
     obtain⟨p',_,q1',q2'⟩:=jF r2 v2 j h2'
     exact(ih A.in1 _ _ p p' _ _ (iD (by unfold pl at hd;exact hd) j) (iD (by unfold pl at he;exact he) j) q1 q1' (by simpa using q2) (by simpa using q2') hin).2
    by_cases hlen:xs.length=ys.length
    · rw[mS hlen]
      have hsz:aq.toArray.size=jts.toArray.size:=by simp only[List.size_toArray];omega
      have hx:xs.length=aq.toArray.size:=by simp only[List.size_toArray];omega
      rw[hsz,Nat.min_self,beq_self_eq_true,Bool.and_true,←hsz,←hx]at key
      exact key
    · rw[mN hlen]
      have hne:(aq.toArray.size==jts.toArray.size)=false:=by simp only[List.size_toArray,beq_eq_false_iff_ne,ne_eq];omega
      rw[hne,Bool.and_false]at key
      exact key
   case lst ys=>
    obtain⟨a,vs,aq,rfl,r1,v1,l1⟩:=tup_is I rd rx
    obtain⟨b,ws,jts,rfl,r2,v2,l2⟩:=lst_is I re ry
    unfold cO
    exact⟨RcAt.tuple_list l1 l2 hu0,EqAt.tuple_list l1 l2 hu0⟩
   all_goals exact(vR I rfl rd re rx ry hu0).1
  all_goals
   cases e<;>try(cases he;done)
   case lst ys=>exact(vC I rfl re rd ry rx hu0).2
   case tup ys=>exact(vR I rfl re rd ry rx hu0).2
   all_goals exact zz rfl rfl rd re rx ry
noncomputable def Ij:dN:=fun x y st K=>pl 40 x=true∧pl 40 y=true∧K (.bl (cO x y)) st
theorem MO{k:Nat}(hr:cT k X.A):cm X (compareOp .Eq) (LR Ij):=fun pins s σ H x y v u Q I rx ry ⟨α,d,e,st,K,G,F',P,r1,r2,S,q,k⟩=>by
 have hu:=hr.units
 exact(Az I 40 X.A d e x y v u q.1 q.2.1 (r1.mono P.same) (r2.mono P.same) rx ry (by omega)).1 _ _ _ _ ⟨.bl (cO d e),H,I,rfl,k.here P q.2.2 S (by unfold Rep;rfl)⟩
noncomputable def J_:dN:=fun x y st K=>match x,y with
 | .int i,.int j=>K (.bl (!decide (i=j))) st
 | .bl i,.bl j=>K (.bl (!decide (i=j))) st
 | .str i,.str j=>K (.bl (!decide (i=j))) st
 |_,_=>False
theorem MF:cm X (compareOp .NotEq) (LR J_):=cm.imp K3 fun x y H Q ⟨α,d,e,st,K,G,F',P,r1,r2,S,q,k⟩=>by
 cases d<;>cases e<;>try exact q.elim
 all_goals(unfold Rep at r1 r2;subst r1 r2)
 · exact⟨rfl,k.here P q S (by unfold Rep;congr 2;exact decide_eq_decide.mpr ⟨fun h=>by cases h;rfl,fun h=>by rw[h]⟩)⟩
 · exact⟨rfl,k.here P q S (by unfold Rep;congr 2;exact decide_eq_decide.mpr ⟨fun h=>by cases h;rfl,fun h=>by rw[h]⟩)⟩
 · exact⟨rfl,k.here P q S (by unfold Rep;congr 2;exact decide_eq_decide.mpr ⟨fun h=>by cases h;rfl,fun h=>by rw[h]⟩)⟩
end
end L3
namespace L3
open PySem PySem.Spec L2
open PyProof.Rows hiding St
noncomputable def LC(α:List (Option Addr))(G F:Hp)(K:cj→ag→Prop)(Q:L2.St→Hp→Prop):Prop:=∀σd' st',K σd' st'→∀α' G' H' σ',Step α G α' G'→bZ G' F H'→dX α' G' σd' σ'→aU α' st' G'→Q σ' H'
structure wy(α:List (Option Addr))(G F:Hp)(DD:l9)(D:Ends):Prop where
 nx:LC α G F DD.nx D.nx
 rt:LK α G F DD.rt D.rt
 bk:LC α G F DD.bk D.bk
 ct:LC α G F DD.ct D.ct
inductive Mn(t:DS)(D:Ends)(σ:L2.St)(H:Hp):Prop
 |mk (α:List (Option Addr)) (σd:cj) (st:ag) (DD:l9) (G F:Hp) (P:bZ G F H) (R:dX α G σd σ) (S:aU α st G) (h:t DD σd st) (k:wy α G F DD D):Mn t D σ H
noncomputable def LS(t:DS):TS:=Mn t
theorem LC.at{α α1:List (Option Addr)}{G F G1:Hp}{K:cj→ag→Prop}{Q:L2.St→Hp→Prop}(h:LC α G F K Q)(s:Step α G α1 G1):LC α1 G1 F K Q:=fun d st' k α' G' H' v s' P R S=>h d st' k α' G' H' v (s.trans s') P R S
theorem LC.here{α:List (Option Addr)}{G F H:Hp}{K:cj→ag→Prop}{Q:L2.St→Hp→Prop}(h:LC α G F K Q)(P:bZ G F H){σd:cj}{st:ag}{σ:L2.St}(k:K σd st)(R:dX α G σd σ)(S:aU α st G):Q σ H:=h σd st k α G H σ Step.refl P R S
theorem wy.at{α α1:List (Option Addr)}{G F G1:Hp}{DD:l9}{D:Ends}(h:wy α G F DD D)(s:Step α G α1 G1):wy α1 G1 F DD D:=⟨h.nx.at s,h.rt.at s,h.bk.at s,h.ct.at s⟩
section
variable {X:Cx}{a b c e o i:Expr}{es:List Expr}{ta tb tc te:DE}{pos:Pos}{st:Stmt}{sts:List Stmt}{t u:DS}
theorem PS.imp{t t':TS}(h:PS X st t)(f:∀D σ H,t' D σ H→t D σ H):PS X st t':=fun pins s σ H D I q=>h pins s σ H D I (f D σ H q)
theorem gv.imp{t t':TS}(h:gv X sts t)(f:∀D σ H,t' D σ H→t D σ H):gv X sts t':=fun pins s σ H D I q=>h pins s σ H D I (f D σ H q)
noncomputable def cN:DS:=fun D σ st=>D.nx σ st
noncomputable def aF(t u:DS):DS:=fun D σ st=>t {D with nx:=u D} σ st
theorem GJ:gv X [] (LS cN):=gv.imp Gu fun D σ H ⟨α,σd,st,DD,G,F,P,R,S,t,k⟩=>k.nx.here P t R S
theorem Hl(h:PS X st (LS t)):gv X [st] (LS t):=G7 h
theorem Dj(h:PS X st (LS t))(h2:gv X sts (LS u)):gv X (st::sts) (LS (aF t u)):=gv.imp (DZ h h2) fun D σ H ⟨α,σd,st,DD,G,F,P,R,S,t,k⟩=>
 ⟨α,σd,st,_,G,F,P,R,S,t,fun σd' st' q α' G' H' σ' s' P' R' S'=>⟨α',σd',st',DD,G',F,P',R',S',q,k.at s'⟩,k.rt,k.bk,k.ct⟩
noncomputable def bD(te:DE):DS:=fun D σ st=>te σ st D.rt
theorem Kn(h:PE X e (LE te)):PS X (.Return (some e) pos) (LS (bD te)):=PS.imp (HZ h) fun D σ H ⟨α,σd,st,DD,G,F,P,R,S,t,k⟩=>⟨α,σd,st,_,G,F,P,R,S,t,k.rt⟩
noncomputable def iQ(te:DE):DS:=fun D σ st=>te σ st fun _ st1=>D.nx σ st1
theorem GI(h:PE X e (LE te))(hs:swapsWith e none pos.line X.env=pure false:=by rfl):PS X (.Expr e pos) (LS (iQ te)):=PS.imp (G9 h hs) fun D σ H ⟨α,σd,st,DD,G,F,P,R,S,t,k⟩=>
 ⟨α,σd,st,_,G,F,P,R,S,t,fun d st1 q α1 G1 H1 v s1 P1 S1 r1=>(k.nx.at s1).here P1 q (R.step s1) S1⟩
noncomputable def dz(c:DT)(t u:DS):DS:=fun D σ st=>c σ st fun b st1=>if b=true then t D σ st1 else u D σ st1
theorem Kx{x y:List Stmt}{tc:DT}(hc:PT X c (LT tc))(ha:gv X x (LS t))(hb:gv X y (LS u)):PS X (.If c x y pos) (LS (dz tc t u)):=PS.imp (LD hc ha hb) fun D σ H ⟨α,σd,st,DD,G,F,P,R,S,t,k⟩=>by
 refine⟨α,σd,st,_,G,F,P,R,S,t,fun b st1 q α1 G1 H1 s1 P1 S1=>?_⟩
 cases b with
 |true=>exact⟨α1,σd,st1,DD,G1,F,P1,R.step s1,S1,q,k.at s1⟩
 |false=>exact⟨α1,σd,st1,DD,G1,F,P1,R.step s1,S1,q,k.at s1⟩
noncomputable abbrev fB:=D→cj→Option cj
noncomputable def bL(i:Nat):fB:=fun d σ=>some (σ.set i (some d))
noncomputable def fz(i j:Nat):fB:=fun d σ=>match d with| .tup [x,y]=>some ((σ.set i (some x)).set j (some y))|_=>none
inductive Mj(t:fB)(v:V)(σ:L2.St)(H:Hp)(Q:L2.St→Hp→Prop):Prop
 |mk (α:List (Option Addr)) (σd:cj) (st:ag) (d:D) (K:cj→ag→Prop) (G F:Hp) (P:bZ G F H) (R:dX α G σd σ) (S:aU α st G) (r:Rep α G d v) (h:∃σ',t d σd=some σ'∧K σ' st) (k:LC α G F K Q):Mj t v σ H Q
noncomputable def LG(t:fB):TG:=Mj t
theorem PG.imp{tg:Expr}{t t':TG}(h:PG X tg t)(f:∀v σ H Q,t' v σ H Q→t v σ H Q):PG X tg t':=fun pins s σ H v u Q I r q=>h pins s σ H v u Q I r (f v σ H Q q)
theorem GD{tg:Expr}{i:Nat}(h:PG X tg (mf i)):PG X tg (LG (bL i)):=PG.imp h fun v σ H Q ⟨α,σd,st,d,K,G,F,P,R,S,r,⟨σ',e,q⟩,k⟩=>by
 cases e
 exact k.here P q (R.set i r) S
theorem Ip{tg:Expr}{i j:Nat}(h:PG X tg (JQ X.K 2 (Af (mf i) (Af (mf j) ID)))):PG X tg (LG (fz i j)):=PG.imp h fun v σ H Q ⟨α,σd,st,d,K,G,F,P,R,S,r,⟨σ',e,q⟩,k⟩=>by
 unfold fz at e
 split at e
 · rename_i x y
   cases e
   unfold Rep at r
   obtain⟨a,vs,rfl,na,h1,h2⟩:=r
   obtain⟨v1,v2,rfl,r1,r2⟩:=pH h2 rfl
   exact⟨a,_,rfl,.of (P.get h1),rfl,v1,_,rfl,v2,_,rfl,rfl,k.here P q ((R.set i r1).set j r2) S⟩
 · cases e
noncomputable def a8(i:Nat)(te:DE):DS:=fun D σ st=>te σ st fun d st1=>D.nx (σ.set i (some d)) st1
theorem HU{i:Nat}(h:PS X st (nZ (LE te) (mf i))):PS X st (LS (a8 i te)):=PS.imp h fun D σ H ⟨α,σd,st,DD,G,F,P,R,S,t,k⟩=>
 ⟨α,σd,st,_,G,F,P,R,S,t,fun d st1 q α1 G1 H1 v s1 P1 S1 r1=>(k.nx.at s1).here P1 q ((R.step s1).set i r1) S1⟩
noncomputable def yc(tg:fB)(te:DE):DS:=fun D σ st=>te σ st fun d st1=>∃σ',tg d σ=some σ'∧D.nx σ' st1
theorem IM{tg:fB}(h:PS X st (nZ (LE te) (LG tg))):PS X st (LS (yc tg te)):=PS.imp h fun D σ H ⟨α,σd,st,DD,G,F,P,R,S,t,k⟩=>
 ⟨α,σd,st,_,G,F,P,R,S,t,fun d st1 q α1 G1 H1 v s1 P1 S1 r1=>⟨α1,σd,st1,d,DD.nx,G1,F,P1,R.step s1,S1,r1,q,k.nx.at s1⟩⟩
noncomputable def AB(i j:Nat)(ta:DA):DS:=fun D σ st=>ta σ st fun ds st1=>match ds with| [x,y]=>D.nx ((σ.set i (some x)).set j (some y)) st1|_=>False
theorem HR{i j:Nat}{ta:DA}(h:PS X st (JH i j (LA ta))):PS X st (LS (AB i j ta)):=PS.imp h fun D σ H ⟨α,σd,st,DD,G,F,P,R,S,t,k⟩=>by
 refine⟨α,σd,st,_,G,F,P,R,S,t,fun ds st1 q α1 G1 H1 vs s1 P1 S1 r1=>?_⟩
 match ds,q,r1 with
 | [x,y],q,r1=>
   obtain⟨v1,v2,rfl,q1,q2⟩:=pH r1 rfl
   exact⟨v1,v2,rfl,(k.nx.at s1).here P1 q (((R.step s1).set i q1).set j q2) S1⟩
noncomputable def Al(i:Nat)(r:dN)(te:DE):DS:=fun D σ st=>match σ[i]? with|some (some x)=>te σ st fun y st1=>r x y st1 fun z st2=>D.nx (σ.set i (some z)) st2|_=>False
noncomputable def yb(f:Int→Int→Int):dN:=fun x y st K=>match x,y with| .int i,.int j=>K (.int (f i j)) st|_,_=>False
theorem Il{i:Nat}{f:Int→Int→Int}(h:PS X st (Jz i (LE te) (Kg f))):PS X st (LS (Al i (yb f) te)):=PS.imp h fun D σ H ⟨α,σd,st,DD,G,F,P,R,S,t,k⟩=>by
 unfold Al at t
 split at t
 · rename_i x e
   obtain⟨v,ev,rv⟩:=R.at' i x e
   refine⟨v,ev,α,σd,st,_,G,F,P,R,S,t,fun y st1 q α1 G1 H1 w s1 P1 S1 r1=>?_⟩
   cases x<;>cases y<;>try exact q.elim
   have rv':=rv
   unfold Rep at rv r1
   exact⟨_,_,rv,r1,(k.nx.at s1).here P1 q ((R.step s1).set i (by unfold Rep;rfl)) S1⟩
 · exact t.elim
noncomputable def Aw(x y d:D)(st:ag)(K:ag→Prop):Prop:=match x,y with
 | .ref n,.int k=>(match st[n]? with
   |some (.lst xs)=>(match kb xs.length k with|some j=>K (st.set n (.lst (xs.set j d)))|none=>False)
   |_=>False)
 |_,_=>False
noncomputable def IK(to ti te:DE):DS:=fun D σ st=>te σ st fun d st1=>to σ st1 fun x st2=>ti σ st2 fun y st3=>Aw x y d st3 fun st4=>D.nx σ st4
theorem DP{to ti:DE}(h:PS X st (nZ (LE te) (z8 (LE to) (LE ti) wq))):PS X st (LS (IK to ti te)):=PS.imp h fun D σ H ⟨α,σd,st,DD,G,F,P,R,S,t,k⟩=>by
 refine⟨α,σd,st,_,G,F,P,R,S,t,fun d st1 q α1 G1 H1 v s1 P1 S1 r1=>?_⟩
 refine⟨α1,σd,st1,_,G1,F,P1,R.step s1,S1,q,fun x st2 q2 α2 G2 H2 v2 s2 P2 S2 r2=>?_⟩
 refine⟨α2,σd,st2,_,G2,F,P2,(R.step s1).step s2,S2,q2,fun y st3 q3 α3 G3 H3 v3 s3 P3 S3 r3=>?_⟩
 cases x<;>cases y<;>try exact q3.elim
 rename_i n kk
 unfold Aw at q3
 simp only at q3
 split at q3
 · rename_i xs e
   split at q3
   · rename_i j ej
     obtain⟨p,ep,vs,hv,rv⟩:=S3.jg e
     have r2':=eQ ep (r2.step s3)
     subst r2'
     unfold Rep at r3
     have hm:some p∈α3:=List.mem_of_getElem? ep
     have rd:=(r1.step s2).step s3
     refine⟨p,vs,kk,j,rfl,r3,P3.get hv,by rw[←rv.length];exact ej,?_⟩
     refine(((k.nx.at s1).at s2).at s3) σd _ q3 α3 (upd G3 p (.lst (vs.set j v))) _ σ (Step.write hm) (P3.write hv) ((((R.step s1).step s2).step s3).step (Step.write hm)) ?_
     exact S3.write ep ⟨vs.set j v,aZ,(bf.mpr (uq rd j (bf.mp rv))).step (Step.write hm)⟩
   · exact q3.elim
 · exact q3.elim
noncomputable def qo(c:DT)(tb:DS):DS:=fun D σ st=>∃W:Nat→cj→ag→Prop,(∃m,W m σ st)∧∀m σ st,W m σ st→
 c σ st fun b st1=>if b=true then tb {D with nx:=fun σ' st'=>∃m',m'<m∧W m' σ' st',ct:=fun σ' st'=>∃m',m'<m∧W m' σ' st',bk:=D.nx} σ st1 else D.nx σ st1
theorem D5{tc:DT}(h:PS X st (Cq (LT tc) (LS t))):PS X st (LS (qo tc t)):=PS.imp h fun D σ H ⟨α,σd,st,DD,G,F,P,R,S,⟨W,⟨m0,w0⟩,turn⟩,k⟩=>by
 refine⟨fun m σ' H'=>∃α' σd' st' G',Step α G α' G'∧bZ G' F H'∧dX α' G' σd' σ'∧aU α' st' G'∧W m σd' st',⟨m0,α,σd,st,G,Step.refl,P,R,S,w0⟩,?_⟩
 rintro m σ1 H1 ⟨α1,σd1,st1,G1,s1,P1,R1,S1,w1⟩
 refine⟨α1,σd1,st1,_,G1,F,P1,R1,S1,turn m σd1 st1 w1,fun b st2 q α2 G2 H2 s2 P2 S2=>?_⟩
 cases b with
 |false=>exact((k.nx.at s1).at s2).here P2 q (R1.step s2) S2
 |true=>
  refine⟨fun σ' H'=>∃m',m'<m∧∃α' σd' st' G',Step α G α' G'∧bZ G' F H'∧dX α' G' σd' σ'∧aU α' st' G'∧W m' σd' st',fun σ' H' z=>z,?_⟩
  refine⟨α2,σd1,st2,_,G2,F,P2,R1.step s2,S2,q,?_⟩
  refine⟨?_,(k.rt.at s1).at s2,(k.nx.at s1).at s2,?_⟩
  · rintro σd3 st3 ⟨m',hm,w3⟩ α3 G3 H3 σ3 s3 P3 R3 S3
    exact⟨m',hm,α3,σd3,st3,G3,(s1.trans s2).trans s3,P3,R3,S3,w3⟩
  · rintro σd3 st3 ⟨m',hm,w3⟩ α3 G3 H3 σ3 s3 P3 R3 S3
    exact⟨m',hm,α3,σd3,st3,G3,(s1.trans s2).trans s3,P3,R3,S3,w3⟩
noncomputable abbrev DI:=cj→ag→(List D→(ag→Prop)→ag→Prop)→Prop
structure tG(J:It)(α:List (Option Addr))(G:Hp)(ok:ag→Prop)(xs:List D):Prop where
 stop:∀(n:Nat) α' G' F' H' st',Step α G α' G'→bZ G' F' H'→aU α' st' G'→ok st'→xs.length≤n→J.stop n H'
 go:∀(n:Nat) d α' G' F' H' st',Step α G α' G'→bZ G' F' H'→aU α' st' G'→ok st'→xs[n]?=some d→J.go n H'
 nG:∀(n:Nat) d α' G' F' H' st' x H'',Step α G α' G'→bZ G' F' H'→aU α' st' G'→ok st'→xs[n]?=some d→J.nG n H' x H''→∃G'',Step α' G' α' G''∧bZ G'' F' H''∧aU α' st' G''∧Rep α' G'' d x
noncomputable def LI(t:DI):TI:=fun σ H R=>∃α σd st K G F,bZ G F H∧dX α G σd σ∧aU α st G∧t σd st K∧∀xs ok st1,K xs ok st1→∀J α1 G1 H1,Step α G α1 G1→bZ G1 F H1→aU α1 st1 G1→tG J α1 G1 ok xs→R J H1
noncomputable def uX(d:D)(st1:ag)(K:List D→(ag→Prop)→ag→Prop):Prop:=match d with
 | .lst xs=>K xs (fun _=>True) st1
 | .tup xs=>K xs (fun _=>True) st1
 | .ref n=>(match st1[n]? with|some (.lst xs)=>K xs (fun st'=>st'[n]?=some (.lst xs)) st1|_=>False)
 |_=>False
noncomputable def KL(t:DE):DI:=fun σ st K=>t σ st fun d st1=>uX d st1 K
theorem zO{K:PySem.W.Frag}{a:Addr}{α:List (Option Addr)}{G:Hp}{ok:ag→Prop}{xs:List D}
 (h:∀α' G' st',Step α G α' G'→aU α' st' G'→ok st'→∃vs,Rd G' a (.lst vs)∧aJ α' G' xs vs):tG (Ke K a) α G ok xs where
 stop:=fun n α' G' F' H' st' s P S o hn=>by
  obtain⟨vs,h1,h2⟩:=h α' G' st' s S o
  exact⟨vs,.inl (fM P h1),by rw[←h2.length];exact hn⟩
 go:=fun n d α' G' F' H' st' s P S o hn=>by
  obtain⟨vs,h1,h2⟩:=h α' G' st' s S o
  obtain⟨v,e,_⟩:=h2.get hn
  exact⟨vs,v,.inl (fM P h1),e⟩
 nG:=fun n d α' G' F' H' st' x H'' s P S o hn y=>by
  obtain⟨vs,h1,h2⟩:=h α' G' st' s S o
  obtain⟨v,e,r⟩:=h2.get hn
  obtain⟨rfl,y⟩:=y
  have:=y vs (.inl (fM P h1))
  rw[e]at this
  cases this
  exact⟨G',Step.refl,P,S,r⟩
theorem JL{K:PySem.W.Frag}{a:Addr}{α:List (Option Addr)}{G:Hp}{ok:ag→Prop}{xs:List D}
 (h:∀α' G' st',Step α G α' G'→aU α' st' G'→ok st'→∃vs,G' a=some (.tup vs)∧aJ α' G' xs vs):tG (IU K a) α G ok xs where
 stop:=fun n α' G' F' H' st' s P S o hn=>by
  obtain⟨vs,h1,h2⟩:=h α' G' st' s S o
  exact⟨vs,.of (P.get h1),by rw[←h2.length];exact hn⟩
 go:=fun n d α' G' F' H' st' s P S o hn=>by
  obtain⟨vs,h1,h2⟩:=h α' G' st' s S o
  obtain⟨v,e,_⟩:=h2.get hn
  exact⟨vs,v,.of (P.get h1),e⟩
 nG:=fun n d α' G' F' H' st' x H'' s P S o hn y=>by
  obtain⟨vs,h1,h2⟩:=h α' G' st' s S o
  obtain⟨v,e,r⟩:=h2.get hn
  obtain⟨rfl,y⟩:=y
  have:=y vs (.of (P.get h1))
  rw[e]at this
  cases this
  exact⟨G',Step.refl,P,S,r⟩
theorem Dn{α α':List (Option Addr)}{G G':Hp}{a:Addr}{vs:List V}{xs:List D}(s:Step α G α' G')(na:some a∉α)(h1:Rd G a (.lst vs))(h2:aJ α G xs vs):Rd G' a (.lst vs)∧aJ α' G' xs vs:=by
 refine⟨?_,h2.step s⟩
 rcases h1 with h|⟨o,h⟩
 · exact .inl (s.ext _ _ na h)
 · exact .inr ⟨o,s.ext _ _ na h⟩
theorem Iv{l tg:Expr}{tl:DE}(hl:PE X l (LE tl)):PI X tg l (LI (KL tl)):=by
 intro pins s σ H R I h
 obtain⟨α,σd,st,K,G,F,P,RS,S,t,k⟩:=h
 refine bU (hl pins s σ H (fun x H1=>∃d α1 G1 st1,Step α G α1 G1∧bZ G1 F H1∧aU α1 st1 G1∧Rep α1 G1 d x∧uX d st1 K) I ⟨α,σd,st,_,G,F,P,RS,S,t,fun d st1 q α1 G1 H1 v s1 P1 S1 r1=>⟨d,α1,G1,st1,s1,P1,S1,r1,q⟩⟩) fun v s1 ⟨x,H1,I1,rx,d,α1,G1,st1,s1',P1,S1,r1,q⟩=>?_
 unfold uX at q
 have viaL:∀ {a:Addr} {vs:List V},x= .ref a→Rd H1 a (.lst vs)→R (Ke X.K a) H1→wpAny (model X.prog X.w) X.A (pyIter v) (FC X pins σ tg R) X.xe s1:=by
  intro a vs ex hr hR
  subst ex
  cases rx
  obtain⟨aq,rv,p,hz⟩:=I1.list (.inl hr)
  refine wpAny_pyIter_list p.isList ?_
  refine⟨s1.heap.objs.size,[s1.heap.objs.size],_,_,H1,rfl,I1.kept (t':=s1.toks) fun b o e=>Heap.get?_push_of_some _ e,C2 a _,⟨_,Heap.get?_push_size _ rfl,rfl,rfl⟩,fun b hb=>?_,hR⟩
  have e:b=s1.heap.objs.size:=by simpa using hb
  subst e
  exact I1.tD (Nat.le_refl _) (I1.aI.fresh (Nat.le_refl _))
 have viaT:∀ {a:Addr} {vs:List V},x= .ref a→H1 a=some (.tup vs)→R (IU X.K a) H1→wpAny (model X.prog X.w) X.A (pyIter v) (FC X pins σ tg R) X.xe s1:=by
  intro a vs ex hr hR
  subst ex
  cases rx
  obtain⟨aq,rv,p,hz⟩:=I1.tuple (iE.of hr)
  refine wpAny_pyIter_tuple (show s1.heap.IsTuple a aq.toArray from p) ?_
  refine⟨s1.heap.objs.size,[s1.heap.objs.size],_,_,H1,rfl,I1.kept (t':=s1.toks) fun b o e=>Heap.get?_push_of_some _ e,Ae a _,⟨_,Heap.get?_push_size _ rfl,rfl,rfl⟩,fun b hb=>?_,hR⟩
  have e:b=s1.heap.objs.size:=by simpa using hb
  subst e
  exact I1.tD (Nat.le_refl _) (I1.aI.fresh (Nat.le_refl _))
 cases d<;>try exact q.elim
 · rename_i n
   simp only at q
   split at q
   · rename_i xs e
     obtain⟨a,ea,vs,h1,h2⟩:=S1.jg e
     have r1':=eQ ea r1
     subst r1'
     refine viaL rfl (fM P1 (.of h1)) (k _ _ st1 q _ α1 G1 H1 s1' P1 S1 (zO fun α' G' st' s S o=>?_))
     obtain⟨b,eb,ws,g1,g2⟩:=S.jg o
     have hb:b=a:=by
      rcases s.pre _ _ ea with z|z<;>(rw[z]at eb;cases eb)
      rfl
     subst hb
     exact⟨ws,.of g1,g2⟩
   · exact q.elim
 · unfold Rep at r1
   obtain⟨a,vs,rfl,na,ha,ra⟩:=r1
   exact viaL rfl (fM P1 ha) (k _ _ st1 q _ α1 G1 H1 s1' P1 S1 (zO fun α' G' st' s S o=>⟨vs,Dn s na ha ra⟩))
 · unfold Rep at r1
   obtain⟨a,vs,rfl,na,ha,ra⟩:=r1
   exact viaT rfl (P1.get ha) (k _ _ st1 q _ α1 G1 H1 s1' P1 S1 (JL fun α' G' st' s S o=>⟨vs,s.ext _ _ na ha,ra.step s⟩))
noncomputable def d5(lo:Int)(n:Nat):List D:=(List.range n).map fun(k:Nat)=>D.int (lo+(k:Int))
theorem uo{lo:Int}{n k:Nat}:(d5 lo n)[k]?=if k<n then some (.int (lo+(k:Int)))else none:=by
 unfold d5
 rw[List.getElem?_map]
 by_cases h:k<n
 · rw[List.getElem?_range h,if_pos h];rfl
 · rw[List.getElem?_eq_none (by simpa using h),if_neg h];rfl
theorem gz{lo:Int}{n:Nat}:(d5 lo n).length=n:=by unfold d5;simp
theorem yA{α:List (Option Addr)}{G:Hp}{lo:Int}{n:Nat}:tG (vP lo n) α G (fun _=>True) (d5 lo n) where
 stop:=fun m α' G' F' H' st' s P S o hn=>by rw[gz]at hn;exact hn
 go:=fun m d α' G' F' H' st' s P S o hn=>by
  rw[uo]at hn
  split at hn
  · assumption
  · cases hn
 nG:=fun m d α' G' F' H' st' x H'' s P S o hn y=>by
  obtain⟨rfl,rfl⟩:=y
  rw[uo]at hn
  split at hn
  · cases hn
    exact⟨G',Step.refl,P,S,by unfold Rep;rfl⟩
  · cases hn
theorem PI.imp{tg iter:Expr}{t t':TI}(h:PI X tg iter t)(f:∀σ H R,t' σ H R→t σ H R):PI X tg iter t':=fun pins s σ H R I q=>h pins s σ H R I (f σ H R q)
noncomputable def ES(ds:List D)(st1:ag)(K:List D→(ag→Prop)→ag→Prop):Prop:=match ds with
 | [.int j]=>(-(2^62)≤j∧j<2^62)∧K (d5 0 j.toNat) (fun _=>True) st1
 |_=>False
noncomputable def EY(ds:List D)(st1:ag)(K:List D→(ag→Prop)→ag→Prop):Prop:=match ds with
 | [.int i,.int j]=>(-(2^62)≤i∧i<2^62∧ -(2^62)≤j∧j<2^62)∧K (d5 i (j-i).toNat) (fun _=>True) st1
 |_=>False
noncomputable def FO(t:DA):DI:=fun σ st K=>t σ st fun ds st1=>ES ds st1 K
noncomputable def Ge(t:DA):DI:=fun σ st K=>t σ st fun ds st1=>EY ds st1 K
theorem Ck{tg iter:Expr}{t:DA}(h:PI X tg iter (z_ (LA t))):PI X tg iter (LI (FO t)):=PI.imp h fun σ H R ⟨α,σd,st,K,G,F,P,RS,S,t,k⟩=>by
 refine⟨α,σd,st,_,G,F,P,RS,S,t,fun ds st1 q α1 G1 H1 vs s1 P1 S1 r1=>?_⟩
 match ds,q,r1 with
 | [.int j],q,r1=>
   obtain⟨v,rfl,r2⟩:=gE r1 rfl
   unfold Rep at r2
   subst r2
   exact⟨j,rfl,q.1.1,q.1.2,k _ _ st1 q.2 _ α1 G1 H1 s1 P1 S1 yA⟩
theorem BZ{tg iter:Expr}{t:DA}(h:PI X tg iter (A_ (LA t))):PI X tg iter (LI (Ge t)):=PI.imp h fun σ H R ⟨α,σd,st,K,G,F,P,RS,S,t,k⟩=>by
 refine⟨α,σd,st,_,G,F,P,RS,S,t,fun ds st1 q α1 G1 H1 vs s1 P1 S1 r1=>?_⟩
 match ds,q,r1 with
 | [.int i,.int j],q,r1=>
   obtain⟨v,u,rfl,r2,r3⟩:=pH r1 rfl
   unfold Rep at r2 r3
   subst r2 r3
   exact⟨i,j,rfl,q.1,k _ _ st1 q.2 _ α1 G1 H1 s1 P1 S1 yA⟩
noncomputable def iH(tg:fB)(body:DS)(ok:ag→Prop)(E:l9):List D→cj→ag→Prop
 | [],σ,st=>ok st∧E.nx σ st
 |x::xs,σ,st=>ok st∧∃σ1,tg x σ=some σ1∧body {E with nx:=iH tg body ok E xs,ct:=iH tg body ok E xs,bk:=E.nx} σ1 st
noncomputable def iA(src:DI)(tg:fB)(body:DS):DS:=fun D σ st=>src σ st fun xs ok st1=>iH tg body ok D xs σ st1
theorem Jc{src:DI}{tg:fB}(h:PS X st (IZ (LI src) (LG tg) (LS t))):PS X st (LS (iA src tg t)):=PS.imp h fun D σ H ⟨α,σd,st,DD,G,F,P,R,S,tt,k⟩=>by
 refine⟨α,σd,st,_,G,F,P,R,S,tt,fun xs ok st1 q J α1 G1 H1 s1 P1 S1 it=>?_⟩
 refine⟨fun i m σ' H'=>∃α' σd' st' G',Step α1 G1 α' G'∧bZ G' F H'∧dX α' G' σd' σ'∧aU α' st' G'∧iH tg t ok DD (xs.drop i) σd' st'∧m=xs.length-i,⟨xs.length,α1,σd,st1,G1,Step.refl,P1,R.step s1,S1,q,rfl⟩,?_⟩
 rintro i m σ2 H2 ⟨α2,σd2,st2,G2,s2,P2,R2,S2,q2,rfl⟩
 cases e:xs[i]? with
 |none=>
  have hl:xs.length≤i:=List.getElem?_eq_none_iff.mp e
  rw[List.drop_eq_nil_of_le hl]at q2
  unfold iH at q2
  exact .inl ⟨it.stop i α2 G2 F H2 st2 s2 P2 S2 q2.1 hl,((k.nx.at s1).at s2).here P2 q2.2 R2 S2⟩
 |some d=>
  have hl:i<xs.length:=(List.getElem?_eq_some_iff.mp e).1
  have ed:xs.drop i=d::xs.drop (i+1):=by
   rw[List.drop_eq_getElem_cons hl]
   congr 1
   rw[List.getElem?_eq_getElem hl]at e
   exact Option.some.inj e
  rw[ed]at q2
  unfold iH at q2
  obtain⟨aI,σ3,e3,q3⟩:=q2
  refine .inr ⟨it.go i d α2 G2 F H2 st2 s2 P2 S2 aI e,fun σ' H'=>∃α' σd' st' G',Step α1 G1 α' G'∧bZ G' F H'∧dX α' G' σd' σ'∧aU α' st' G'∧iH tg t ok DD (xs.drop (i+1)) σd' st',?_,?_⟩
  · rintro σ' H' ⟨α',σd',st',G',z1,z2,z3,z4,z5⟩
    exact⟨xs.length-(i+1),by omega,α',σd',st',G',z1,z2,z3,z4,z5,rfl⟩
  · intro x H' y
    obtain⟨G3,s3,P3,S3,r3⟩:=it.nG i d α2 G2 F H2 st2 x H' s2 P2 S2 aI e y
    refine⟨α2,σd2,st2,d,fun σ' st'=>σ'=σ3∧st'=st2,G3,F,P3,R2.step s3,S3,r3,⟨σ3,e3,rfl,rfl⟩,?_⟩
    rintro σ' st' ⟨rfl,rfl⟩ α4 G4 H4 σ4 s4 P4 R4 S4
    have s24:=(s2.trans s3).trans s4
    refine⟨α4,σ',st',_,G4,F,P4,R4,S4,q3,?_,((k.rt.at s1).at s24),(k.nx.at s1).at s24,?_⟩
    · intro σd5 st5 q5 α5 G5 H5 σ5 s5 P5 R5 S5
      exact⟨α5,σd5,st5,G5,s24.trans s5,P5,R5,S5,q5⟩
    · intro σd5 st5 q5 α5 G5 H5 σ5 s5 P5 R5 S5
      exact⟨α5,σd5,st5,G5,s24.trans s5,P5,R5,S5,q5⟩
end
end L3
namespace L3
open PySem PySem.Spec L2
open PyProof.Rows hiding St
noncomputable def f9(fr:List (Option Nat))(σ:cj):cj:=fr.map fun o=>o.bind fun j=>(σ[j]?).join
theorem dX.comp{α:List (Option Addr)}{G:Hp}{σd:cj}{σ:L2.St}{fr:List (Option Nat)}(h:dX α G σd σ):dX α G (f9 fr σd) (σC fr σ):=by
 refine⟨by unfold f9 σC;simp,fun i d e=>?_⟩
 unfold f9 at e
 rw[List.getElem?_map]at e
 cases q:fr[i]? with
 |none=>rw[q]at e;cases e
 |some o=>
  rw[q]at e
  cases o with
  |none=>simp at e
  |some j=>
   simp only[Option.map_some,Option.some.injEq,Option.bind_some]at e
   have ej:σd[j]?=some (some d):=by
    cases r:σd[j]? with
    |none=>rw[r]at e;cases e
    |some u=>rw[r]at e;simp at e;rw[e]
   obtain⟨v,ev,rv⟩:=h.at' j d ej
   refine⟨v,?_,rv⟩
   unfold σC
   rw[List.getElem?_map,q]
   simp[ev]
noncomputable def dk(tg:fB)(c:DT)(te:DE)(ok:ag→Prop)(σc:cj):List D→List D→ag→(List D→ag→Prop)→Prop
 | [],acc,st,K=>ok st∧K acc st
 |x::xs,acc,st,K=>ok st∧∃σ2,tg x σc=some σ2∧c σ2 st fun b st1=>if b=true then te σ2 st1 fun y st2=>dk tg c te ok σc xs (acc++[y]) st2 K else dk tg c te ok σc xs acc st1 K
noncomputable def c5(src:DI)(fr:List (Option Nat))(tg:fB)(c:DT)(te:DE):DE:=fun σ st K=>src σ st fun xs ok st1=>xs.length≤sizeLine∧dk tg c te ok (f9 fr σ) xs [] st1 fun ys st2=>K (.lst ys) st2
noncomputable def qi(src:DI)(fr:List (Option Nat))(tg:fB)(c:DT)(te:DE):DE:=fun σ st K=>src σ st fun xs ok st1=>xs.length≤sizeLine∧dk tg c te ok (f9 fr σ) xs [] st1 fun ys st2=>K (.ref st2.length) (st2++[.lst ys])
noncomputable def cq:DT:=fun _ st K=>K true st
noncomputable def se(fr:List (Option Nat))(tg:fB):Prop:=∀(σ:cj) (d:D) (σ2:cj),tg d (f9 fr σ)=some σ2→σ2.length=(f9 fr σ).length∧∀(i:Nat) (e:D),(f9 fr σ)[i]?=some (some e)→σ2[i]?=some (some e)
theorem qD{fr:List (Option Nat)}{σ:cj}{k:Nat}(h:fr[k]?=some none){e:D}(q:(f9 fr σ)[k]?=some (some e)):False:=by
 unfold f9 at q
 rw[List.getElem?_map,h]at q
 simp at q
theorem cf{fr:List (Option Nat)}{k:Nat}(h:fr[k]?=some none:=by rfl):se fr (bL k):=fun σ d σ2 e=>by
 cases e
 refine⟨List.length_set,fun i x q=>?_⟩
 by_cases hi:i=k
 · subst hi;exact(qD h q).elim
 · rw[List.getElem?_set_ne (Ne.symm hi)];exact q
theorem rJ{fr:List (Option Nat)}{k j:Nat}(h:fr[k]?=some none:=by rfl)(h':fr[j]?=some none:=by rfl):se fr (fz k j):=fun σ d σ2 e=>by
 unfold fz at e
 split at e
 · cases e
   refine⟨by rw[List.length_set,List.length_set],fun i x q=>?_⟩
   by_cases hi:i=k
   · subst hi;exact(qD h q).elim
   · by_cases hj:i=j
     · subst hj;exact(qD h' q).elim
     · rw[List.getElem?_set_ne (Ne.symm hj),List.getElem?_set_ne (Ne.symm hi)];exact q
 · cases e
section
variable {X:Cx}
theorem IX{c:Expr}{t:DT}(h:PT X c (LT t)):qh X [c] (LT t):=FN h
theorem El:qh X [] (LT cq):=fun pins s σ H Q I ⟨α,σd,st,K,G,F,P,R,S,t,k⟩=>F3 pins s σ H Q I (k true st t α G H Step.refl P S)
theorem LE.comp{src:DI}{fr:List (Option Nat)}{tg:fB}{c:DT}{te:DE}(fit:se fr tg){σ:L2.St}{H:Hp}{Q:VK}{α:List (Option Addr)}{σd:cj}{st:ag}{KE:List D→ag→Prop}{G F:Hp}(P:bZ G F H)(R:dX α G σd σ)(S:aU α st G)
 (t:src σd st fun xs ok st1=>xs.length≤sizeLine∧dk tg c te ok (f9 fr σd) xs [] st1 KE)
 (fin:∀ys st2 α2 G2 H2 l vs,KE ys st2→Step α G α2 G2→bZ G2 (upd F l (.lst vs)) H2→F l=none→aU α2 st2 G2→aJ α2 G2 ys vs→Q (.ref l) H2):
 uz (LI src) fr (LG tg) (LT c) (LE te) σ H Q:=by
 refine⟨α,σd,st,_,G,F,P,R,S,t,fun xs ok st1 q J α1 G1 H1 s1 P1 S1 it l hl=>?_⟩
 obtain⟨hsz,q⟩:=q
 obtain⟨hG,hF⟩:=P1.none hl
 refine⟨fun i m σ' H'=>∃α' st' G' acc vs,Step α1 G1 α' G'∧bZ G' (upd F l (.lst vs)) H'∧dX α' G' (f9 fr σd) σ'∧aU α' st' G'∧aJ α' G' acc vs∧acc.length≤i∧i≤xs.length∧dk tg c te ok (f9 fr σd) (xs.drop i) acc st' KE∧m=xs.length-i,
  ⟨xs.length,α1,st1,G1,[],[],Step.refl,P1.hide hl,(R.step s1).comp,S1,by unfold aJ;rfl,Nat.le_refl _,Nat.zero_le _,q,rfl⟩,?_⟩
 rintro i m σ2 H2 ⟨α2,st2,G2,acc,vs,s2,P2,R2,S2,ra,hacc,hi,q2,rfl⟩
 cases e:xs[i]? with
 |none=>
  have hl2:xs.length≤i:=List.getElem?_eq_none_iff.mp e
  rw[List.drop_eq_nil_of_le hl2]at q2
  unfold dk at q2
  exact .inl ⟨it.stop i α2 G2 _ H2 st2 s2 P2 S2 q2.1 hl2,fin acc st2 α2 G2 H2 l vs q2.2 (s1.trans s2) P2 hF S2 ra⟩
 |some d=>
  have hl2:i<xs.length:=(List.getElem?_eq_some_iff.mp e).1
  have ed:xs.drop i=d::xs.drop (i+1):=by
   rw[List.drop_eq_getElem_cons hl2]
   congr 1
   rw[List.getElem?_eq_getElem hl2]at e
   exact Option.some.inj e
  rw[ed]at q2
  unfold dk at q2
  obtain⟨aI,σ3,e3,q3⟩:=q2
  refine .inr ⟨it.go i d α2 G2 _ H2 st2 s2 P2 S2 aI e,fun σ' H'=>∃α' st' G' acc vs,Step α1 G1 α' G'∧bZ G' (upd F l (.lst vs)) H'∧dX α' G' (f9 fr σd) σ'∧aU α' st' G'∧aJ α' G' acc vs∧acc.length≤i+1∧dk tg c te ok (f9 fr σd) (xs.drop (i+1)) acc st' KE,?_,?_⟩
  · rintro σ' H' ⟨α',st',G',acc',vs',z1,z2,z3,z4,z5,z6,z7⟩
    exact⟨xs.length-(i+1),by omega,α',st',G',acc',vs',z1,z2,z3,z4,z5,z6,hl2,z7,rfl⟩
  · intro x H' y
    obtain⟨G3,s3,P3,S3,r3⟩:=it.nG i d α2 G2 _ H2 st2 x H' s2 P2 S2 aI e y
    refine⟨α2,f9 fr σd,st2,d,fun σ' st'=>σ'=σ3∧st'=st2,G3,_,P3,R2.step s3,S3,r3,⟨σ3,e3,rfl,rfl⟩,?_⟩
    rintro σ' st' ⟨rfl,rfl⟩ α4 G4 H4 σ4 s4 P4 R4 S4
    have s24:=(s2.trans s3).trans s4
    have Rc:dX α4 G4 (f9 fr σd) σ4:=⟨by rw[←(fit σd d σ' e3).1];exact R4.len,fun j z hz=>R4.at' j z ((fit σd d σ' e3).2 j z hz)⟩
    refine⟨α4,σ',st',_,G4,_,P4,R4,S4,q3,fun b st5 q5 α5 G5 H5 s5 P5 S5=>?_⟩
    cases b with
    |false=>exact⟨α5,st5,G5,acc,vs,s24.trans s5,P5,Rc.step s5,S5,((ra.step s3).step s4).step s5,by omega,q5⟩
    |true=>
     refine⟨α5,σ',st5,_,G5,_,P5,R4.step s5,S5,q5,fun z st6 q6 α6 G6 H6 v6 s6 P6 S6 r6=>?_⟩
     have hr:=(((ra.step s3).step s4).step s5).step s6
     refine⟨vs,(P6.frame aZ).1,by rw[←hr.length];omega,α6,st6,G6,acc++[z],vs++[v6],(s24.trans s5).trans s6,?_,(Rc.step s5).step s6,S6,bf.mpr (fG (bf.mp hr) (.cons r6 .nil)),by rw[List.length_append,List.length_singleton];omega,q6⟩
     have:=P6.Nx (p:=l) (o':= .lst (vs++[v6])) aZ
     rw[Hm]at this
     exact this
theorem Jp{scope:Scope}{Nc:List Str}{elt tg iter:Expr}{ifs:List Expr}{pos:Pos}{src:DI}{fr:List (Option Nat)}{dtg:fB}{c:DT}{te:DE}(S:ba X scope Nc fr)(hi:PI X tg iter (LI src))
 (hg:∀C s H ex,PG (fu X scope Nc C s H ex) tg (LG dtg)) (ht:∀C s H ex,qh (fu X scope Nc C s H ex) ifs (LT c)) (he:∀C s H ex,PE (fu X scope Nc C s H ex) elt (LE te)) (fit:se fr dtg)
 (hx:X.xe=fun _ _=>False:=by rfl) (hc:X.calm=true:=by rfl) (hs:∀x,foldedSetIterable iter X.env x=pure x:=by intro _;rfl):PE X (.ListComp elt [⟨tg,iter,ifs,0⟩] scope pos) (LE (c5 src fr dtg c te)):=
 PE.imp (zI hx hc S hi hg ht he hs) fun σ H Q ⟨α,σd,st,K,G,F,P,R,S,t,k⟩=>LE.comp fit P R S t fun ys st2 α2 G2 H2 l vs q s2 P2 hl S2 r=>by
  have hg:G2 l=none:=(P2.frame aZ).2
  refine k _ st2 q α2 (upd G2 l (.lst vs)) H2 (.ref l) (s2.trans (Step.laid hg)) (P2.show hl) (S2.laid hg) ?_
  unfold Rep
  exact⟨l,vs,rfl,S2.jI hg,.of aZ,r.step (Step.laid hg)⟩
theorem Gj{scope:Scope}{Nc:List Str}{elt tg iter:Expr}{ifs:List Expr}{pos:Pos}{src:DI}{fr:List (Option Nat)}{dtg:fB}{c:DT}{te:DE}(S:ba X scope Nc fr)(hi:PI X tg iter (LI src))
 (hg:∀C s H ex,PG (fu X scope Nc C s H ex) tg (LG dtg)) (ht:∀C s H ex,qh (fu X scope Nc C s H ex) ifs (LT c)) (he:∀C s H ex,PE (fu X scope Nc C s H ex) elt (LE te)) (fit:se fr dtg)
 (hx:X.xe=fun _ _=>False:=by rfl) (hc:X.calm=true:=by rfl) (hs:∀x,foldedSetIterable iter X.env x=pure x:=by intro _;rfl):PE X (.ListComp elt [⟨tg,iter,ifs,0⟩] scope pos) (LE (qi src fr dtg c te)):=
 PE.imp (zI hx hc S hi hg ht he hs) fun σ H Q ⟨α,σd,st,K,G,F,P,R,S,t,k⟩=>LE.comp fit P R S t fun ys st2 α2 G2 H2 l vs q s2 P2 hl S2 r=>by
  have hg:G2 l=none:=(P2.frame aZ).2
  refine k _ _ q (α2++[some l]) (upd G2 l (.lst vs)) H2 (.ref l) (s2.trans (Step.cell hg)) (P2.show hl) (S2.cell hg ⟨vs,aZ,r.step (Step.cell hg)⟩) ?_
  unfold Rep
  refine .inr ⟨l,?_,rfl⟩
  rw[List.getElem?_append_right (by rw[S2.len];exact Nat.le_refl _),S2.len,Nat.sub_self]
  rfl
theorem Gi{st:Stmt}{k:Nat}{src:DI}{fr:List (Option Nat)}{dtg:fB}{c:DT}{te:DE}(fit:se fr dtg)(h:PS X st (nZ (uz (LI src) fr (LG dtg) (LT c) (LE te)) (mf k))):PS X st (LS (a8 k (c5 src fr dtg c te))):=
 PS.imp h fun D σ H ⟨α,σd,st,DD,G,F,P,R,S,t,q⟩=>LE.comp fit P R S t fun ys st2 α2 G2 H2 l vs qq s2 P2 hl S2 r=>by
  have hg:G2 l=none:=(P2.frame aZ).2
  have s3:=s2.trans (Step.laid (o:= .lst vs) hg)
  refine q.nx _ st2 qq α2 (upd G2 l (.lst vs)) H2 _ s3 (P2.show hl) ((R.step s3).set k ?_) (S2.laid hg)
  unfold Rep
  exact⟨l,vs,rfl,S2.jI hg,.of aZ,r.step (Step.laid hg)⟩
noncomputable def a7(N:List Str)(ds:List D):cj:=ds.map some++List.replicate (N.length-ds.length) none
theorem dX.start{α:List (Option Addr)}{G:Hp}{N:List Str}{ds:List D}{vs:List V}(r:aJ α G ds vs):dX α G (a7 N ds) (L2.start N vs):=by
 have hl:=r.length
 refine⟨by unfold a7 L2.start;simp[hl],fun i d e=>?_⟩
 unfold a7 at e
 by_cases hi:i<ds.length
 · rw[List.getElem?_append_left (by simpa using hi),List.getElem?_map]at e
   cases q:ds[i]? with
   |none=>rw[q]at e;cases e
   |some x=>
    rw[q]at e
    cases e
    obtain⟨v,ev,rv⟩:=r.get q
    refine⟨v,?_,rv⟩
    unfold L2.start
    rw[List.getElem?_append_left (by rw[List.length_map];omega),List.getElem?_map,ev]
    rfl
 · rw[List.getElem?_append_right (by simpa using hi),List.getElem?_replicate]at e
   split at e<;>cases e
theorem KN{P:Program}{w:World}{K:PySem.W.Frag}{mg:Str→Option Value}{base:Heap}{x qual:Str}{st:Stmt}{f:Addr}{fd:FuncData}{N ps:List Str}{k:Nat}{sp:cD}{t:DS}(F:mZ K x qual st f fd)(S:aS N ps (ai st))
 (hbody:∀(cdv:Value) (A:Around) (outer:List Env) (s:Shared) (H:Hp) (E:XK),cT k (A.deeper (envOfC qual (ai st) s.heap.objs.size f cdv))→gv (pK cE P w K mg base N qual (ai st) f cdv A outer s H E).uB (gf st) (LS t))
 (hsp:∀ds st K,sp ds st K→ds.length=ps.length∧t {nx:=fun _ st'=>K .aG st',rt:=K} (a7 N ds) st):bo P w K mg base cE (k+1) f fd ps (cJ sp):=by
 refine F.ok S (fun vs H Q E h=>?_) fun cdv A outer s H vs Q E hr h=>⟨_,hbody cdv A outer s H E hr,?_⟩
 · obtain⟨α,ds,st,K,G,F,P,r,S,q,k⟩:=h
   rw[←r.length]
   exact(hsp ds st K q).1
 · obtain⟨α,ds,st,K,G,F,P,r,S,q,k⟩:=h
   refine⟨α,a7 N ds,st,_,G,F,P,dX.start r,S,(hsp ds st K q).2,?_,k,?_,?_⟩
   · intro σd' st' kk α' G' H' σ' s' P' R' S'
     exact k .aG st' kk α' G' H' .aG s' P' S' (by unfold Rep;rfl)
   · intro σd' st' kk
     exact kk.elim
   · intro σd' st' kk
     exact kk.elim
noncomputable def oH(to te:DE):DE:=fun σ st K=>to σ st fun x st1=>match x with
 | .ref n=>(match st1[n]? with
   |some (.lst _)=>te σ st1 fun y st2=>∃y',[y]=[y']∧(match st2[n]? with|some (.lst xs)=>xs.length<sizeLine∧K .aG (st2.set n (.lst (xs++[y'])))|_=>False)
   |_=>False)
 |_=>False
end
end L3
namespace L3
open PySem PySem.Spec L2
open PyProof.Rows hiding St
structure bS(K:PySem.W.Frag)(mg:Str→Option Value)(x qual:Str)(st:Stmt)(ps:List Str)(f:Addr)(fd:FuncData):Prop where
 fn:mZ K x qual st f fd
 mg:mg x=some (.ref f)
 bd:Binds K fd ps []
noncomputable def tS(sc:Scope)(N:List Str)(scope:Scope)(Nc:List Str)(fr:List (Option Nat)):Bool:=
 (scope.kind== .function)&&scope.names.all (fun x=>x.2 != .cell||scope.names.lookup x.1==some .cell)&&scope.names.all (fun x=>x.2 != .local||scope.names.lookup x.1==some .local)&&
 scope.names.all (fun x=>x.2 != .free||sc.names.lookup x.1==some .cell||sc.names.lookup x.1==some .free)&&(fr.length==Nc.length)&&
 (List.range fr.length).all fun i=>match fr[i]?,Nc[i]? with
   |some (some j),some x=>(N[j]?==some x)&&(scope.names.lookup x==some .free)&&(sc.names.lookup x==some .cell||sc.names.lookup x==some .free)
   |_,_=>true
theorem ba.look{X:Cx}{scope:Scope}{Nc:List Str}{fr:List (Option Nat)}(sc:Scope)(N:List Str)(h:tS sc N scope Nc fr=true)(hsc:X.env.scope=sc:=by rfl)(hN:X.N=N:=by rfl):ba X scope Nc fr:=by
 unfold tS at h
 simp only[Bool.and_eq_true]at h
 obtain⟨⟨⟨⟨⟨h1,h2⟩,h3⟩,h4⟩,h5⟩,h6⟩:=h
 subst hsc hN
 refine⟨by simpa using h1,fun x hx hk=>?_,fun x hx hk=>?_,fun x hx hk=>?_,by simpa using h5,fun i j x e1 e2=>?_⟩
 · have:=List.all_eq_true.mp h2 x hx
   rw[hk]at this
   simpa using this
 · have:=List.all_eq_true.mp h3 x hx
   rw[hk]at this
   simpa using this
 · have:=List.all_eq_true.mp h4 x hx
   rw[hk]at this
   have z:X.env.scope.names.lookup x.1=some .cell∨X.env.scope.names.lookup x.1=some .free:=by simpa using this
   exact z
 · have hi:i<fr.length:=(List.getElem?_eq_some_iff.mp e2).1
   have:=List.all_eq_true.mp h6 i (List.mem_range.mpr hi)
   rw[e1,e2]at this
   simp only[Bool.and_eq_true,Bool.or_eq_true,beq_iff_eq]at this
   exact⟨this.1.1,this.1.2,this.2⟩
section
variable {X:Cx}
theorem M9{e:Expr}{es:List Expr}{pos p:Pos}{x:Str}{id:String}{r:ft}{t:DA}(hc:bY X (.builtin id) (f_ r))(ha:PA X (e::es) (LA t))(hm:X.mg x=none)(hv:bootBuiltins x=some (.builtin id))(hg:Gl X x:=by rfl)(hn:x≠"__name__":=by decide)(hdb:(x==("__debug__":Str))=false:=by decide)
 (he:starEach (e::es) X.env=(false,eval e X.env)::starEach es X.env:=by rfl) (hpl:(backTo pos (starEach es X.env)).any (·.1)=false:=by rfl):PE X (.Call (.Name x p) (e::es) [] pos) (LE (bw r t)):=PE.imp (D7 hc hg hm hv ha hn hdb he hpl) fun _ _ _ h=>LE.cb h
theorem M1{e:Expr}{es:List Expr}{pos p:Pos}{x:Str}{T:String}{r:ft}{t:DA}(hc:bY X (.type T) (f_ r))(ha:PA X (e::es) (LA t))(hm:X.mg x=none)(hv:bootBuiltins x=some (.type T))(hg:Gl X x:=by rfl)(hn:x≠"__name__":=by decide)(hdb:(x==("__debug__":Str))=false:=by decide)
 (he:starEach (e::es) X.env=(false,eval e X.env)::starEach es X.env:=by rfl) (hpl:(backTo pos (starEach es X.env)).any (·.1)=false:=by rfl):PE X (.Call (.Name x p) (e::es) [] pos) (LE (bw r t)):=PE.imp (Ci hc hg hm hv ha hn hdb he hpl) fun _ _ _ h=>LE.cb h
theorem MX{pos:Pos}{x:Str}{T:String}(hm:X.mg x=none)(hv:bootBuiltins x=some (.type T))(hg:Gl X x:=by rfl)(hn:x≠"__name__":=by decide)(hdb:(x==("__debug__":Str))=false:=by decide):PE X (.Name x pos) (LE (dC (.ty T))):=
 oN (v:= .ty T) (Hi hg hm hv rfl hn hdb) fun _ _=>by unfold Rep;rfl
theorem MY{e:Expr}{es:List Expr}{pos p:Pos}{x qual:Str}{st:Stmt}{ps:List Str}{f:Addr}{fd:FuncData}{k:Nat}{S:cD}{t:DA}(A:bS X.K X.mg x qual st ps f fd)(F:bo X.prog X.w X.K X.mg X.base cE k f fd ps (cJ S))(hr:cT k X.A)
 (ha:PA X (e::es) (LA t)) (hg:Gl X x:=by rfl) (hdb:(x==("__debug__":Str))=false:=by decide) (he:starEach (e::es) X.env=(false,eval e X.env)::starEach es X.env:=by rfl) (hpl:(backTo pos (starEach es X.env)).any (·.1)=false:=by rfl):
 PE X (.Call (.Name x p) (e::es) [] pos) (LE (aM S t)):=HV F hr hg A.mg A.fn.kp A.bd ha hdb he hpl
noncomputable def Jm(d:D)(b:Bool):Bool:=match d with| .bl c=>c==b|_=>false
noncomputable def Md(d:D):Bool:=match d with| .aG=>true|_=>false
theorem FR{α:List (Option Addr)}{H:Hp}{st:ag}{d:D}{v:V}{u:Value}{b:Bool}(S:aU α st H)(hl:live st d=true)(r:Rep α H d v)(ru:RelV v u):(u==Value.bool b)=Jm d b:=by
 cases d
 case ref n=>
  obtain⟨a,rfl⟩:=yx S hl r
  cases ru;rfl
 all_goals unfold Rep at r
 case bl c=>
  subst r
  cases ru
  cases c<;>cases b<;>rfl
 all_goals first
  |(subst r;first|(cases ru;rfl)|(obtain⟨t,rfl⟩:=ru;rfl))
  |(obtain⟨a,vs,rfl,_⟩:=r;cases ru;rfl)
theorem LE.append{to te:DE}{σ:L2.St}{H:Hp}{Q:VK}(h:LE (oH to te) σ H Q):L_ X.K "list" zD (LE to) (LA (af te ak)) σ H Q:=by
 obtain⟨α,σd,st,K,G,F,P,R,S,t,k⟩:=h
 refine⟨α,σd,st,_,G,F,P,R,S,t,fun x st1 q α1 G1 H1 v s1 P1 S1 r1=>?_⟩
 cases x<;>try exact q.elim
 rename_i n
 simp only at q
 split at q
 · rename_i ys e
   obtain⟨p,ep,vs,h1,h2⟩:=S1.jg e
   have r1':=eQ ep r1
   subst r1'
   refine⟨.inl ⟨rfl,vs,.inl (.of (P1.get h1))⟩,α1,σd,st1,fun ds st2=>∃y,ds=[y]∧(match st2[n]? with|some (.lst xs)=>xs.length<sizeLine∧K .aG (st2.set n (.lst (xs++[y])))|_=>False),G1,F,P1,R.step s1,S1,?_,?_⟩
   · refine Eq.mp ?_ q
     rfl
   · rintro ds st2 ⟨y,rfl,q2⟩ α2 G2 H2 ws s2 P2 S2 r2
     obtain⟨w,rfl,rw'⟩:=gE r2 rfl
     split at q2
     · rename_i xs e2
       obtain⟨p2,ep2,us,g1,g2⟩:=S2.jg e2
       have:p2=p:=by
        rcases s2.pre _ _ ep with z|z<;>(rw[z]at ep2;cases ep2)
        rfl
       subst this
       have hm:some p2∈α2:=List.mem_of_getElem? ep2
       refine⟨p2,us,w,rfl,rfl,P2.get g1,by rw[←g2.length];exact q2.1,?_⟩
       refine((k.at s1).at s2) _ _ q2.2 α2 (upd G2 p2 (.lst (us++[w]))) _ .aG (Step.write hm) (P2.write g1) ?_ (by unfold Rep;rfl)
       exact S2.write ep2 ⟨us++[w],aZ,(bf.mpr (fG (bf.mp g2) (.cons rw' .nil))).step (Step.write hm)⟩
     · exact q2.elim
 · exact q.elim
theorem D9{o e:Expr}{to te:DE}{apos cpos:Pos}(ho:PE X o (LE to))(he:PE X e (LE te))(hbase:attributeBase o "append" X.env (eval o X.env)=eval o X.env:=by rfl)
 (hfew:((backTo cpos (starEach [e] X.env)).all (fun x=> !x.1)&&(backToKw cpos (keywordEach [] X.env)).all (fun x=>x.1.isSome)
   &&decide (([e]:List Expr).length+([]:List Keyword).length+(if([]:List Keyword).isEmpty then 0 else 1)<30))=true:=by rfl)
 (hline:(apos.endLine==cpos.line)=true:=by rfl) (hs:starEach [e] X.env=(false,eval e X.env)::starEach [] X.env:=by rfl) (hplain:(backTo cpos (starEach [] X.env)).any (·.1)=false:=by rfl):PE X (.Call (.Attribute o "append" apos) [e] [] cpos) (LE (oH to te)):=
 PE.imp (Lw PySem.F.plainAttrs_list PySem.F.slot_list_append PySem.F.type_list_append vm ho (vf he xy hs) hbase hfew hline hs hplain) fun _ _ _ h=>LE.append h
end
end L3
namespace L3
open PySem L2
open PySem.Spec hiding items?
open PyProof.Rows hiding St
section
variable {X:Cx}
@[irreducible] noncomputable def dy:dN:=Fi
theorem eF:cm X (binaryOp .Add) (LR dy):=by unfold dy;exact LQ
@[irreducible] noncomputable def j_:dN:=Fd
theorem kU:cm X (binaryOp .Sub) (LR j_):=by unfold j_;exact Lq
@[irreducible] noncomputable def cK:dN:=E_
theorem cU:cm X (binaryOp .Mult) (LR cK):=by unfold cK;exact KY
@[irreducible] noncomputable def ma:dN:=Bs
theorem tX:cm X (binaryOp .FloorDiv) (LR ma):=by unfold ma;exact HG
@[irreducible] noncomputable def fC:dN:=EW
theorem iR:cm X (binaryOp .Mod) (LR fC):=by unfold fC;exact Lc
@[irreducible] noncomputable def qx:dN:=Fg
theorem wD:cm X (binaryOp .Pow) (LR qx):=by unfold qx;exact L4
@[irreducible] noncomputable def pV:dN:=IJ
theorem xJ:cm X (compareOp .Lt) (LR pV):=by unfold pV;exact MG
@[irreducible] noncomputable def kc:dN:=HN
theorem oh:cm X (compareOp .Gt) (LR kc):=by unfold kc;exact MT
@[irreducible] noncomputable def lS:dN:=J_
theorem pk:cm X (compareOp .NotEq) (LR lS):=by unfold lS;exact MF
@[irreducible] noncomputable def iw:dN:=Ij
theorem jo{k:Nat}(hr:cT k X.A):cm X (compareOp .Eq) (LR iw):=by unfold iw;exact MO hr
@[irreducible] noncomputable def iZ:w6:=Fv
theorem KJ:zQ X (unaryOp .USub) (E4 iZ):=by unfold iZ;exact Lv
@[irreducible] noncomputable def aT:dN:=pJ
theorem MU{a b:Expr}{ta tb:DE}{pos:Pos}(ha:PE X a (LE ta))(hb:PE X b (LE tb))(hs:rk b:=by intro _ _;rfl):PE X (.Subscript a b pos) (LE (au aT ta tb)):=by unfold aT;exact M0 ha hb hs
@[irreducible] noncomputable def eR:ft:=wz
theorem eG:bY X (.builtin "len") (f_ eR):=by unfold eR;exact Ks
@[irreducible] noncomputable def mW:ft:=Bb
theorem pG:bY X (.builtin "abs") (f_ mW):=by unfold mW;exact LH
@[irreducible] noncomputable def yi:ft:=Aj
theorem LZ:bY X (.type "int") (f_ yi):=by unfold yi;exact KP
@[irreducible] noncomputable def dU:ft:=rF
theorem eg:bY X (.type "tuple") (f_ dU):=by unfold dU;exact G_
@[irreducible] noncomputable def hO:ft:=tY
theorem i3:bY X (.type "list") (f_ hO):=by unfold hO;exact J8
@[irreducible] noncomputable def qm:ft:=rQ
theorem F5:bY X (.type "list") (f_ qm):=by unfold qm;exact FY
@[irreducible] noncomputable def nX:ft:=wk
theorem uL(hc:X.calm=true):bY X (.builtin "all") (f_ nX):=by unfold nX;exact K7 hc
@[irreducible] noncomputable def gF:ft:=tM
theorem jQ:bY X (.builtin "isinstance") (f_ gF):=by unfold gF;exact KG
@[irreducible] noncomputable def og:D→ag→(List D→(ag→Prop)→ag→Prop)→Prop:=uX
noncomputable def dA(t:DE):DI:=fun σ st K=>t σ st fun d st1=>og d st1 K
theorem Js{l tg:Expr}{tl:DE}(hl:PE X l (LE tl)):PI X tg l (LI (dA tl)):=by unfold dA og;exact Iv hl
@[irreducible] noncomputable def wg:List D→ag→(List D→(ag→Prop)→ag→Prop)→Prop:=ES
@[irreducible] noncomputable def wH:List D→ag→(List D→(ag→Prop)→ag→Prop)→Prop:=EY
noncomputable def gq(t:DA):DI:=fun σ st K=>t σ st fun ds st1=>wg ds st1 K
noncomputable def rp(t:DA):DI:=fun σ st K=>t σ st fun ds st1=>wH ds st1 K
theorem BJ{tg iter:Expr}{t:DA}(h:PI X tg iter (z_ (LA t))):PI X tg iter (LI (gq t)):=by unfold gq wg;exact Ck h
theorem BF{tg iter:Expr}{t:DA}(h:PI X tg iter (A_ (LA t))):PI X tg iter (LI (rp t)):=by unfold rp wH;exact BZ h
@[irreducible] noncomputable def xp:D→D→D→ag→(ag→Prop)→Prop:=Aw
noncomputable def eS(to ti te:DE):DS:=fun D σ st=>te σ st fun d st1=>to σ st1 fun x st2=>ti σ st2 fun y st3=>xp x y d st3 fun st4=>D.nx σ st4
theorem DQ{st:Stmt}{to ti te:DE}(h:PS X st (nZ (LE te) (z8 (LE to) (LE ti) wq))):PS X st (LS (eS to ti te)):=by unfold eS xp;exact DP h
end
section
variable {st:ag}{K:DK}{i j:Int}{b c:Bool}{xs ys:List D}{d e:D}{n:Nat}
theorem dQ(k:K (.int (i+j)) st):dy (.int i) (.int j) st K:=by unfold dy;exact k
theorem zL(h:xs.length+ys.length≤sizeLine)(k:K (.lst (xs++ys)) st):dy (.lst xs) (.lst ys) st K:=by unfold dy;exact⟨h,k⟩
theorem i0(k:K (.int (i-j)) st):j_ (.int i) (.int j) st K:=by unfold j_;exact⟨trivial,k⟩
theorem cA(h:IntMulOk i j)(k:K (.int (i*j)) st):cK (.int i) (.int j) st K:=by unfold cK;exact⟨h,k⟩
theorem uS(h: -(2^63)≤i∧i<2^63∧xs.length*i.toNat≤sizeLine)(k:K (.lst (List.replicate i.toNat xs).flatten) st):cK (.lst xs) (.int i) st K:=by unfold cK;exact⟨h,k⟩
theorem rB(h0:j≠0)(h:j.natAbs.log2<9000)(k:K (.int (i.fdiv j)) st):ma (.int i) (.int j) st K:=by unfold ma;exact⟨⟨h0,h⟩,k⟩
theorem gn(h0:j≠0)(k:K (.int (i.fmod j)) st):fC (.int i) (.int j) st K:=by unfold fC;exact⟨h0,k⟩
theorem ur(h:Eo i j)(k:K (.int (i^j.toNat)) st):qx (.int i) (.int j) st K:=by unfold qx;exact⟨h,k⟩
theorem wJ(k:K (.bl (decide (i<j))) st):pV (.int i) (.int j) st K:=by unfold pV;exact⟨trivial,k⟩
theorem nA(k:K (.bl (decide (j<i))) st):kc (.int i) (.int j) st K:=by unfold kc;exact⟨trivial,k⟩
theorem EO(k:K (.bl (!decide (i=j))) st):lS (.int i) (.int j) st K:=by unfold lS;exact k
theorem pL(h1:pl 40 d=true)(h2:pl 40 e=true)(k:K (.bl (cO d e)) st):iw d e st K:=by unfold iw;exact⟨h1,h2,k⟩
theorem GR(a b:Int):(a==b)=decide (a=b):=by
 by_cases h:a=b
 · subst h;simp
 · simp[h]
theorem Co(k:K (.bl (decide (i=j))) st):iw (.int i) (.int j) st K:=by
 refine pL rfl rfl ?_
 have:cO (.int i) (.int j)=decide (i=j):=by unfold cO;exact GR i j
 rw[this];exact k
theorem iq(k:K (.int (-i)) st):iZ (.int i) st K:=by unfold iZ;exact k
theorem D4(h:items? st d=some xs)(a:dM xs i=some e)(k:K e st):pJ d (.int i) st K:=by
 cases d<;>unfold items? at h<;>first
  |(cases h;done)
  |(cases h;simp only[pJ,a];exact k)
  |(simp only at h
    split at h
    · rename_i q
      cases h
      simp only[pJ,q,a]
      exact k
    · cases h)
theorem az(h:items? st d=some xs)(a:dM xs i=some e)(k:K e st):aT d (.int i) st K:=by unfold aT;exact D4 h a k
theorem di(h:items? st d=some xs)(k:K (.int xs.length) st):eR [d] st K:=by
 unfold eR wz
 split
 · rename_i z;cases z;cases h
 · rename_i z;cases z;rw[h];exact k
 · rename_i z1 z2;exact absurd rfl (z2 d)
theorem GQ(i:Int):(if i<0 then-i else i)=((i.natAbs:Nat):Int):=by split<;>omega
theorem mM(k:K (.int ((i.natAbs:Nat):Int)) st):mW [.int i] st K:=by unfold mW;show K (.int (if i<0 then-i else i)) st;rw[GQ];exact k
theorem FW(k:K (.int (if b then 1 else 0)) st):yi [.bl b] st K:=by unfold yi;exact k
theorem dw(h:items? st d=some xs)(k:K (.tup xs) st):dU [d] st K:=by unfold dU rF;simp only[h];exact k
theorem gO(h:items? st d=some xs)(k:K (.lst xs) st):hO [d] st K:=by unfold hO tY;simp only[h];exact k
theorem DW(h:items? st d=some xs)(k:K (.ref st.length) (st++[.lst xs])):qm [d] st K:=by unfold qm rQ;simp only[h];exact k
theorem uD{bs:List Bool}(h:i8 xs=some bs)(k:K (.bl (bs.all id)) st):nX [.lst xs] st K:=by unfold nX wk;simp only[h];exact k
theorem j6{t c:String}(h:ie st d=some t)(hc:c∈kC)(k:K (.bl (qI t c)) st):gF [d,.ty c] st K:=by unfold gF tM;simp only[h];exact⟨hc,k⟩
theorem oy{t:String}{cs:List D}{cl:List String}(h:ie st d=some t)(h2:mm cs=some cl)(hc:∀c∈cl,c∈kC)(k:K (.bl (cl.any (qI t))) st):gF [d,.tup cs] st K:=by unfold gF tM;simp only[h,h2];exact⟨hc,k⟩
theorem tR{K:List D→(ag→Prop)→ag→Prop}(h:items? st d=some xs)(k:∀ok:ag→Prop,ok st→K xs ok st):og d st K:=by
 unfold og uX
 cases d<;>unfold items? at h<;>first
  |(cases h;done)
  |(cases h;exact k _ trivial)
  |(simp only at h
    split at h
    · rename_i q
      cases h
      simp only[q]
      exact k _ q
    · cases h)
theorem mF{K:List D→(ag→Prop)→ag→Prop}(k:K xs (fun _=>True) st):og (.lst xs) st K:=by unfold og;exact k
theorem e8{K:List D→(ag→Prop)→ag→Prop}(k:K xs (fun _=>True) st):og (.tup xs) st K:=by unfold og;exact k
theorem jz{K:List D→(ag→Prop)→ag→Prop}(h: -(2^62)≤j∧j<2^62)(k:K (d5 0 j.toNat) (fun _=>True) st):wg [.int j] st K:=by unfold wg;exact⟨h,k⟩
theorem Gv{K:List D→(ag→Prop)→ag→Prop}(h: -(2^62)≤i∧i<2^62∧ -(2^62)≤j∧j<2^62)(k:K (d5 i (j-i).toNat) (fun _=>True) st):wH [.int i,.int j] st K:=by unfold wH;exact⟨h,k⟩
theorem iu{K:ag→Prop}{m:Nat}(h:st[n]?=some (.lst xs))(e:kb xs.length i=some m)(k:K (st.set n (.lst (xs.set m d)))):xp (.ref n) (.int i) d st K:=by unfold xp Aw;simp only[h,e];exact k
end
end L3
namespace L3
open PySem L2
open PySem.Spec hiding items?
open PyProof.Rows hiding St
noncomputable def Cn(K:PySem.W.Frag):Bool:=K.all fun p=>p.2.cls != .type "list"
theorem sE{a:Addr}{o:Obj}:∀ {l:List (Addr×Obj)},l.lookup a=some o→(a,o)∈l
 | [],h=>by cases h
 |(b,u)::r,h=>by
  rw[List.lookup_cons]at h
  split at h
  · rename_i z
    cases h
    have:a=b:=by simpa using z
    subst this
    exact List.mem_cons_self
  · exact List.mem_cons_of_mem _ (sE h)
theorem vU{K:PySem.W.Frag}(h:Cn K=true){a:Addr}{o:Obj}(e:K.lookup a=some o):o.cls≠ .type "list":=by
 have:=List.all_eq_true.mp h (a,o) (sE e)
 simpa using this
theorem vA{α:List (Option Addr)}{G:Hp}:∀ns:List Int,aJ α G (ns.map D.int) (ns.map V.int)
 | []=>by unfold aJ;rfl
 |n::ns=>by
  rw[List.map_cons,List.map_cons]
  unfold aJ
  exact⟨_,_,rfl,by unfold Rep;rfl,vA ns⟩
end L3
namespace L3
open PySem L2
open PySem.Spec hiding items?
open PyProof.Rows hiding St
noncomputable def notStar:Expr→Bool
 | .Starred .. =>false
 |_=>true
theorem cL{e:Expr}{es:List Expr}{env:Env}(h:notStar e=true):starEach (e::es) env=(false,eval e env)::starEach es env:=by
 cases e<;>first|rfl|cases h
noncomputable def fF:List Expr→Bool
 | []=>true
 |e::es=>notStar e&&fF es
theorem jj{pos:Pos}{env:Env}:∀ {es:List Expr},fF es=true→(backTo pos (starEach es env)).any (·.1)=false
 | [],_=>rfl
 |e::es,h=>by
  unfold fF at h
  rw[Bool.and_eq_true]at h
  rw[cL h.1]
  have ih:=jj (pos:=pos) (env:=env) h.2
  unfold backTo at ih⊢
  rw[List.map_cons,List.any_cons,ih]
  rfl
noncomputable def ng:Expr→Bool
 | .Slice .. =>false
 |_=>true
noncomputable def qJ:Expr→Bool
 | .Name .. =>true
 | .Call .. =>true
 | .Subscript .. =>true
 | .Attribute .. =>true
 |_=>false
noncomputable def ku:Expr→Bool
 | .ListComp .. =>false
 | .SetComp .. =>false
 | .DictComp .. =>false
 |_=>true
section
variable {X:Cx}
theorem DY{b:Expr}(h:ng b=true):rk b:=by
 intro o i
 cases b<;>first|rfl|cases h
theorem AZ{e:Expr}(h:qJ e=true):∀whole,isTrue e X.env whole=(do let v ←whole;standAt e.pos;holding [v] (truthy v)):=by
 intro whole
 cases e<;>first|(cases h;done)|rfl
theorem uP{e:Expr}{tg:Option Expr}{n:Nat}{env:Env}(h:ku e=true):swapsWith e tg n env=pure false:=by
 cases e<;>first|(cases h;done)|rfl
theorem DJ{e:Expr}{es:List Expr}{te:DE}{tr:DA}(ha:PE X e (LE te))(hr:PA X es (LA tr))(hs:notStar e=true:=by rfl):PA X (e::es) (LA (af te tr)):=vf ha hr (cL hs)
theorem L0{e:Expr}{es:List Expr}{pos p:Pos}{x:Str}{id:String}{r:ft}{t:DA}(hc:bY X (.builtin id) (f_ r))(ha:PA X (e::es) (LA t))(hm:X.mg x=none)(hv:bootBuiltins x=some (.builtin id))(hn:x≠"__name__")(hdb:(x==("__debug__":Str))=false)(hg:Gl X x:=by rfl)(hs:notStar e=true:=by rfl)(hs2:fF es=true:=by rfl):
 PE X (.Call (.Name x p) (e::es) [] pos) (LE (bw r t)):=M9 hc ha hm hv hg hn hdb (cL hs) (jj hs2)
theorem K8{e:Expr}{es:List Expr}{pos p:Pos}{x:Str}{T:String}{r:ft}{t:DA}(hc:bY X (.type T) (f_ r))(ha:PA X (e::es) (LA t))(hm:X.mg x=none)(hv:bootBuiltins x=some (.type T))(hn:x≠"__name__")(hdb:(x==("__debug__":Str))=false)(hg:Gl X x:=by rfl)(hs:notStar e=true:=by rfl)(hs2:fF es=true:=by rfl):
 PE X (.Call (.Name x p) (e::es) [] pos) (LE (bw r t)):=M1 hc ha hm hv hg hn hdb (cL hs) (jj hs2)
theorem KZ{e:Expr}{es:List Expr}{pos p:Pos}{x qual:Str}{st:Stmt}{ps:List Str}{f:Addr}{fd:FuncData}{k:Nat}{S:cD}{t:DA}(A:bS X.K X.mg x qual st ps f fd)(F:bo X.prog X.w X.K X.mg X.base cE k f fd ps (cJ S))(hr:cT k X.A)
 (ha:PA X (e::es) (LA t)) (hdb:(x==("__debug__":Str))=false) (hg:Gl X x:=by rfl) (hs:notStar e=true:=by rfl) (hs2:fF es=true:=by rfl):
 PE X (.Call (.Name x p) (e::es) [] pos) (LE (aM S t)):=MY A F hr ha hg hdb (cL hs) (jj hs2)
theorem Lm{a b:Expr}{ta tb:DE}{pos:Pos}(ha:PE X a (LE ta))(hb:PE X b (LE tb))(hs:ng b=true:=by rfl):PE X (.Subscript a b pos) (LE (au aT ta tb)):=MU ha hb (DY hs)
theorem FI{e:Expr}{te:DE}(he:PE X e (LE te))(h:qJ e=true:=by rfl):PT X e (LT (a5 te)):=Jv he (AZ h)
theorem D8{e:Expr}{te:DE}{pos:Pos}(he:PE X e (LE te))(h:ku e=true:=by rfl):PS X (.Expr e pos) (LS (iQ te)):=GI he (uP h)
theorem FH{i:Nat}{x:Str}{e:Expr}{te:TE}{pos pos':Pos}(hN:X.N.Nodup)(hi:X.N[i]?=some x)(hx:Loc X.env.scope x)(he:PE X e te)(hf:X.fn x=true∨X.env.scope.names.lookup x=some .local:=by first|exact .inl rfl|exact .inr rfl)(h:ku e=true:=by rfl):
 PS X (.Assign [.Name x pos'] e pos) (nZ te (mf i)):=HF hN hi hx he (uP h) hf
theorem GW{i:Nat}{x:Str}{pos:Pos}(hd:(x==("__debug__":Str))=false)(hcd:(x==("__classdict__":Str))=false)(hv:xU X.env.scope x)(hN:X.N[i]?=some x:=by rfl):PE X (.Name x pos) (LE (ae i)):=Lg (Jt hN hv hd hcd)
theorem HS{o i e:Expr}{to ti te:TE}{pos pos':Pos}(he:PE X e te)(ho:PE X o to)(hi:PE X i ti)(h1:ku e=true:=by rfl)(h2:ng i=true:=by rfl):PS X (.Assign [.Subscript o i pos'] e pos) (nZ te (z8 to ti wq)):=
 Bx he (Ik ho hi set_list (by intro v;cases i<;>first|rfl|cases h2)) (by unfold swapsWithSole;exact uP h1) (by cases e<;>rfl) rfl
end
end L3
namespace L3
open PySem L2
open PySem.Spec hiding items?
open PyProof.Rows hiding St
@[irreducible] noncomputable def JE(X:Cx)(e:Expr)(t:DE):Prop:=PE X e (LE t)
@[irreducible] noncomputable def JT(X:Cx)(e:Expr)(t:DT):Prop:=PT X e (LT t)
@[irreducible] noncomputable def JW(X:Cx)(e:Expr)(t:DT):Prop:=PW X e (LT t)
@[irreducible] noncomputable def JA(X:Cx)(es:List Expr)(t:DA):Prop:=PA X es (LA t)
@[irreducible] noncomputable def JS(X:Cx)(s:Stmt)(t:DS):Prop:=PS X s (LS t)
@[irreducible] noncomputable def JB(X:Cx)(s:List Stmt)(t:DS):Prop:=gv X s (LS t)
@[irreducible] noncomputable def JG(X:Cx)(e:Expr)(t:fB):Prop:=PG X e (LG t)
@[irreducible] noncomputable def JI(X:Cx)(tg e:Expr)(t:DI):Prop:=PI X tg e (LI t)
@[irreducible] noncomputable def JC(X:Cx)(es:List Expr)(t:DT):Prop:=qh X es (LT t)
section
variable {X:Cx}{a b c e o i:Expr}{es:List Expr}{ta tb tc te to ti:DE}{t u:DT}{ar:DA}{pos p pos':Pos}{s:Stmt}{ss:List Stmt}{T U:DS}
theorem CD{n:Nat}{x:Str}(hd:(x==("__debug__":Str))=false)(hcd:(x==("__classdict__":Str))=false)(hv:xU X.env.scope x)(hN:X.N[n]?=some x:=by rfl):JE X (.Name x pos) (ae n):=by unfold JE;exact GW hd hcd hv hN
theorem j8{x:Str}{T:String}(hm:X.mg x=none)(hv:bootBuiltins x=some (.type T))(hn:x≠"__name__")(hdb:(x==("__debug__":Str))=false)(hg:Gl X x):JE X (.Name x pos) (dC (.ty T)):=by unfold JE;exact MX hm hv hg hn hdb
theorem ao{k:Int}{j:Nat}:JE X (.Constant (.int k) j pos) (dC (.int k)):=by unfold JE;exact LL
theorem ip{k:Bool}{j:Nat}:JE X (.Constant (.bool k) j pos) (dC (.bl k)):=by unfold JE;exact ML
theorem rD{k:Str}{j:Nat}:JE X (.Constant (.str k) j pos) (dC (.str k)):=by unfold JE;exact K0
theorem EI{j:Nat}:JE X (.Constant .none j pos) (dC .aG):=by unfold JE;exact Lz
theorem aQ{op:Operator}{r:dN}(ho:cm X (binaryOp op) (LR r))(ha:JE X a ta)(hb:JE X b tb):JE X (.BinOp a op b pos) (au r ta tb):=by unfold JE at*;exact MN ho ha hb
theorem jG(ha:JE X a ta):JE X (.UnaryOp .USub a pos) (nz iZ ta):=by unfold JE at*;exact MM KJ ha
theorem Fw(ha:JE X a ta):JE X (.UnaryOp .Not a pos) (uv (a5 ta)):=by unfold JE at*;exact Ku ha
theorem we{op:BoolOp}(ha:JE X a ta):JE X (.BoolOp op [a] pos) ta:=by unfold JE at*;exact LB ha
theorem AM(ha:JE X a ta)(hb:JE X (.BoolOp .And (b::es) pos) tb):JE X (.BoolOp .And (a::b::es) pos) (rN ta tb):=by unfold JE at*;exact KS ha hb
theorem MR(ha:JE X a ta)(hb:JE X (.BoolOp .Or (b::es) pos) tb):JE X (.BoolOp .Or (a::b::es) pos) (Dt ta tb):=by unfold JE at*;exact Na ha hb
theorem nK{op:CmpOp}{r:dN}(ho:cm X (compareOp op) (LR r))(hm:behindInMarks op b=false)(ha:JE X a ta)(hb:JE X b tb):JE X (.Compare a [op] [b] pos) (au r ta tb):=by unfold JE at*;exact Lp ho ha hb hm
theorem KW(hc:JT X c t)(ha:JE X a ta)(hb:JE X b tb):JE X (.IfExp c a b pos) (IA t ta tb):=by unfold JE at*;unfold JT at hc;exact KO hc ha hb
theorem fy{n:Nat}(h:JA X es ar):JE X (.Tuple es n pos) (gg ar):=by unfold JE;unfold JA at h;exact Kq h
theorem lY(h:JA X es ar):JE X (.List es pos) (nc ar):=by unfold JE;unfold JA at h;exact Lr h
theorem wC(h:JA X es ar):JE X (.List es pos) (uY ar):=by unfold JE;unfold JA at h;exact Kp h
theorem aj:JA X [] ak:=by unfold JA;exact xy
theorem aa(ha:JE X e te)(hr:JA X es ar)(hs:notStar e=true:=by rfl):JA X (e::es) (af te ar):=by unfold JA at*;unfold JE at ha;exact DJ ha hr hs
theorem aK(ha:JE X a ta)(hb:JE X b tb)(hs:ng b=true:=by rfl):JE X (.Subscript a b pos) (au aT ta tb):=by unfold JE at*;exact Lm ha hb hs
theorem cv{x:Str}{id:String}{r:ft}(hc:bY X (.builtin id) (f_ r))(ha:JA X (e::es) ar)(hm:X.mg x=none)(hv:bootBuiltins x=some (.builtin id))(hn:x≠"__name__")(hdb:(x==("__debug__":Str))=false)(hg:Gl X x)(hs:notStar e=true:=by rfl)(hs2:fF es=true:=by rfl):JE X (.Call (.Name x p) (e::es) [] pos) (bw r ar):=by
 unfold JE;unfold JA at ha;exact L0 hc ha hm hv hn hdb hg hs hs2
theorem et{x:Str}{T:String}{r:ft}(hc:bY X (.type T) (f_ r))(ha:JA X (e::es) ar)(hm:X.mg x=none)(hv:bootBuiltins x=some (.type T))(hn:x≠"__name__")(hdb:(x==("__debug__":Str))=false)(hg:Gl X x)(hs:notStar e=true:=by rfl)(hs2:fF es=true:=by rfl):JE X (.Call (.Name x p) (e::es) [] pos) (bw r ar):=by
 unfold JE;unfold JA at ha;exact K8 hc ha hm hv hn hdb hg hs hs2
theorem a_{x qual:Str}{st:Stmt}{ps:List Str}{f:Addr}{fd:FuncData}{k:Nat}{S:cD}(A:bS X.K X.mg x qual st ps f fd)(F:bo X.prog X.w X.K X.mg X.base cE k f fd ps (cJ S))(hr:cT k X.A)(ha:JA X (e::es) ar)(hdb:(x==("__debug__":Str))=false)(hg:Gl X x)(hs:notStar e=true:=by rfl)(hs2:fF es=true:=by rfl):
 JE X (.Call (.Name x p) (e::es) [] pos) (aM S ar):=by unfold JE;unfold JA at ha;exact KZ A F hr ha hdb hg hs hs2
theorem Dh{apos cpos:Pos}(ho:JE X o to)(he:JE X e te)(hbase:attributeBase o "append" X.env (eval o X.env)=eval o X.env:=by rfl)(hline:(apos.endLine==cpos.line)=true:=by rfl)(hs:notStar e=true:=by rfl):JE X (.Call (.Attribute o "append" apos) [e] [] cpos) (oH to te):=by
 unfold JE at*
 refine D9 ho he hbase ?_ hline (cL hs) rfl
 rw[cL hs]
 rfl
theorem bV{op:CmpOp}{r:dN}(ho:cm X (compareOp op) (LR r))(hm:behindInMarks op b=false)(ha:JE X a ta)(hb:JE X b tb):JT X (.Compare a [op] [b] pos) (a5 (au r ta tb)):=by unfold JE at*;unfold JT;exact Io ho ha hb hm
theorem gL(ha:JT X a t):JT X (.UnaryOp .Not a pos) (ib t):=by unfold JT at*;exact Kb ha
theorem fg(he:JE X e te)(h:qJ e=true:=by rfl):JT X e (a5 te):=by unfold JT;unfold JE at he;exact FI he h
theorem oF(ha:JT X a t):JW X (.BoolOp .And [a] pos) t:=by unfold JW;unfold JT at ha;exact Gb ha
theorem j5(ha:JT X a t):JW X (.BoolOp .Or [a] pos) t:=by unfold JW;unfold JT at ha;exact Iw ha
theorem qu(ha:JT X a t)(hb:JW X (.BoolOp .And (b::es) pos) u):JW X (.BoolOp .And (a::b::es) pos) (nH t u):=by unfold JW at*;unfold JT at ha;exact I_ ha hb
theorem jW(ha:JT X a t)(hb:JW X (.BoolOp .Or (b::es) pos) u):JW X (.BoolOp .Or (a::b::es) pos) (jY t u):=by unfold JW at*;unfold JT at ha;exact Li ha hb
theorem hZ(h:JW X e t):JT X e t:=by unfold JT;unfold JW at h;exact PW.pt h
theorem dZ{l tg:Expr}(hl:JE X l ta):JI X tg l (dA ta):=by unfold JI;unfold JE at hl;exact Js hl
theorem iG{tg:Expr}(hg:Gl X "range")(hm:X.mg "range"=none)(ha:JA X [a] ar)(hs:notStar a=true:=by rfl):JI X tg (.Call (.Name "range" p) [a] [] pos) (gq ar):=by unfold JI;unfold JA at ha;exact BJ (Cp hg hm ha (cL hs))
theorem Dp{tg:Expr}(hg:Gl X "range")(hm:X.mg "range"=none)(ha:JA X [a,b] ar)(hs:notStar a=true:=by rfl)(hs2:notStar b=true:=by rfl):JI X tg (.Call (.Name "range" p) [a,b] [] pos) (rp ar):=by unfold JI;unfold JA at ha;exact BF (CH hg hm ha (by rw[cL hs,cL hs2];rfl) (cL hs2))
theorem dH{k:Nat}{x:Str}(hN:X.N.Nodup)(hx:Loc X.env.scope x)(hf:X.fn x=true∨X.env.scope.names.lookup x=some .local)(hi:X.N[k]?=some x:=by rfl):JG X (.Name x pos) (bL k):=by unfold JG;exact GD (u3 hN hi hx hf)
theorem iL{k j n:Nat}{x y:Str}{px py:Pos}(hc:X.calm=true)(hN:X.N.Nodup)(hx:Loc X.env.scope x)(hf:X.fn x=true∨X.env.scope.names.lookup x=some .local)(hy:Loc X.env.scope y)(hg:X.fn y=true∨X.env.scope.names.lookup y=some .local)(hi:X.N[k]?=some x:=by rfl)(hj:X.N[j]?=some y:=by rfl):
 JG X (.Tuple [.Name x px,.Name y py] n pos) (fz k j):=by unfold JG;exact Ip (IS hc (xl (u3 hN hi hx hf) (xl (u3 hN hj hy hg) F8)))
theorem ck:JC X [] cq:=by unfold JC;exact El
theorem JK(h:JT X c t):JC X [c] t:=by unfold JC;unfold JT at h;exact IX h
theorem dS{scope:Scope}{Nc:List Str}{elt tg iter:Expr}{ifs:List Expr}{src:DI}{fr:List (Option Nat)}{dtg:fB}(S:ba X scope Nc fr)(hi:JI X tg iter src)(hg:∀C s H ex,JG (fu X scope Nc C s H ex) tg dtg)(ht:∀C s H ex,JC (fu X scope Nc C s H ex) ifs t)(he:∀C s H ex,JE (fu X scope Nc C s H ex) elt te)(fit:se fr dtg)
 (hx:X.xe=fun _ _=>False:=by rfl) (hc:X.calm=true:=by rfl) (hs:∀x,foldedSetIterable iter X.env x=pure x:=by intro _;rfl):JE X (.ListComp elt [⟨tg,iter,ifs,0⟩] scope pos) (c5 src fr dtg t te):=by
 unfold JE JI JG JC at*;exact Jp S hi hg ht he fit hx hc hs
theorem vd{scope:Scope}{Nc:List Str}{elt tg iter:Expr}{ifs:List Expr}{src:DI}{fr:List (Option Nat)}{dtg:fB}(S:ba X scope Nc fr)(hi:JI X tg iter src)(hg:∀C s H ex,JG (fu X scope Nc C s H ex) tg dtg)(ht:∀C s H ex,JC (fu X scope Nc C s H ex) ifs t)(he:∀C s H ex,JE (fu X scope Nc C s H ex) elt te)(fit:se fr dtg)
 (hx:X.xe=fun _ _=>False:=by rfl) (hc:X.calm=true:=by rfl) (hs:∀x,foldedSetIterable iter X.env x=pure x:=by intro _;rfl):JE X (.ListComp elt [⟨tg,iter,ifs,0⟩] scope pos) (qi src fr dtg t te):=by
 unfold JE JI JG JC at*;exact Gj S hi hg ht he fit hx hc hs
theorem cB:JB X [] cN:=by unfold JB;exact GJ
theorem aB(h:JS X s T):JB X [s] T:=by unfold JB;unfold JS at h;exact Hl h
theorem av(h:JS X s T)(h2:JB X ss U):JB X (s::ss) (aF T U):=by unfold JB at*;unfold JS at h;exact Dj h h2
theorem aV(h:JE X e te):JS X (.Return (some e) pos) (bD te):=by unfold JS;unfold JE at h;exact Kn h
theorem gS(h:JE X e te)(hc:ku e=true:=by rfl):JS X (.Expr e pos) (iQ te):=by unfold JS;unfold JE at h;exact D8 h hc
theorem cV{x y:List Stmt}(hc:JT X c t)(ha:JB X x T)(hb:JB X y U):JS X (.If c x y pos) (dz t T U):=by unfold JS;unfold JB at*;unfold JT at hc;exact Kx hc ha hb
theorem tI{x:List Stmt}(hc:JT X c t)(hb:JB X x T)(hx:X.xe=fun _ _=>False:=by rfl):JS X (.While c x [] pos) (qo t T):=by unfold JS;unfold JB at hb;unfold JT at hc;exact D5 (D0 (by rw[hx];exact PassesOwn.never) hc hb)
theorem gc{tg iter:Expr}{x:List Stmt}{src:DI}{dtg:fB}(hi:JI X tg iter src)(hg:JG X tg dtg)(hb:JB X x T)(hx:X.xe=fun _ _=>False:=by rfl)(hc:X.calm=true:=by rfl)(hs:∀x,foldedSetIterable iter X.env x=pure x:=by intro _;rfl):JS X (.For tg iter x [] pos) (iA src dtg T):=by
 unfold JS;unfold JI at hi;unfold JG at hg;unfold JB at hb;exact Jc (IT (by rw[hx];exact PassesOwn.never) hc hi hg hb hs)
theorem aO{k:Nat}{x:Str}(hN:X.N.Nodup)(hx:Loc X.env.scope x)(he:JE X e te)(hf:X.fn x=true∨X.env.scope.names.lookup x=some .local:=by first|exact .inl rfl|exact .inr rfl)(h:ku e=true:=by rfl)(hi:X.N[k]?=some x:=by rfl):JS X (.Assign [.Name x pos'] e pos) (a8 k te):=by
 unfold JS;unfold JE at he;exact HU (FH hN hi hx he hf h)
theorem mz{scope:Scope}{Nc:List Str}{elt tg iter:Expr}{ifs:List Expr}{src:DI}{fr:List (Option Nat)}{dtg:fB}{k:Nat}{x:Str}(hN:X.N.Nodup)(hl:Loc X.env.scope x)(S:ba X scope Nc fr)(hi:JI X tg iter src)(hg:∀C s H ex,JG (fu X scope Nc C s H ex) tg dtg)(ht:∀C s H ex,JC (fu X scope Nc C s H ex) ifs t)(he:∀C s H ex,JE (fu X scope Nc C s H ex) elt te)(fit:se fr dtg)
 (hf:X.fn x=true∨X.env.scope.names.lookup x=some .local:=by first|exact .inl rfl|exact .inr rfl) (hsw:swapsWith (.ListComp elt [⟨tg,iter,ifs,0⟩] scope p) (some (.Name x pos')) pos.line X.env=pure true:=by rfl) (hni:X.N[k]?=some x:=by rfl) (hx:X.xe=fun _ _=>False:=by rfl) (hc:X.calm=true:=by rfl) (hs:∀x,foldedSetIterable iter X.env x=pure x:=by intro _;rfl):
 JS X (.Assign [.Name x pos'] (.ListComp elt [⟨tg,iter,ifs,0⟩] scope p) pos) (a8 k (c5 src fr dtg t te)):=by
 unfold JS;unfold JE JI JG JC at*;exact Gi fit (GP hx hc S hi hg ht he hN hni hl hf hsw hs)
theorem d8(he:JE X e te)(ho:JE X o to)(hi:JE X i ti)(h1:ku e=true:=by rfl)(h2:ng i=true:=by rfl):JS X (.Assign [.Subscript o i pos'] e pos) (eS to ti te):=by unfold JS;unfold JE at*;exact DQ (HS he ho hi h1 h2)
theorem HA{k:Nat}{x:Str}{op:Operator}{f:Int→Int→Int}(hN:X.N.Nodup)(hx:Loc X.env.scope x)(he:JE X e te)(ho:JV X op (Kg f))(hf:X.fn x=true∨X.env.scope.names.lookup x=some .local:=by first|exact .inl rfl|exact .inr rfl)(hi:X.N[k]?=some x:=by rfl):JS X (.AugAssign (.Name x pos') op e pos) (Al k (yb f) te):=by
 unfold JS;unfold JE at he;exact Il (Kj hN hi hx he ho hf)
theorem Cy{k j kt k2:Nat}{x y:Str}{px py pt pt2:Pos}(hN:X.N.Nodup)(hij:k≠j)(hx:X.env.scope.names.lookup x=some .local)(hy:X.env.scope.names.lookup y=some .local)(ha:JA X [a,b] ar)
 (hw:swappedStores [.Tuple [.Name x px,.Name y py] kt pt] (.Tuple [a,b] k2 pt2) X.env=pure (some [x,y]):=by rfl) (hc:X.calm=true:=by rfl) (hi:X.N[k]?=some x:=by rfl) (hj:X.N[j]?=some y:=by rfl) (hs:swapsWithSole [.Tuple [.Name x px,.Name y py] kt pt] (.Tuple [a,b] k2 pt2) pos.line X.env=pure false:=by rfl):
 JS X (.Assign [.Tuple [.Name x px,.Name y py] kt pt] (.Tuple [a,b] k2 pt2) pos) (AB k j ar):=by unfold JS;unfold JA at ha;exact HR (Jw hc hN hi hj hij hx hy ha hw hs)
theorem xf{tg:Expr}{dtg:fB}(he:JE X e te)(hg:JG X tg dtg)(hs:swapsWithSole [tg] e pos.line X.env=pure false:=by rfl)(hw:swappedStores [tg] e X.env=pure none:=by rfl)(h1:(assignEach [tg] X.env).map (·.2)=[assign tg X.env]:=by rfl):JS X (.Assign [tg] e pos) (yc dtg te):=by
 unfold JS;unfold JE at he;unfold JG at hg;exact IM (Bx he hg hs hw h1)
end
theorem bW{P:Program}{w:World}{K:PySem.W.Frag}{mg:Str→Option Value}{base:Heap}{x qual:Str}{st:Stmt}{f:Addr}{fd:FuncData}{N ps:List Str}{k:Nat}{sp:cD}{t:DS}(F:mZ K x qual st f fd)(S:aS N ps (ai st))
 (hbody:∀(cdv:Value) (A:Around) (outer:List Env) (s:Shared) (H:Hp) (E:XK),cT k (A.deeper (envOfC qual (ai st) s.heap.objs.size f cdv))→JB (pK cE P w K mg base N qual (ai st) f cdv A outer s H E).uB (gf st) t)
 (hsp:∀ds st K,sp ds st K→ds.length=ps.length∧t {nx:=fun _ st'=>K .aG st',rt:=K} (a7 N ds) st):bo P w K mg base cE (k+1) f fd ps (cJ sp):=by
 unfold JB at hbody;exact KN F S hbody hsp
end L3
namespace HT
open PySem PyProof.Rows
section
variable {prog:Program}{w:World}{A:Around}{E:Value→Shared→Prop}{s:Shared}
theorem pW{t sl:Addr}{items:Array Value}{vl vu:Value}{lo hi:Option Int}{Q:Value→Shared→Prop}(ht:IsTup s.heap t items)(hs:s.heap.IsSliceOf sl vl vu .none)(pl:IsPart vl lo)(pu:IsPart vu hi)
 (hw:bK items.size 0 lo=0∧bK items.size items.size hi=items.size) (h:Q (.ref t) s):wpAny (model prog w) A (getItem (.ref t) (.ref sl)) Q E s:=by
 obtain⟨os,hos,hcs,hds⟩:=id hs
 have hTs:s.TypeIs (.ref sl) "slice":=⟨os,hos,hcs⟩
 unfold getItem
 try with_reducible refine wpAny_holding ?_
 first|refine wpAny_bind (wpAny_pure ?_)|skip
 refine wpAny_bind (wpAny_sequenceKey ht.typeIs (by decide) ?_)
 refine wpAny_bind (wpAny_callSpecial?_slot (name:=Str.ofString "__getitem__") ht.typeIs PyProof.Rows.slot_tuple_getitem
  (wpAny_call_entry PyProof.Rows.slot_tuple_getitem ht.typeIs entry_tuple_getitem ?_ (args_tuple_getitem _ _)))
 show wpAny _ _ (Builtin.Tuple.tupleItemsOf (.ref t) >>= _) _ _ s
 refine wpAny_bind (tupleItemsOf_ ht ?_)
 refine wpAny_bind (wpAny_typeOf hTs ?_)
 rw[if_pos (by decide)]
 refine wpAny_bind (mP hs pl pu ?_)
 have hyes:(((bK items.size 0 lo:Nat):Int)==0&&(1:Int)==1&&(bK items.size items.size hi-bK items.size 0 lo)==items.size)=true:=by
  rw[hw.1,hw.2]
  simp
 show wpAny _ _ (if(((bK items.size 0 lo:Nat):Int)==0&&(1:Int)==1&&(bK items.size items.size hi-bK items.size 0 lo)==items.size)=true then _ else _) _ _ s
 rw[if_pos hyes]
 refine wpAny_bind ?_
 unfold Builtin.Tuple.tupleIsExact
 exact wpAny_bind (wpAny_typeOf ht.typeIs (wpAny_pure (wpAny_bind (wpAny_rule (wpAny_pure ⟨_,rfl,wpAny_pure h⟩)))))
end
end HT
namespace L3
open PySem L2
open PySem.Spec hiding items?
open PyProof.Rows hiding St
noncomputable abbrev DO:=cj→ag→(Option Int→ag→Prop)→Prop
noncomputable def kE:DO:=fun _ st K=>K none st
noncomputable def o4(t:DE):DO:=fun σ st K=>t σ st fun d st1=>match d with| .int i=>K (some i) st1|_=>False
noncomputable def cutD(xs:List D)(lo hi:Option Int):List D:=(xs.drop (HT.bK xs.length 0 lo)).take (HT.bK xs.length xs.length hi-HT.bK xs.length 0 lo)
noncomputable def xh(d:D)(lo hi:Option Int)(st:ag)(K:DK):Prop:=match d with
 | .lst xs=>K (.lst (cutD xs lo hi)) st
 | .tup xs=>K (.tup (cutD xs lo hi)) st
 | .ref n=>(match st[n]? with|some (.lst xs)=>K (.lst (cutD xs lo hi)) st|_=>False)
 |_=>False
@[irreducible] noncomputable def jH:D→Option Int→Option Int→ag→DK→Prop:=xh
noncomputable def ni(t:DE)(lo hi:DO):DE:=fun σ st K=>t σ st fun d st1=>lo σ st1 fun l st2=>hi σ st2 fun u st3=>jH d l u st3 K
theorem sU{α:List (Option Addr)}{G:Hp}{xs:List D}{vs:List V}{lo hi:Option Int}(r:aJ α G xs vs):aJ α G (cutD xs lo hi) (pf vs lo hi):=by
 unfold cutD pf
 rw[←r.length]
 exact bf.mpr (r9 _ (sf _ (bf.mp r)))
noncomputable def NB(α:List (Option Addr))(G F:Hp)(K:Option Int→ag→Prop)(Q:Option Int→Hp→Prop):Prop:=∀o st',K o st'→∀α' G' H',Step α G α' G'→bZ G' F H'→aU α' st' G'→Q o H'
inductive Mv(t:DO)(σ:L2.St)(H:Hp)(Q:Option Int→Hp→Prop):Prop
 |mk (α:List (Option Addr)) (σd:cj) (st:ag) (K:Option Int→ag→Prop) (G F:Hp) (P:bZ G F H) (R:dX α G σd σ) (S:aU α st G) (h:t σd st K) (k:NB α G F K Q):Mv t σ H Q
noncomputable def LO(t:DO):TO:=Mv t
section
variable {X:Cx}
theorem PO.imp{e:Option Expr}{t t':TO}(h:PO X e t)(f:∀σ H Q,t' σ H Q→t σ H Q):PO X e t':=fun pins s σ H Q I q=>h pins s σ H Q I (f σ H Q q)
theorem GV:PO X none (LO kE):=PO.imp GH fun σ H Q ⟨α,σd,st,K,G,F,P,R,S,t,k⟩=>k none st t α G H Step.refl P S
theorem Gh{e:Expr}{te:DE}(h:PE X e (LE te)):PO X (some e) (LO (o4 te)):=PO.imp (Hb h) fun σ H Q ⟨α,σd,st,K,G,F,P,R,S,t,k⟩=>by
 refine⟨α,σd,st,_,G,F,P,R,S,t,fun d st1 q α1 G1 H1 v s1 P1 S1 r1=>?_⟩
 cases d<;>try exact q.elim
 unfold Rep at r1
 exact⟨_,r1,k _ st1 q α1 G1 H1 s1 P1 S1⟩
noncomputable def Nk(x:V)(lo hi:Option Int)(H:Hp)(Q:VK):Prop:=∃α d st K G F,bZ G F H∧Rep α G d x∧aU α st G∧jH d lo hi st K∧LK α G F K Q
theorem GU:C1 X (fun x lo hi H Q=>∃a xs,x= .ref a∧H a=some (.tup xs)∧((HT.bK xs.length 0 lo=0∧HT.bK xs.length xs.length hi=xs.length)→Q (.ref a) H)∧(¬(HT.bK xs.length 0 lo=0∧HT.bK xs.length xs.length hi=xs.length)→∀p,H p=none→Q (.ref p) (upd H p (.tup (pf xs lo hi))))):=by
 intro pins s σ H x v vl vu lo hi sl Q I rx hs pl pu h
 obtain⟨a,xs,rfl,hx,q1,q2⟩:=h
 by_cases hw:HT.bK xs.length 0 lo=0∧HT.bK xs.length xs.length hi=xs.length
 · cases rx
   obtain⟨aq,r,ht,hz⟩:=I.tuple (iE.of hx)
   have hlen:aq.toArray.size=xs.length:=by rw[List.size_toArray];exact r.length.symm
   exact⟨"tuple",_,PyProof.Rows.slot_tuple_getitem.lookup,ht.typeIs,HT.pW ht hs pl pu (by rw[hlen];exact hw) ⟨.ref a,H,I,rfl,q1 hw⟩⟩
 · exact HM pins s σ H _ v vl vu lo hi sl Q I rx hs pl pu ⟨a,xs,rfl,.of hx,hw,q2 hw⟩
theorem Cc{xs:List D}{lo hi:Option Int}(hw:HT.bK xs.length 0 lo=0∧HT.bK xs.length xs.length hi=xs.length):cutD xs lo hi=xs:=by
 unfold cutD
 rw[hw.1,hw.2]
 simp
theorem Ib:C1 X Nk:=by
 intro pins s σ H x v vl vu lo hi sl Q I rx hs pl pu ⟨α,d,st,K,G,F',P,r1,S,q,k⟩
 unfold jH xh at q
 cases d<;>try exact q.elim
 · rename_i n
   simp only at q
   split at q
   · rename_i xs e
     obtain⟨a,ea,vs,h1,h2⟩:=S.jg e
     have r1':=eQ ea r1
     subst r1'
     exact zm pins s σ H _ v vl vu lo hi sl Q I rx hs pl pu ⟨a,vs,rfl,.inl (.of (P.get h1)),fun p hp=>k.lst P q S (sU h2) hp⟩
   · exact q.elim
 · unfold Rep at r1
   obtain⟨a,vs,rfl,na,ha,ra⟩:=r1
   exact zm pins s σ H _ v vl vu lo hi sl Q I rx hs pl pu ⟨a,vs,rfl,.inl (fM P ha),fun p hp=>k.lst P q S (sU ra) hp⟩
 · rename_i xs
   have r0:=r1
   unfold Rep at r1
   obtain⟨a,vs,rfl,na,ha,ra⟩:=r1
   refine GU pins s σ H _ v vl vu lo hi sl Q I rx hs pl pu ⟨a,vs,rfl,P.get ha,fun hw=>?_,fun _ p hp=>k.tup P q S (sU ra) hp⟩
   rw[←ra.length]at hw
   simp only at q
   rw[Cc hw]at q
   exact k.here P q S r0
theorem Gw{e:Expr}{lo hi:Option Expr}{te:DE}{tl th:DO}{p2 pos:Pos}(he:PE X e (LE te))(hl:PO X lo (LO tl))(hh:PO X hi (LO th)):PE X (.Subscript e (.Slice lo hi none p2) pos) (LE (ni te tl th)):=PE.imp (EF Ib he hl hh) fun σ H Q ⟨α,σd,st,K,G,F,P,R,S,t,k⟩=>by
 refine⟨α,σd,st,_,G,F,P,R,S,t,fun d st1 q α1 G1 H1 v s1 P1 S1 r1=>?_⟩
 refine⟨α1,σd,st1,_,G1,F,P1,R.step s1,S1,q,fun l st2 q2 α2 G2 H2 s2 P2 S2=>?_⟩
 refine⟨α2,σd,st2,_,G2,F,P2,(R.step s1).step s2,S2,q2,fun u st3 q3 α3 G3 H3 s3 P3 S3=>?_⟩
 exact⟨α3,d,st3,K,G3,F,P3,(r1.step s2).step s3,S3,q3,((k.at s1).at s2).at s3⟩
@[irreducible] noncomputable def JO(X:Cx)(e:Option Expr)(t:DO):Prop:=PO X e (LO t)
theorem oR:JO X none kE:=by unfold JO;exact GV
theorem ot{e:Expr}{te:DE}(h:JE X e te):JO X (some e) (o4 te):=by unfold JO;unfold JE at h;exact Gh h
theorem oo{e:Expr}{lo hi:Option Expr}{te:DE}{tl th:DO}{p2 pos:Pos}(he:JE X e te)(hl:JO X lo tl)(hh:JO X hi th):JE X (.Subscript e (.Slice lo hi none p2) pos) (ni te tl th):=by unfold JE at*;unfold JO at*;exact Gw he hl hh
end
theorem qM{st:ag}{K:DK}{xs:List D}{lo hi:Option Int}(k:K (.lst (cutD xs lo hi)) st):jH (.lst xs) lo hi st K:=by unfold jH;exact k
theorem Bf{st:ag}{K:DK}{xs:List D}{lo hi:Option Int}(k:K (.tup (cutD xs lo hi)) st):jH (.tup xs) lo hi st K:=by unfold jH;exact k
theorem BV{st:ag}{K:DK}{xs:List D}{lo hi:Option Int}{n:Nat}(h:st[n]?=some (.lst xs))(k:K (.lst (cutD xs lo hi)) st):jH (.ref n) lo hi st K:=by unfold jH xh;simp only[h];exact k
end L3
namespace L3
open PySem L2
open PySem.Spec hiding items?
open PyProof.Rows hiding St
section
variable {prog:Program}{w:World}{A:Around}{E:Value→Shared→Prop}{s:Shared}
theorem AA{iT tp:Addr}{n:Nat}{aq:Array Value}{v:Value}{Q:Value→Shared→Prop}(hI:s.heap.IsTupleIter iT tp n)(hT:s.heap.IsTuple tp aq)(hv:aq[n]?=some v)
 (q:∀g,g.IsTupleIter iT tp (n+1)→Heap.SameBut iT s.heap g→Q v {s with heap:=g}):wpAny (model prog w) A (Builtin.SmallTypes.nextOf (.ref iT)) Q E s:=by
 obtain⟨oI,eI,cI,dI⟩:=id hI
 obtain⟨oT,eT,_,nT,dT⟩:=hT
 unfold Builtin.SmallTypes.nextOf
 refine wpAny_bind (wpAny_callSpecial?_slot (name:=Str.ofString "__next__") hI.typeIs F.slot_tuple_iterator_next (wpAny_call_entry F.slot_tuple_iterator_next hI.typeIs F.entry_tuple_iterator_next ?_ (F.args_tuple_iterator_next_1 _)))
 show wpAny _ _ (field (.ref iT) 0 >>= _) _ _ s
 refine wpAny_bind (wpAny_field eI dI (x:= .ref tp) rfl ?_)
 show wpAny _ _ (if(Value.ref tp==Value.none)=true then _ else _) _ _ s
 rw[if_neg (show¬((Value.ref tp==Value.none)=true)from Bool.false_ne_true)]
 show wpAny _ _ (field (.ref iT) 1 >>= _) _ _ s
 refine wpAny_bind (wpAny_field eI dI (x:= .int n 0) rfl ?_)
 show wpAny _ _ (seqItems? (.ref tp) >>= _) _ _ s
 refine wpAny_bind (wpAny_seqItems eT dT ?_)
 simp only[Int.toNat_natCast,hv]
 refine wpAny_bind (wpAny_setField eI dI (by simp) (wpAny_pure ⟨v,rfl,wpAny_pure (q _ ?_ (Heap.SameBut.update ..))⟩))
 refine⟨_,Heap.get?_update_self _ eI (Obj.isFreed_of_fields (Obj.data_mapFields dI _)),(Obj.cls_mapFields ..).trans cI,?_⟩
 rw[Obj.data_mapFields dI]
 simp[rawInt]
theorem CL{iT tp:Addr}{n:Nat}{aq:Array Value}{Q:Value→Shared→Prop}(hh:A.handled=none)(hI:s.heap.IsTupleIter iT tp n)(hT:s.heap.IsTuple tp aq)(hv:aq[n]?=none)
 (q:∀g e,Heap.ExtBut iT s.heap g→(∃o,g.get? e=some o∧o.cls= .type "StopIteration")→E (.ref e) {s with heap:=g}):wpAny (model prog w) A (Builtin.SmallTypes.nextOf (.ref iT)) Q E s:=by
 obtain⟨oI,eI,cI,dI⟩:=id hI
 obtain⟨oT,eT,_,nT,dT⟩:=hT
 unfold Builtin.SmallTypes.nextOf
 refine wpAny_bind (wpAny_callSpecial?_slot (name:=Str.ofString "__next__") hI.typeIs F.slot_tuple_iterator_next (wpAny_call_entry F.slot_tuple_iterator_next hI.typeIs F.entry_tuple_iterator_next ?_ (F.args_tuple_iterator_next_1 _)))
 show wpAny _ _ (field (.ref iT) 0 >>= _) _ _ s
 refine wpAny_bind (wpAny_field eI dI (x:= .ref tp) rfl ?_)
 show wpAny _ _ (if(Value.ref tp==Value.none)=true then _ else _) _ _ s
 rw[if_neg (show¬((Value.ref tp==Value.none)=true)from Bool.false_ne_true)]
 show wpAny _ _ (field (.ref iT) 1 >>= _) _ _ s
 refine wpAny_bind (wpAny_field eI dI (x:= .int n 0) rfl ?_)
 show wpAny _ _ (seqItems? (.ref tp) >>= _) _ _ s
 refine wpAny_bind (wpAny_seqItems eT dT ?_)
 simp only[Int.toNat_natCast,hv]
 refine wpAny_bind (wpAny_rule (wpAny_bind (wpAny_setField eI dI (by simp) ?_)))
 show wpAny _ _ (newExc (.type "StopIteration") [] >>= _) _ _ _
 refine wpAny_bind ?_
 simp only[newExc,newTuple]
 refine wpAny_bind (wpAny_newObj_type ?_ (by size_fits))
 refine wpAny_bind (m:=firstArgMember _ _) (wpAny_of_eq (a:=Value.none) (by first|rfl|(simp only[firstArgMember];rfl)) ?_)
 refine wpAny_newObj_type ?_ (by size_fits)
 simp only[raiseNew]
 refine wpAny_bind (wpAny_handled ?_)
 first|rw[show A.in1.handled=none from hh]|rw[hh]
 refine wpAny_bind (wpAny_pure (wpAny_throw ?_))
 exact q _ _ (((Heap.SameBut.update ..).extBut.push _).push _) ⟨_,Heap.get?_push_size _ rfl,rfl⟩
end
end L3
namespace L3
open PySem L2
open PySem.Spec hiding items?
open PyProof.Rows hiding St
section
variable {st:ag}{K:DK}{i j:Int}{b c:Bool}{xs ys:List D}{d e:D}{n:Nat}
theorem eqT(h:i=j)(k:K (.bl true) st):iw (.int i) (.int j) st K:=Co (by rw[decide_eq_true h];exact k)
theorem NF(h:i≠j)(k:K (.bl false) st):iw (.int i) (.int j) st K:=Co (by rw[decide_eq_false h];exact k)
theorem eq2(h1:i=j→K (.bl true) st)(h2:i≠j→K (.bl false) st):iw (.int i) (.int j) st K:=by
 by_cases h:i=j
 · exact eqT h (h1 h)
 · exact NF h (h2 h)
theorem neT(h:i≠j)(k:K (.bl true) st):lS (.int i) (.int j) st K:=EO (by rw[decide_eq_false h];exact k)
theorem xk(h:i=j)(k:K (.bl false) st):lS (.int i) (.int j) st K:=EO (by rw[decide_eq_true h];exact k)
theorem ne2(h1:i≠j→K (.bl true) st)(h2:i=j→K (.bl false) st):lS (.int i) (.int j) st K:=by
 by_cases h:i=j
 · exact xk h (h2 h)
 · exact neT h (h1 h)
theorem NA(h:i<j)(k:K (.bl true) st):pV (.int i) (.int j) st K:=wJ (by rw[decide_eq_true h];exact k)
theorem Nz(h:j≤i)(k:K (.bl false) st):pV (.int i) (.int j) st K:=wJ (by rw[decide_eq_false (by omega)];exact k)
theorem Kh(h1:i<j→K (.bl true) st)(h2:j≤i→K (.bl false) st):pV (.int i) (.int j) st K:=by
 by_cases h:i<j
 · exact NA h (h1 h)
 · exact Nz (by omega) (h2 (by omega))
theorem L7(h:j<i)(k:K (.bl true) st):kc (.int i) (.int j) st K:=nA (by rw[decide_eq_true h];exact k)
theorem Nv(h:i≤j)(k:K (.bl false) st):kc (.int i) (.int j) st K:=nA (by rw[decide_eq_false (by omega)];exact k)
theorem Jj(h1:j<i→K (.bl true) st)(h2:i≤j→K (.bl false) st):kc (.int i) (.int j) st K:=by
 by_cases h:j<i
 · exact L7 h (h1 h)
 · exact Nv (by omega) (h2 (by omega))
theorem IG{P:Prop}(h:xs.length≤1000)(k:P):xs.length≤sizeLine∧P:=⟨by rw[sizeLine_eq];omega,k⟩
theorem b_{m:Nat}(h:m≤1000):m≤sizeLine:=by rw[sizeLine_eq];omega
theorem uT(h0:0≤i)(e:xs[i.toNat]?=some d):dM xs i=some d:=by
 have:=kj e
 rw[Int.toNat_of_nonneg h0]at this
 exact this
theorem Je{m:Nat}(h0:0≤i)(h:i.toNat<m):kb m i=some i.toNat:=by
 unfold kb
 have:i<(m:Int):=by omega
 simp[h0,this]
end
theorem fE{tg:fB}{body:DS}{ok:ag→Prop}{E:l9}(I:List D→cj→ag→Prop)(hend:∀σ st,I [] σ st→ok st∧E.nx σ st)
 (hstep:∀x xs σ st,I (x::xs) σ st→(∀σ' st',I xs σ' st'→iH tg body ok E xs σ' st')→ok st∧∃σ1,tg x σ=some σ1∧body {E with nx:=iH tg body ok E xs,ct:=iH tg body ok E xs,bk:=E.nx} σ1 st):
 ∀xs σ st,I xs σ st→iH tg body ok E xs σ st
 | [],σ,st,h=>by unfold iH;exact hend σ st h
 |x::xs,σ,st,h=>by unfold iH;exact hstep x xs σ st h fun σ' st' h'=>fE I hend hstep xs σ' st' h'
theorem iz{tg:fB}{c:DT}{te:DE}{ok:ag→Prop}{σc:cj}{K:List D→ag→Prop}(I:List D→List D→ag→Prop)(hend:∀acc st,I [] acc st→ok st∧K acc st)
 (hstep:∀x xs acc st,I (x::xs) acc st→(∀acc' st',I xs acc' st'→dk tg c te ok σc xs acc' st' K)→ok st∧∃σ2,tg x σc=some σ2∧c σ2 st fun b st1=>if b=true then te σ2 st1 fun y st2=>dk tg c te ok σc xs (acc++[y]) st2 K else dk tg c te ok σc xs acc st1 K):
 ∀xs acc st,I xs acc st→dk tg c te ok σc xs acc st K
 | [],acc,st,h=>by unfold dk;exact hend acc st h
 |x::xs,acc,st,h=>by unfold dk;exact hstep x xs acc st h fun acc' st' h'=>iz I hend hstep xs acc' st' h'
theorem comp_map{tg:fB}{te:DE}{ok:ag→Prop}{σc:cj}{st:ag}{K:List D→ag→Prop}{g:D→D}(aI:ok st)(xs:List D)(hx:∀x∈xs,∀K',K' (g x) st→∃σ2,tg x σc=some σ2∧te σ2 st K')(k:K (xs.map g) st):dk tg cq te ok σc xs [] st K:=by
 refine iz (fun r acc st'=>st'=st∧(∀x∈r,x∈xs)∧acc++r.map g=xs.map g) (fun acc st' h=>?_) (fun x r acc st' h next=>?_) xs [] st ⟨rfl,fun _ h=>h,rfl⟩
 · obtain⟨rfl,_,e⟩:=h
   rw[List.map_nil,List.append_nil]at e
   rw[e];exact⟨aI,k⟩
 · obtain⟨rfl,hm,e⟩:=h
   obtain⟨σ2,e2,q⟩:=hx x (hm x List.mem_cons_self) (fun y st2=>dk tg cq te ok σc r (acc++[y]) st2 K) (next _ _ ⟨rfl,fun z hz=>hm z (List.mem_cons_of_mem _ hz),by rw[←e];simp⟩)
   exact⟨aI,σ2,e2,q⟩
theorem fD{A B:DS}{E:l9}{σ:cj}{st:ag}(J:cj→ag→Prop)(h:∀nx,(∀σ' st',J σ' st'→nx σ' st')→A {E with nx:=nx} σ st)(k:∀σ' st',J σ' st'→B E σ' st'):aF A B E σ st:=h (B E) k
noncomputable def D1(n:Nat)(K:DK)(y:D)(st2:ag):Prop:=∃y',[y]=[y']∧(match st2[n]? with|some (.lst xs)=>xs.length<sizeLine∧K .aG (st2.set n (.lst (xs++[y'])))|_=>False)
theorem u9{n:Nat}{K:DK}{y:D}{st:ag}{xs:List D}(e:st[n]?=some (.lst xs))(h:xs.length<sizeLine)(k:K .aG (st.set n (.lst (xs++[y])))):D1 n K y st:=by
 refine⟨y,rfl,?_⟩;simp only[e];exact⟨h,k⟩
@[irreducible] noncomputable def iU(to te:DE):DE:=oH to te
theorem qO{σ:cj}{st:ag}{K:DK}{i n:Nat}{xs:List D}{te:DE}(ei:σ[i]?=some (some (.ref n)))(e:st[n]?=some (.lst xs))(h:te σ st (D1 n K)):iU (ae i) te σ st K:=by
 unfold iU oH ae
 simp only[ei,e]
 exact h
theorem lz{X:Cx}{o e:Expr}{to te:DE}{apos cpos:Pos}(ho:JE X o to)(he:JE X e te)(hbase:attributeBase o "append" X.env (eval o X.env)=eval o X.env:=by rfl)(hline:(apos.endLine==cpos.line)=true:=by rfl)(hs:notStar e=true:=by rfl):JE X (.Call (.Attribute o "append" apos) [e] [] cpos) (iU to te):=by
 unfold iU;exact Dh ho he hbase hline hs
section
variable {X:Cx}
end
end L3
namespace L3
open PySem L2
open PySem.Spec hiding items?
open PyProof.Rows hiding St
structure Src(P:Program)(w:World)(t a:Addr)(J:Nat→Heap→Prop)(us:Array Value):Prop where
 fr:∀n g k,J n g→(∀b,b=t∨b=a→∀o,g.get? b=some o→k.get? b=some o)→J n k
 lv:∀n g,J n g→(∃o,g.get? t=some o)∧∃o,g.get? a=some o
 nx:∀n (A:Around) (s:Shared) (Q:Value→Shared→Prop) (E:Value→Shared→Prop) v,J n s.heap→us[n]?=some v→(∀k,J (n+1) k→Heap.SameBut t s.heap k→Q v {s with heap:=k})→wpAny (model P w) A (Builtin.SmallTypes.nextOf (.ref t)) Q E s
 en:∀n (A:Around) (s:Shared) (Q:Value→Shared→Prop) (E:Value→Shared→Prop),A.handled=none→J n s.heap→us[n]?=none→(∀k e,Heap.ExtBut t s.heap k→(∃o,k.get? e=some o∧o.cls= .type "StopIteration")→E (.ref e) {s with heap:=k})→wpAny (model P w) A (Builtin.SmallTypes.nextOf (.ref t)) Q E s
section
variable {P:Program}{w:World}
theorem src_list(t a:Addr)(hne:a≠t)(us:Array Value):Src P w t a (fun n g=>g.IsListIter t a n∧g.IsList a us) us where
 fr:=fun n g k j kp=>⟨j.1.at fun o e=>kp t (.inl rfl) o e,j.2.at fun o e=>kp a (.inr rfl) o e⟩
 lv:=fun n g j=>⟨let⟨o,e,_⟩:=j.1;⟨o,e⟩,let⟨o,e,_⟩:=j.2;⟨o,e⟩⟩
 nx:=fun n A s Q E v j hv q=>wpAny_nextOf_list_item j.1 j.2 hv fun k jk sb=>q k ⟨jk,j.2.extBut sb.extBut hne⟩ sb
 en:=fun n A s Q E hh j hv q=>wpAny_nextOf_list_end hh j.1 j.2 hv q
theorem F4(t a:Addr)(hne:a≠t)(us:Array Value):Src P w t a (fun n g=>g.IsTupleIter t a n∧g.IsTuple a us) us where
 fr:=fun n g k j kp=>by
  obtain⟨⟨o,e,r⟩,⟨o2,e2,r2⟩⟩:=j
  exact⟨⟨o,kp t (.inl rfl) o e,r⟩,⟨o2,kp a (.inr rfl) o2 e2,r2⟩⟩
 lv:=fun n g j=>⟨let⟨o,e,_⟩:=j.1;⟨o,e⟩,let⟨o,e,_⟩:=j.2;⟨o,e⟩⟩
 nx:=fun n A s Q E v j hv q=>AA j.1 j.2 hv fun k jk sb=>q k ⟨jk,j.2.extBut sb.extBut hne⟩ sb
 en:=fun n A s Q E hh j hv q=>CL hh j.1 j.2 hv q
theorem Src.ext{t a c:Addr}{J:Nat→Heap→Prop}{us:Array Value}(S:Src P w t a J us){n:Nat}{g k:Heap}(j:J n g)(x:Heap.ExtBut c g k)(h1:c≠t)(h2:c≠a):J n k:=
 S.fr n g k j fun b hb o e=>x b o (by rcases hb with rfl|rfl;exact Ne.symm h1;exact Ne.symm h2) e
structure zG(z ti to t1 t2 a1 a2:Addr):Prop where
 nd: [z,ti,to,t1,t2].Nodup
 a1:a1∉[z,ti,to,t1,t2]
 a2:a2∉[z,ti,to,t1,t2]
section
variable {z ti to t1 t2 a1 a2:Addr}
theorem zG.n(D:zG z ti to t1 t2 a1 a2):(ti≠z∧to≠z∧t1≠z∧t2≠z)∧(ti≠to∧ti≠t1∧ti≠t2)∧(to≠t1∧to≠t2)∧t1≠t2:=by
 have:=D.nd
 simp only[List.nodup_cons,List.mem_cons,not_or,List.not_mem_nil,not_false_eq_true,and_true,List.nodup_nil]at this
 obtain⟨⟨b1,b2,b3,b4⟩,⟨b5,b6,b7⟩,⟨b8,b9⟩,b10⟩:=this
 exact⟨⟨Ne.symm b1,Ne.symm b2,Ne.symm b3,Ne.symm b4⟩,⟨b5,b6,b7⟩,⟨b8,b9⟩,b10⟩
theorem BG{A:Around}{s:Shared}{E:Value→Shared→Prop}{J1 J2:Nat→Heap→Prop}{us vs:Array Value}{n:Nat}{x y a b:Value}{Q:Value→Shared→Prop}(D:zG z ti to t1 t2 a1 a2)(S1:Src P w t1 a1 J1 us)(S2:Src P w t2 a2 J2 vs)
 (Z:IsZip s.heap z ti to .none) (pI:IsPair s.heap ti (.ref t1) (.ref t2)) (pO:IsPair s.heap to a b) (j1:J1 n s.heap) (j2:J2 n s.heap) (ex:us[n]?=some x) (ey:vs[n]?=some y)
 (q:∀k,IsZip k z ti to (rawInt s.heap.objs.size)→IsPair k to x y→J1 (n+1) k→J2 (n+1) k→IsPair k s.heap.objs.size x y→k.objs.size=s.heap.objs.size+1→
   (∀c o,c≠z→c≠to→c≠t1→c≠t2→s.heap.get? c=some o→k.get? c=some o)→Q (.ref s.heap.objs.size) {s with heap:=k}):
 wpAny (model P w) A (Builtin.«zip.__next__» ⟨[.ref z],[]⟩) (fun fin s'=>∃v,fin= .done (.ret v)∧Q v s') E s:=by
 obtain⟨⟨n1,n2,n3,n4⟩,⟨n5,n6,n7⟩,⟨n8,n9⟩,n10⟩:=D.n
 have m1:=D.a1
 have m2:=D.a2
 simp only[List.mem_cons,not_or,List.not_mem_nil,not_false_eq_true,and_true]at m1 m2
 show wpAny _ _ (field (.ref z) 2 >>= _) _ _ _
 refine wpAny_bind (wpAny_field Z rfl (x:= .bool false) rfl ?_)
 show wpAny _ _ (field (.ref z) 3 >>= _) _ _ _
 refine wpAny_bind (wpAny_field Z rfl (x:= .ref ti) rfl ?_)
 refine wpAny_bind (wpAny_seqItems pI rfl ?_)
 show wpAny _ _ (Builtin.SmallTypes.ownedTupleIsFree (.ref z) >>= _) _ _ _
 refine wpAny_bind ?_
 unfold Builtin.SmallTypes.ownedTupleIsFree
 refine wpAny_bind (wpAny_field Z rfl (x:= .none) rfl (wpAny_pure ?_))
 simp only[if_true]
 refine wpAny_bind (wpAny_rule ?_)
 refine wpAny_bind (wpAny_field Z rfl (x:= .ref to) rfl ?_)
 refine wpAny_bind (wpAny_setField_rec Z (by simp) fun k1 Z1 b1=>?_)
 replace Z1:IsZip k1 z ti to .ellipsis:=Z1
 refine wpAny_bind ?_
 simp only[List.zipIdx_cons,List.zipIdx_nil,List.forIn_cons,List.forIn_nil]
 refine wpAny_bind (wpAny_bind (wpAny_onRaise ?_))
 show wpAny _ _ (Builtin.SmallTypes.nextOf (.ref t1) >>= _) _ _ _
 refine wpAny_bind (S1.nx n _ _ _ _ x (S1.ext j1 b1.extBut (Ne.symm n3) (Ne.symm m1.1)) ex fun k2 j1b b2=>wpAny_pure ?_)
 have pO2:IsPair k2 to a b:=b2.extBut _ _ n8 (b1.extBut _ _ n2 pO)
 refine wpAny_bind (wpAny_seqItems pO2 rfl ?_)
 refine wpAny_bind (wpAny_updateSeq_pair pO2 fun k3 pO3 b3=>?_)
 replace pO3:IsPair k3 to x b:=pO3
 refine wpAny_bind (wpAny_letGo (wpAny_pure ?_))
 refine wpAny_bind (wpAny_bind (wpAny_onRaise ?_))
 show wpAny _ _ (Builtin.SmallTypes.nextOf (.ref t2) >>= _) _ _ _
 have j2c:J2 n k3:=S2.ext (S2.ext (S2.ext j2 b1.extBut (Ne.symm n4) (Ne.symm m2.1)) b2.extBut n10 (Ne.symm m2.2.2.2.1)) b3.extBut n9 (Ne.symm m2.2.2.1)
 refine wpAny_bind (S2.nx n _ _ _ _ y j2c ey fun k4 j2d b4=>wpAny_pure ?_)
 have pO4:IsPair k4 to x b:=b4.extBut _ _ n9 pO3
 refine wpAny_bind (wpAny_seqItems pO4 rfl ?_)
 refine wpAny_bind (wpAny_updateSeq_pair pO4 fun k5 pO5 b5=>?_)
 replace pO5:IsPair k5 to x y:=pO5
 refine wpAny_bind (wpAny_letGo (wpAny_pure (wpAny_pure ?_)))
 refine wpAny_bind (wpAny_seqItems pO5 rfl ?_)
 refine wpAny_bind (wpAny_newTuple ?_)
 have sz:k5.objs.size=s.heap.objs.size:=by rw[b5.1,b4.1,b3.1,b2.1,b1.1]
 have Z5:IsZip k5 z ti to .ellipsis:=b5.extBut _ _ (Ne.symm n2) (b4.extBut _ _ (Ne.symm n4) (b3.extBut _ _ (Ne.symm n2) (b2.extBut _ _ (Ne.symm n3) Z1)))
 have kp5:∀c o,c≠z→c≠to→c≠t1→c≠t2→s.heap.get? c=some o→k5.get? c=some o:=fun c o c1 c2 c3 c4 e=>b5.extBut _ _ c2 (b4.extBut _ _ c4 (b3.extBut _ _ c2 (b2.extBut _ _ c3 (b1.extBut _ _ c1 e))))
 have j1e:J1 (n+1) k5:=S1.ext (S1.ext (S1.ext j1b b3.extBut n8 (Ne.symm m1.2.2.1)) b4.extBut (Ne.symm n10) (Ne.symm m1.2.2.2.2)) b5.extBut n8 (Ne.symm m1.2.2.1)
 have j2e:J2 (n+1) k5:=S2.ext j2d b5.extBut n9 (Ne.symm m2.2.2.1)
 have ltz:z<k5.objs.size:=Heap.lt_size Z5
 show wpAny _ _ (Builtin.SmallTypes.ownedTupleHandOut (.ref z) (.ref k5.objs.size) >>= _) _ _ _
 refine wpAny_bind ?_
 unfold Builtin.SmallTypes.ownedTupleHandOut
 have Z6:IsZip (k5.push {cls:= .type "tuple",data:= .seq #[x,y]}) z ti to .ellipsis:=Heap.get?_push_of_some _ Z5
 refine wpAny_bind (wpAny_setField_rec Z6 (by simp) fun k7 Z7 b7=>?_)
 replace Z7:IsZip k7 z ti to (rawInt k5.objs.size):=Z7
 refine wpAny_setField_rec Z7 (by simp) fun k8 Z8 b8=>?_
 replace Z8:IsZip k8 z ti to (rawInt k5.objs.size):=Z8
 have up:∀c o,c≠z→k5.get? c=some o→k8.get? c=some o:=fun c o c1 e=>b8.extBut _ _ c1 (b7.extBut _ _ c1 (Heap.get?_push_of_some _ e))
 have pT:IsPair k8 k5.objs.size x y:=b8.extBut _ _ (Nat.ne_of_gt ltz) (b7.extBut _ _ (Nat.ne_of_gt ltz) (Heap.get?_push_size _ rfl))
 have sz8:k8.objs.size=k5.objs.size+1:=by rw[b8.1,b7.1,Heap.size_push]
 rw[sz]at Z8 pT sz8
 refine wpAny_pure ⟨_,rfl,?_⟩
 show Q (.ref k5.objs.size) _
 rw[sz]
 refine q k8 Z8 (up _ _ n2 pO5) (S1.fr _ _ _ j1e fun b hb o e=>up b o ?_ e) (S2.fr _ _ _ j2e fun b hb o e=>up b o ?_ e) pT sz8 fun c o c1 c2 c3 c4 e=>up c o c1 (kp5 c o c1 c2 c3 c4 e)
 · rcases hb with rfl|rfl
   · exact n3
   · exact m1.1
 · rcases hb with rfl|rfl
   · exact n4
   · exact m2.1
theorem EB{A:Around}{s:Shared}{E:Value→Shared→Prop}{J1 J2:Nat→Heap→Prop}{us vs:Array Value}{n:Nat}{a b:Value}{Q:Fin→Shared→Prop}(hh:A.handled=none)(D:zG z ti to t1 t2 a1 a2)(S1:Src P w t1 a1 J1 us)(S2:Src P w t2 a2 J2 vs)
 (Z:IsZip s.heap z ti to .none) (pI:IsPair s.heap ti (.ref t1) (.ref t2)) (pO:IsPair s.heap to a b) (j1:J1 n s.heap) (j2:J2 n s.heap) (he:us[n]?=none∨vs[n]?=none)
 (q:∀k e,(∀c o,c≠z→c≠to→c≠t1→c≠t2→s.heap.get? c=some o→k.get? c=some o)→(∃o,k.get? e=some o∧o.cls= .type "StopIteration")→E (.ref e) {s with heap:=k}):
 wpAny (model P w) A (Builtin.«zip.__next__» ⟨[.ref z],[]⟩) Q E s:=by
 obtain⟨⟨n1,n2,n3,n4⟩,⟨n5,n6,n7⟩,⟨n8,n9⟩,n10⟩:=D.n
 have m1:=D.a1
 have m2:=D.a2
 simp only[List.mem_cons,not_or,List.not_mem_nil,not_false_eq_true,and_true]at m1 m2
 show wpAny _ _ (field (.ref z) 2 >>= _) _ _ _
 refine wpAny_bind (wpAny_field Z rfl (x:= .bool false) rfl ?_)
 show wpAny _ _ (field (.ref z) 3 >>= _) _ _ _
 refine wpAny_bind (wpAny_field Z rfl (x:= .ref ti) rfl ?_)
 refine wpAny_bind (wpAny_seqItems pI rfl ?_)
 show wpAny _ _ (Builtin.SmallTypes.ownedTupleIsFree (.ref z) >>= _) _ _ _
 refine wpAny_bind ?_
 unfold Builtin.SmallTypes.ownedTupleIsFree
 refine wpAny_bind (wpAny_field Z rfl (x:= .none) rfl (wpAny_pure ?_))
 simp only[if_true]
 refine wpAny_bind (wpAny_rule ?_)
 refine wpAny_bind (wpAny_field Z rfl (x:= .ref to) rfl ?_)
 refine wpAny_bind (wpAny_setField_rec Z (by simp) fun k1 Z1 b1=>?_)
 replace Z1:IsZip k1 z ti to .ellipsis:=Z1
 refine wpAny_bind ?_
 simp only[List.zipIdx_cons,List.zipIdx_nil,List.forIn_cons,List.forIn_nil]
 refine wpAny_bind (wpAny_bind (wpAny_onRaise ?_))
 show wpAny _ _ (Builtin.SmallTypes.nextOf (.ref t1) >>= _) _ _ _
 have j1a:J1 n k1:=S1.ext j1 b1.extBut (Ne.symm n3) (Ne.symm m1.1)
 cases ex:us[n]? with
 |none=>
  refine wpAny_bind (S1.en n _ _ _ _ hh j1a ex fun k2 e b2 hx=>?_)
  obtain⟨oe,he1,he2⟩:=hx
  have Z2:IsZip k2 z ti to .ellipsis:=b2 _ _ (Ne.symm n3) Z1
  have hez:e≠z:=fun c=>by subst c;rw[Z2]at he1;cases he1;simp at he2
  refine wpAny_setField_rec Z2 (by simp) fun k3 _ b3=>q k3 e (fun c o c1 _ c3 _ f=>b3.extBut _ _ c1 (b2 _ _ c3 (b1.extBut _ _ c1 f))) ⟨oe,b3.extBut _ _ hez he1,he2⟩
 |some x=>
  have ey:vs[n]?=none:=by
   rcases he with h|h
   · rw[ex]at h;cases h
   · exact h
  refine wpAny_bind (S1.nx n _ _ _ _ x j1a ex fun k2 j1b b2=>wpAny_pure ?_)
  have pO2:IsPair k2 to a b:=b2.extBut _ _ n8 (b1.extBut _ _ n2 pO)
  refine wpAny_bind (wpAny_seqItems pO2 rfl ?_)
  refine wpAny_bind (wpAny_updateSeq_pair pO2 fun k3 pO3 b3=>?_)
  refine wpAny_bind (wpAny_letGo (wpAny_pure ?_))
  refine wpAny_bind (wpAny_bind (wpAny_onRaise ?_))
  show wpAny _ _ (Builtin.SmallTypes.nextOf (.ref t2) >>= _) _ _ _
  have j2c:J2 n k3:=S2.ext (S2.ext (S2.ext j2 b1.extBut (Ne.symm n4) (Ne.symm m2.1)) b2.extBut n10 (Ne.symm m2.2.2.2.1)) b3.extBut n9 (Ne.symm m2.2.2.1)
  refine wpAny_bind (S2.en n _ _ _ _ hh j2c ey fun k4 e b4 hx=>?_)
  obtain⟨oe,he1,he2⟩:=hx
  have Z4:IsZip k4 z ti to .ellipsis:=b4 _ _ (Ne.symm n4) (b3.extBut _ _ (Ne.symm n2) (b2.extBut _ _ (Ne.symm n3) Z1))
  have hez:e≠z:=fun c=>by subst c;rw[Z4]at he1;cases he1;simp at he2
  refine wpAny_setField_rec Z4 (by simp) fun k5 _ b5=>q k5 e (fun c o c1 c2 c3 c4 f=>b5.extBut _ _ c1 (b4 _ _ c4 (b3.extBut _ _ c2 (b2.extBut _ _ c3 (b1.extBut _ _ c1 f))))) ⟨oe,b5.extBut _ _ hez he1,he2⟩
end
end
end L3
namespace L3
open PySem L2
open PySem.Spec hiding items?
open PyProof.Rows hiding St
theorem FD{X:Cx}{pins:List (Addr×Obj)}{σ:L2.St}{H:Hp}{s:Shared}{g:Heap}{tk:Nat}{fp:List Addr}{T:Addr}{xs:List V}(I:Inv X pins σ H s)(hf:∀b∈fp,kF X pins H b)
 (k:∀b o,b∉fp→s.heap.get? b=some o→g.get? b=some o) (hT:s.heap.objs.size≤T) (new:dj X.prog X.w (upd H T (.tup xs)) g T (.tup xs)):Inv X pins σ (upd H T (.tup xs)) {s with heap:=g,toks:=tk}:=by
 have hn:H T=none:=I.aI.fresh hT
 have nfp:∀b u,H b=some u→b∉fp:=fun b u e z=>by rw[(hf b z).1]at e;cases e
 have nT:∀b u,H b=some u→b≠T:=fun b u e=>dm e hn
 refine I.step (g':=s.gens) (d':=s.drawn) (ch:=fp) (fun b hb=>?_) (fun b o _ _ hc e _=>k b o hc e) (fun b o _ _ hc e _=>⟨o.slots,k b o hc e⟩) (fun b o _ e n=>?_) (fun b o hc e=>⟨o,k b o hc e⟩)
  (fun b ys e=>by rw[aC (nT b _ e)];exact e) (fun b o u e=>by rw[aC (nT b _ e)];exact e) (fun b ps e=>⟨#[],by rw[aC (nT b _ e),e];simp⟩) (fun m hm=>?_) (fun b u e=>?_) I.bare
 · obtain⟨f0,f1,f2,f3,f4,f5⟩:=hf b hb
   exact⟨f3,f1,f4,f5⟩
 · rw[aC (Nat.ne_of_lt (Nat.lt_of_lt_of_le (Heap.lt_size e) hT))];exact n
 · obtain⟨o,es,ep,ho,r⟩:=hm
   exact⟨o,es,ep,k _ o (fun z=>(hf _ z).2.1 rfl) ho,r⟩
 · by_cases hb:b=T
   · subst hb;rw[aZ]at e;cases e;exact new
   · rw[aC hb]at e
     refine(I.aI b u e).oj (fun c v hc q=>k c v ?_ q) (fun c q=>by rw[aC (nT c _ q)];exact q) fun c ys q=>by rw[aC (nT c _ q)];exact q
     rcases hc with z|z
     · rw[z];exact nfp b u e
     · exact nfp c _ z
theorem Fx{X:Cx}{pins:List (Addr×Obj)}{σ:L2.St}{H:Hp}{s:Shared}{g:Heap}{tk:Nat}{fp:List Addr}(I:Inv X pins σ H s)(hf:∀b∈fp,kF X pins H b)
 (k:∀b o,b∉fp→s.heap.get? b=some o→g.get? b=some o):Inv X pins σ H {s with heap:=g,toks:=tk}:=by
 have nfp:∀b u,H b=some u→b∉fp:=fun b u e z=>by rw[(hf b z).1]at e;cases e
 refine I.step (g':=s.gens) (d':=s.drawn) (ch:=fp) (fun b hb=>?_) (fun b o _ _ hc e _=>k b o hc e) (fun b o _ _ hc e _=>⟨o.slots,k b o hc e⟩) (fun b o _ e n=>n) (fun b o hc e=>⟨o,k b o hc e⟩)
  (fun b ys e=>e) (fun b o u e=>e) (fun b ps e=>⟨#[],by rw[e];simp⟩) (fun m hm=>?_) (fun b u e=>?_) I.bare
 · obtain⟨f0,f1,f2,f3,f4,f5⟩:=hf b hb
   exact⟨f3,f1,f4,f5⟩
 · obtain⟨o,es,ep,ho,r⟩:=hm
   exact⟨o,es,ep,k _ o (fun z=>(hf _ z).2.1 rfl) ho,r⟩
 · refine(I.aI b u e).oj (fun c v hc q=>k c v ?_ q) (fun c q=>q) fun c ys q=>q
   rcases hc with z|z
   · rw[z];exact nfp b u e
   · exact nfp c _ z
inductive SK where
 |l|t
noncomputable def oC(k:SK)(K:PySem.W.Frag)(H:Hp)(a:Addr)(xs:List V):Prop:=match k with
 | .l=>k_ K H a xs
 | .t=>iE K H a xs
noncomputable def pQ(k:SK)(t a:Addr)(n:Nat)(g:Heap):Prop:=match k with
 | .l=>g.IsListIter t a n
 | .t=>g.IsTupleIter t a n
noncomputable def lb(k:SK)(g:Heap)(a:Addr)(us:Array Value):Prop:=match k with
 | .l=>g.IsList a us
 | .t=>g.IsTuple a us
noncomputable def yK(k:SK)(a:Addr):Obj:=match k with
 | .l=>{cls:= .type "list_iterator",data:= .fields #[.ref a,.int 0 0]}
 | .t=>{cls:= .type "tuple_iterator",data:= .fields #[.ref a,.int 0 0]}
theorem l8{P:Program}{w:World}(k:SK)(t a:Addr)(hne:a≠t)(us:Array Value):Src P w t a (fun n g=>pQ k t a n g∧lb k g a us) us:=by
 cases k
 · exact src_list t a hne us
 · exact F4 t a hne us
theorem jZ{X:Cx}{pins:List (Addr×Obj)}{σ:L2.St}{H:Hp}{s:Shared}{k:SK}{a:Addr}{xs:List V}(I:Inv X pins σ H s)(h:oC k X.K H a xs):∃aq:List Value,Vals xs aq∧lb k s.heap a aq.toArray:=by
 cases k
 · obtain⟨aq,rv,p,_⟩:=I.list h
   exact⟨aq,rv,p.isList⟩
 · obtain⟨aq,rv,p,_⟩:=I.tuple h
   exact⟨aq,rv,p⟩
theorem u_{X:Cx}{pins:List (Addr×Obj)}{σ:L2.St}{H:Hp}{s:Shared}{k:SK}{a:Addr}{xs ys:List V}(I:Inv X pins σ H s)(h:oC k X.K H a xs)(h':oC k X.K H a ys):xs=ys:=by
 cases k
 · exact I.x8 h h'
 · exact I.vq h h'
theorem BO{P:Program}{w:World}{A:Around}{s:Shared}{E:Value→Shared→Prop}{k:SK}{a:Addr}{us:Array Value}{Q:Value→Shared→Prop}(h:lb k s.heap a us)(q:Q (.ref s.heap.objs.size) {s with heap:=s.heap.push (yK k a)}):wpAny (model P w) A (pyIter (.ref a)) Q E s:=by
 cases k
 · exact wpAny_pyIter_list h q
 · exact wpAny_pyIter_tuple h q
theorem lb.push{k:SK}{g:Heap}{a:Addr}{us:Array Value}(h:lb k g a us)(o:Obj):lb k (g.push o) a us:=by
 cases k
 · obtain⟨o',e,r⟩:=h;exact⟨o',Heap.get?_push_of_some _ e,r⟩
 · obtain⟨o',e,r⟩:=h;exact⟨o',Heap.get?_push_of_some _ e,r⟩
theorem lb.some{k:SK}{g:Heap}{a:Addr}{us:Array Value}(h:lb k g a us):∃o,g.get? a=Option.some o:=by
 cases k
 · obtain⟨o',e,r⟩:=h;exact⟨o',e⟩
 · obtain⟨o',e,r⟩:=h;exact⟨o',e⟩
theorem zp{k:SK}{g h:Heap}{t a:Addr}(e:g.get? t=Option.some (yK k a)):pQ k t a 0 g:=by
 cases k
 · exact⟨_,e,rfl,rfl⟩
 · exact⟨_,e,rfl,rfl⟩
theorem om{k:SK}{t a:Addr}{n:Nat}{g g':Heap}(h:pQ k t a n g)(kp:∀o,g.get? t=Option.some o→g'.get? t=Option.some o):pQ k t a n g':=by
 cases k
 · obtain⟨o,e,r⟩:=h;exact⟨o,kp o e,r⟩
 · obtain⟨o,e,r⟩:=h;exact⟨o,kp o e,r⟩
theorem mr{k:SK}{t a:Addr}{n:Nat}{g:Heap}(h:pQ k t a n g):∃o,g.get? t=Option.some o∧∀v,o.data≠ .cell v:=by
 cases k
 · obtain⟨o,e,c,d⟩:=h;exact⟨o,e,fun v z=>by rw[d]at z;cases z⟩
 · obtain⟨o,e,c,d⟩:=h;exact⟨o,e,fun v z=>by rw[d]at z;cases z⟩
noncomputable def L6(K:PySem.W.Frag)(k1 k2:SK)(a1 a2:Addr):It:=
 ⟨fun i H=>∃xs ys x y,oC k1 K H a1 xs∧oC k2 K H a2 ys∧xs[i]?=some x∧ys[i]?=some y,
  fun i H v H'=>∃T x y,H T=none∧v= .ref T∧H'=upd H T (.tup [x,y])∧(∀xs,oC k1 K H a1 xs→xs[i]?=some x)∧∀ys,oC k2 K H a2 ys→ys[i]?=some y,
  fun i H=>∃xs ys,oC k1 K H a1 xs∧oC k2 K H a2 ys∧(xs.length≤i∨ys.length≤i)⟩
noncomputable def Kt(z ti to t1 t2 a1 a2:Addr)(k1 k2:SK)(i:Nat)(h:Heap):Prop:=IsZip h z ti to .none∧IsPair h ti (.ref t1) (.ref t2)∧(∃a b,IsPair h to a b)∧pQ k1 t1 a1 i h∧pQ k2 t2 a2 i h
theorem DM{P:Program}{w:World}{K:PySem.W.Frag}{elts:List Expr}{kx:Nat}{pos:Pos}{z ti to t1 t2 a1 a2:Addr}(k1 k2:SK)(D:zG z ti to t1 t2 a1 a2):
 Turn P w K (.Tuple elts kx pos) (L6 K k1 k2 a1 a2) [z,ti,to,t1,t2] z (Kt z ti to t1 t2 a1 a2 k1 k2) where
 mem:=by simp
 obj:=fun i h st b hb=>by
  obtain⟨Z,pI,⟨a,b',pO⟩,i1,i2⟩:=st
  simp only[List.mem_cons,List.not_mem_nil,or_false]at hb
  rcases hb with rfl|rfl|rfl|rfl|rfl
  · exact⟨_,Z,fun v e=>by cases e⟩
  · exact⟨_,pI,fun v e=>by cases e⟩
  · exact⟨_,pO,fun v e=>by cases e⟩
  · exact mr i1
  · exact mr i2
 keep:=fun i h h' st k=>by
  obtain⟨Z,pI,⟨a,b',pO⟩,i1,i2⟩:=st
  exact⟨k z (by simp) _ Z,k ti (by simp) _ pI,⟨a,b',k to (by simp) _ pO⟩,om i1 (k t1 (by simp)),om i2 (k t2 (by simp))⟩
 item:=by
  intro X hP hw hK hc i pins s σ H E I hf st hg
  subst hP hw hK
  obtain⟨Z,pI,⟨a,b',pO⟩,i1,i2⟩:=st
  obtain⟨xs,ys,x,y,q1,q2,ex,ey⟩:=hg
  obtain⟨us,r1,l1⟩:=jZ I q1
  obtain⟨vs,r2,l2⟩:=jZ I q2
  obtain⟨u,eu,ru⟩:=r1.get ex
  obtain⟨v,ev,rv⟩:=r2.get ey
  have m1:=D.a1
  have m2:=D.a2
  simp only[List.mem_cons,not_or,List.not_mem_nil,not_false_eq_true,and_true]at m1 m2
  obtain⟨⟨n1,n2,n3,n4⟩,⟨n5,n6,n7⟩,⟨n8,n9⟩,n10⟩:=D.n
  have tz:s.TypeIs (.ref z) "zip":=⟨_,Z,rfl⟩
  unfold pyNext
  refine wpAny_bind (wpAny_attempt (wpAny_callSpecial?_slot (name:=Str.ofString "__next__") tz F.slot_zip_next (wpAny_call_entry F.slot_zip_next tz F.entry_zip_next (BG D (l8 k1 t1 a1 m1.2.2.2.1 us.toArray) (l8 k2 t2 a2 m2.2.2.2.2 vs.toArray) Z pI pO ⟨i1,l1⟩ ⟨i2,l2⟩ (x:=u) (y:=v) (by simpa using eu) (by simpa using ev) fun k Z2 pO2 j1 j2 pT szk kp=>wpAny_pure ⟨_,rfl,?_⟩) (F.args_zip_next_1 _))))
  refine wpAny_letOwnedTupleGo_zip (s:={s with heap:=k}) Z2 fun k' Z3 b3=>?_
  have hT:s.heap.objs.size≠z:=Nat.ne_of_gt (Heap.lt_size Z)
  have kp3:∀b o,b∉[z,ti,to,t1,t2]→s.heap.get? b=some o→k'.get? b=some o:=fun b o hb e=>by
   simp only[List.mem_cons,not_or,List.not_mem_nil,not_false_eq_true,and_true]at hb
   exact b3.extBut _ _ hb.1 (kp b o hb.1 hb.2.2.1 hb.2.2.2.1 hb.2.2.2.2 e)
  refine⟨.ref s.heap.objs.size,upd H s.heap.objs.size (.tup [x,y]),FD (s:=s) (tk:=s.toks) I hf kp3 (Nat.le_refl _) ?_,rfl,⟨s.heap.objs.size,x,y,I.aI.fresh (Nat.le_refl _),rfl,rfl,?_,?_⟩,?_,?_⟩
  · refine⟨Nat.le_of_ble_eq_true rfl,[u,v],.cons ru (.cons rv .nil),?_⟩
    exact⟨_,b3.extBut _ _ hT pT,rfl,_,rfl⟩
  · intro xs' q'
    rw[u_ I q' q1];exact ex
  · intro ys' q'
    rw[u_ I q' q2];exact ey
  · refine⟨Z3,b3.extBut _ _ n1 (kp _ _ n1 n5 n6 n7 pI),⟨_,_,b3.extBut _ _ n2 pO2⟩,om j1.1 fun o e=>b3.extBut _ _ n3 e,om j2.1 fun o e=>b3.extBut _ _ n4 e⟩
  · intro b hb
    have:b≠s.heap.objs.size:=by
     obtain⟨o,e,_⟩:∃o,s.heap.get? b=some o∧True:=by
      simp only[List.mem_cons,List.not_mem_nil,or_false]at hb
      rcases hb with rfl|rfl|rfl|rfl|rfl
      · exact⟨_,Z,trivial⟩
      · exact⟨_,pI,trivial⟩
      · exact⟨_,pO,trivial⟩
      · obtain⟨o,e,_⟩:=mr i1;exact⟨o,e,trivial⟩
      · obtain⟨o,e,_⟩:=mr i2;exact⟨o,e,trivial⟩
     exact Nat.ne_of_lt (Heap.lt_size e)
    rw[aC this]
    exact(hf b hb).1
 done:=by
  intro X hP hw hK hc i pins s σ H E I hf st hg
  subst hP hw hK
  obtain⟨Z,pI,⟨a,b',pO⟩,i1,i2⟩:=st
  obtain⟨xs,ys,q1,q2,he⟩:=hg
  obtain⟨us,r1,l1⟩:=jZ I q1
  obtain⟨vs,r2,l2⟩:=jZ I q2
  have e1:=r1.length
  have e2:=r2.length
  have m1:=D.a1
  have m2:=D.a2
  simp only[List.mem_cons,not_or,List.not_mem_nil,not_false_eq_true,and_true]at m1 m2
  have tz:s.TypeIs (.ref z) "zip":=⟨_,Z,rfl⟩
  unfold pyNext
  refine wpAny_bind (wpAny_attempt (wpAny_callSpecial?_slot (name:=Str.ofString "__next__") tz F.slot_zip_next (wpAny_call_entry F.slot_zip_next tz F.entry_zip_next (EB (I.ok.hd hc) D (l8 k1 t1 a1 m1.2.2.2.1 us.toArray) (l8 k2 t2 a2 m2.2.2.2.2 vs.toArray) Z pI pO ⟨i1,l1⟩ ⟨i2,l2⟩ ?_ fun k e kp hx=>?_) (F.args_zip_next_1 _))))
  · rcases he with h|h
    · left;simp;omega
    · right;simp;omega
  · obtain⟨o,ho,hc2⟩:=hx
    refine wpAny_bind (wpAny_isInstance (T:="StopIteration") (b:=true) ⟨o,ho,hc2⟩ isSubtype_stop ?_)
    refine wpAny_pure ⟨rfl,Fx (s:=s) (tk:=s.toks) I hf fun b o hb e=>?_⟩
    simp only[List.mem_cons,not_or,List.not_mem_nil,not_false_eq_true,and_true]at hb
    exact kp b o hb.1 hb.2.2.1 hb.2.2.2.1 hb.2.2.2.2 e
 self:=fun _ _ _ _ _ st h=>wpAny_pyIter_zip st.1 h
end L3
namespace L3
open PySem L2
open PySem.Spec hiding items?
open PyProof.Rows hiding St
noncomputable abbrev ER(h:Heap)(k1:SK)(a1:Addr):Heap:=h.push (yK k1 a1)
noncomputable abbrev EJ(h:Heap)(k1 k2:SK)(a1 a2:Addr):Heap:=(ER h k1 a1).push (yK k2 a2)
noncomputable abbrev Fc(h:Heap)(k1 k2:SK)(a1 a2:Addr):Heap:=(EJ h k1 k2 a1 a2).push {cls:= .type "tuple",data:= .seq #[.ref h.objs.size,.ref (ER h k1 a1).objs.size]}
noncomputable abbrev Fe(h:Heap)(k1 k2:SK)(a1 a2:Addr):Heap:=(Fc h k1 k2 a1 a2).push {cls:= .type "tuple",data:= .seq #[.none,.none]}
noncomputable abbrev zB(h:Heap)(k1 k2:SK)(a1 a2:Addr):Heap:=(Fe h k1 k2 a1 a2).push {cls:= .type "zip",data:= .fields #[.none,.bool false,.bool false,.ref (EJ h k1 k2 a1 a2).objs.size,.ref (Fc h k1 k2 a1 a2).objs.size]}
theorem Cv(k1 k2:SK)(a1 a2:Addr)(us vs:Array Value):Meets (Builtin.«zip.__new__» ⟨[.type "zip",.ref a1,.ref a2],[]⟩) (fun _ R s=>lb k1 s.heap a1 us∧lb k2 s.heap a2 vs∧
 R (.ok (.ret (.ref (Fe s.heap k1 k2 a1 a2).objs.size))) {s with heap:=zB s.heap k1 k2 a1 a2}):=
 .of_wp fun P w A R s h=>by
  obtain⟨hp,g,d,tk,os⟩:=s
  obtain⟨c1,c2,h⟩:=h
  have hsub:=sub_zip
  have L1:lb k1 (Shared.heap ⟨hp,g,d,tk,os⟩) a1 us:=c1
  have L2:lb k2 (Shared.heap ⟨hp.push (yK k1 a1),g,d,tk,os⟩) a2 vs:=lb.push c2 _
  wp_walk using BO L1,BO L2
  exact⟨_,rfl,h⟩
theorem DF{P:Program}{w:World}{A:Around}{s:Shared}{E:Value→Shared→Prop}{k1 k2:SK}{a1 a2:Addr}{us vs:Array Value}{Q:Value→Shared→Prop}(c1:lb k1 s.heap a1 us)(c2:lb k2 s.heap a2 vs)
 (q:∀g n,n=s.heap.objs.size→IsZip g (n+4) (n+2) (n+3) .none→IsPair g (n+2) (.ref n) (.ref (n+1))→IsPair g (n+3) .none .none→pQ k1 n a1 0 g→pQ k2 (n+1) a2 0 g→(∀c o,s.heap.get? c=some o→g.get? c=some o)→Q (.ref (n+4)) {s with heap:=g}):
 wpAny (model P w) A (call (.type "zip") [.ref a1,.ref a2]) Q E s:=by
 refine callType_new F.called_zip (by decide) (F.typeCall_zip_2 _ _) (F.newCall_zip_2 _ _) (fun ob=>F.args_object_init_3 ob _ _) F.entry_zip_new (Cv k1 k2 a1 a2 us vs) ⟨c1,c2,?_⟩
 have y1:(ER s.heap k1 a1).objs.size=s.heap.objs.size+1:=Heap.size_push ..
 have y2:(EJ s.heap k1 k2 a1 a2).objs.size=s.heap.objs.size+2:=by rw[Heap.size_push,y1]
 have y3:(Fc s.heap k1 k2 a1 a2).objs.size=s.heap.objs.size+3:=by rw[Heap.size_push,y2]
 have y4:(Fe s.heap k1 k2 a1 a2).objs.size=s.heap.objs.size+4:=by rw[Heap.size_push,y3]
 have e5:(zB s.heap k1 k2 a1 a2).get? (Fe s.heap k1 k2 a1 a2).objs.size=some _:=Heap.get?_push_size _ rfl
 have e4:(zB s.heap k1 k2 a1 a2).get? (Fc s.heap k1 k2 a1 a2).objs.size=some _:=Heap.get?_push_of_some _ (Heap.get?_push_size _ rfl)
 have e3:(zB s.heap k1 k2 a1 a2).get? (EJ s.heap k1 k2 a1 a2).objs.size=some _:=Heap.get?_push_of_some _ (Heap.get?_push_of_some _ (Heap.get?_push_size _ rfl))
 have e2:(zB s.heap k1 k2 a1 a2).get? (ER s.heap k1 a1).objs.size=some (yK k2 a2):=Heap.get?_push_of_some _ (Heap.get?_push_of_some _ (Heap.get?_push_of_some _ (Heap.get?_push_size _ (by cases k2<;>rfl))))
 have e1:(zB s.heap k1 k2 a1 a2).get? s.heap.objs.size=some (yK k1 a1):=Heap.get?_push_of_some _ (Heap.get?_push_of_some _ (Heap.get?_push_of_some _ (Heap.get?_push_of_some _ (Heap.get?_push_size _ (by cases k1<;>rfl)))))
 show _∧_
 rw[y2,y3,y4]at e5
 rw[y1,y2]at e3
 rw[y3]at e4
 rw[y1]at e2
 rw[y4]
 exact⟨⟨_,e5,rfl⟩,q _ _ rfl e5 e3 e4 (zp (h:=s.heap) e1) (zp (h:=s.heap) e2) fun c o x=>Heap.get?_push_of_some _ (Heap.get?_push_of_some _ (Heap.get?_push_of_some _ (Heap.get?_push_of_some _ (Heap.get?_push_of_some _ x))))⟩
noncomputable def EL:D→SK
 | .tup _=> .t
 |_=> .l
noncomputable def BW(k:SK)(G:Hp)(a:Addr)(vs:List V):Prop:=match k with
 | .l=>Rd G a (.lst vs)
 | .t=>G a=some (.tup vs)
theorem jc{K:PySem.W.Frag}{k:SK}{G F H:Hp}(P:bZ G F H){a:Addr}{vs:List V}(h:BW k G a vs):oC k K H a vs:=by
 cases k
 · exact .inl (fM P h)
 · exact iE.of (P.get h)
theorem mG{α:List (Option Addr)}{H:Hp}{st:ag}{d:D}{v:V}{xs:List D}(S:aU α st H)(r:Rep α H d v)(e:items? st d=some xs):∃p vs,v= .ref p∧aJ α H xs vs∧BW (EL d) H p vs:=by
 cases d<;>try(cases e;done)
 · unfold items? at e
   simp only at e
   split at e
   · rename_i ys q
     cases e
     obtain⟨a,ea,vs,h1,h2⟩:=S.jg q
     exact⟨a,vs,eQ ea r,h2,Rd.of h1⟩
   · cases e
 · cases e
   unfold Rep at r
   obtain⟨a,vs,rfl,_,h1,h2⟩:=r
   exact⟨a,vs,rfl,h2,h1⟩
 · cases e
   unfold Rep at r
   obtain⟨a,vs,rfl,_,h1,h2⟩:=r
   exact⟨a,vs,rfl,h2,h1⟩
noncomputable def eA(xs ys:List D):List D:=(xs.zip ys).map fun p=> .tup [p.1,p.2]
theorem mR{xs ys:List D}:(eA xs ys).length=min xs.length ys.length:=by unfold eA;simp
theorem tK{xs ys:List D}{n:Nat}{d:D}(e:(eA xs ys)[n]?=some d):∃x y,xs[n]?=some x∧ys[n]?=some y∧d= .tup [x,y]:=by
 unfold eA at e
 rw[List.getElem?_map]at e
 cases q:(xs.zip ys)[n]? with
 |none=>rw[q]at e;cases e
 |some p=>
  rw[q]at e
  cases e
  rw[List.getElem?_zip_eq_some]at q
  exact⟨p.1,p.2,q.1,q.2,rfl⟩
theorem HK{K:PySem.W.Frag}{k1 k2:SK}{a1 a2:Addr}{α:List (Option Addr)}{G:Hp}{ok:ag→Prop}{xs ys:List D}
 (h:∀α' G' st',Step α G α' G'→aU α' st' G'→ok st'→∃vs ws,BW k1 G' a1 vs∧BW k2 G' a2 ws∧aJ α' G' xs vs∧aJ α' G' ys ws):tG (L6 K k1 k2 a1 a2) α G ok (eA xs ys) where
 stop:=fun n α' G' F' H' st' s P S o hn=>by
  obtain⟨vs,ws,h1,h2,r1,r2⟩:=h α' G' st' s S o
  rw[mR]at hn
  refine⟨vs,ws,jc P h1,jc P h2,?_⟩
  have:=r1.length
  have:=r2.length
  omega
 go:=fun n d α' G' F' H' st' s P S o hn=>by
  obtain⟨vs,ws,h1,h2,r1,r2⟩:=h α' G' st' s S o
  obtain⟨x,y,ex,ey,rfl⟩:=tK hn
  obtain⟨v,ev,_⟩:=r1.get ex
  obtain⟨u,eu,_⟩:=r2.get ey
  exact⟨vs,ws,v,u,jc P h1,jc P h2,ev,eu⟩
 nG:=fun n d α' G' F' H' st' x H'' s P S o hn y=>by
  obtain⟨vs,ws,h1,h2,r1,r2⟩:=h α' G' st' s S o
  obtain⟨c,e,ec,ee,rfl⟩:=tK hn
  obtain⟨T,v,u,hT,rfl,rfl,y1,y2⟩:=y
  obtain⟨v',ev,rv⟩:=r1.get ec
  obtain⟨u',eu,ru⟩:=r2.get ee
  rw[y1 vs (jc P h1)]at ev
  rw[y2 ws (jc P h2)]at eu
  cases ev
  cases eu
  have hg:=(P.none hT).1
  refine⟨upd G' T (.tup [v,u]),Step.laid hg,P.laid hT,S.laid hg,?_⟩
  unfold Rep
  refine⟨T,[v,u],rfl,S.jI hg,aZ,?_⟩
  unfold aJ
  refine⟨v,[u],rfl,rv.step (Step.laid hg),?_⟩
  unfold aJ
  exact⟨u,[],rfl,ru.step (Step.laid hg),by unfold aJ;rfl⟩
noncomputable def Dk(ds:List D)(st1:ag)(K:List D→(ag→Prop)→ag→Prop):Prop:=match ds with
 | [x,y]=>(match items? st1 x,items? st1 y with
   |some xs,some ys=>K (eA xs ys) (fun st'=>items? st' x=some xs∧items? st' y=some ys) st1
   |_,_=>False)
 |_=>False
@[irreducible] noncomputable def tW:List D→ag→(List D→(ag→Prop)→ag→Prop)→Prop:=Dk
noncomputable def pB(t:DA):DI:=fun σ st K=>t σ st fun ds st1=>tW ds st1 K
theorem GS{n a1 a2:Nat}(h1:a1<n)(h2:a2<n):zG (n+4) (n+2) (n+3) n (n+1) a1 a2:=by
 have e0:([n+4,n+2,n+3,n,n+1]:List Nat).Nodup:=by
  simp only[List.nodup_cons,List.mem_cons,not_or,List.not_mem_nil,not_false_eq_true,and_true,List.nodup_nil]
  omega
 have e1:∀a:Nat,a<n→a∉([n+4,n+2,n+3,n,n+1]:List Nat):=fun a ha=>by
  simp only[List.mem_cons,not_or,List.not_mem_nil,not_false_eq_true,and_true]
  omega
 exact⟨e0,e1 a1 h1,e1 a2 h2⟩
theorem JX{X:Cx}{a b:Expr}{elts:List Expr}{kx:Nat}{tpos p pos:Pos}{t:DA}(hg:Gl X "zip")(hm:X.mg "zip"=none)(ha:PA X [a,b] (LA t))(hs:starEach [a,b] X.env=[(false,eval a X.env),(false,eval b X.env)])(hs2:starEach [b] X.env=[(false,eval b X.env)]):
 PI X (.Tuple elts kx tpos) (.Call (.Name "zip" p) [a,b] [] pos) (LI (pB t)):=by
 intro pins s σ H R I h
 obtain⟨α,σd,st,K,G,F,P,RS,S,t,k⟩:=h
 refine Call_ (ka I hg hm boot_zip (PyProof.Rows.callWith_type1 (bU (ha pos pins s σ H (fun vs H1=>∃ds α1 G1 st1,Step α G α1 G1∧bZ G1 F H1∧aU α1 st1 G1∧aJ α1 G1 ds vs∧tW ds st1 K) I ⟨α,σd,st,_,G,F,P,RS,S,t,fun ds st1 q α1 G1 H1 vs s1 P1 S1 r1=>⟨ds,α1,G1,st1,s1,P1,S1,r1,q⟩⟩) fun us s1 ⟨vs,H1,I1,rv,ds,α1,G1,st1,w1,P1,S1,r1,q⟩=>?_) (by rw[hs,hs2]) (by rw[hs2];rfl)))
 unfold tW Dk at q
 split at q
 · rename_i x y
   split at q
   · rename_i xs ys ex ey
     obtain⟨v1,v2,rfl,q1,q2⟩:=pH r1 rfl
     obtain⟨p1,vs1,rfl,g1,c1⟩:=mG S1 q1 ex
     obtain⟨p2,vs2,rfl,g2,c2⟩:=mG S1 q2 ey
     obtain⟨u1,u2,rfl,ru1,ru2⟩:=vals2 rv
     cases ru1
     cases ru2
     obtain⟨its1,_,l1⟩:=jZ I1 (jc P1 c1)
     obtain⟨its2,_,l2⟩:=jZ I1 (jc P1 c2)
     refine DF l1 l2 fun g n hn Z pI pO i1 i2 kp=>?_
     obtain⟨o1,eo1⟩:=l1.some
     obtain⟨o2,eo2⟩:=l2.some
     refine wpAny_pyIter_zip (s:={s1 with heap:=g}) Z ?_
     refine⟨n+4,[n+4,n+2,n+3,n,n+1],_,_,H1,rfl,I1.kept (t':=s1.toks) kp,DM (EL x) (EL y) (GS (by rw[hn];exact Heap.lt_size eo1) (by rw[hn];exact Heap.lt_size eo2)),⟨Z,pI,⟨_,_,pO⟩,i1,i2⟩,fun b hb=>?_,?_⟩
     · have hb':s1.heap.objs.size≤b:=by
        simp only[List.mem_cons,List.not_mem_nil,or_false]at hb
        rcases hb with rfl|rfl|rfl|rfl|rfl<;>(rw[←hn];first|exact Nat.le_refl _|exact Nat.le_add_right _ _)
       exact I1.tD hb' (I1.aI.fresh hb')
     · refine k _ _ st1 q _ α1 G1 H1 w1 P1 S1 (HK fun α' G' st' s' S' o=>?_)
       obtain⟨p1',ws1,e1,f1,d1⟩:=mG S' (q1.step s') o.1
       obtain⟨p2',ws2,e2,f2,d2⟩:=mG S' (q2.step s') o.2
       cases e1
       cases e2
       exact⟨ws1,ws2,d1,d2,f1,f2⟩
   · exact q.elim
 · exact q.elim
theorem m5{st:ag}{x y:D}{xs ys:List D}{K:List D→(ag→Prop)→ag→Prop}(ex:items? st x=some xs)(ey:items? st y=some ys)(k:∀ok:ag→Prop,(∀st',items? st' x=some xs→items? st' y=some ys→ok st')→K (eA xs ys) ok st):tW [x,y] st K:=by
 unfold tW Dk
 simp only[ex,ey]
 exact k _ fun st' h1 h2=>⟨h1,h2⟩
theorem pC{X:Cx}{a b:Expr}{elts:List Expr}{kx:Nat}{tpos p pos:Pos}{ar:DA}(hg:Gl X "zip")(hm:X.mg "zip"=none)(ha:JA X [a,b] ar)(hs:notStar a=true:=by rfl)(hs2:notStar b=true:=by rfl):JI X (.Tuple elts kx tpos) (.Call (.Name "zip" p) [a,b] [] pos) (pB ar):=by
 unfold JI;unfold JA at ha;exact JX hg hm ha (by rw[cL hs,cL hs2];rfl) (cL hs2)
end L3
namespace L3
open PySem L2
open PySem.Spec hiding items?
open PyProof.Rows hiding St
theorem w9(f:Nat→Int):∀n,preSum f (n+1)=f 0+preSum (fun i=>f (i+1)) n
 |0=>by show preSum f 0+f 0=f 0+0;show(0:Int)+f 0=f 0+0;omega
 |n+1=>by
  have h:=w9 f n
  show preSum f (n+1)+f (n+1)=f 0+(preSum (fun i=>f (i+1)) n+f (n+1))
  rw[h];omega
theorem zS:∀ns:List Int,preSum (fun i=>ns.getD i 0) ns.length=ns.sum
 | []=>rfl
 |n::ns=>by
  rw[List.length_cons,w9]
  have:(fun i=>(n::ns).getD (i+1) 0)=fun i=>ns.getD i 0:=by funext i;simp
  rw[this,zS ns,List.sum_cons]
  rfl
section
variable {X:Cx}
noncomputable def wA:ft:=fun ds st K=>match ds with| [.lst xs]=>(match kI xs with|some ns=>K (.int ns.sum) st|none=>False)|_=>False
theorem lE:∀ {ns:List Int} {us:List Value},Vals (ns.map V.int) us→∀(i:Nat) (u:Value),us[i]?=some u→∃t,u=Value.int (ns.getD i 0) t
 | [],_,.nil,i,u,e=>by simp at e
 |n::ns,_,.cons h t,0,u,e=>by
  obtain⟨tk,rfl⟩:=h
  simp at e
  exact⟨tk,by rw[←e];rfl⟩
 |n::ns,_,.cons h t,i+1,u,e=>by
  obtain⟨tk,q⟩:=lE t i u (by simpa using e)
  exact⟨tk,by rw[q];simp⟩
theorem KH(hc:X.calm=true):bY X (.builtin "sum") (f_ wA):=fun pins s σ H xs us Q I rs ⟨α,ds,st,K,G,F',P,r,S,q,k⟩=>by
 unfold wA at q
 split at q
 · rename_i ys
   split at q
   · rename_i ns e
     obtain⟨v,rfl,r1⟩:=gE r rfl
     unfold Rep at r1
     obtain⟨a,vs,rfl,na,h1,h2⟩:=r1
     obtain⟨u,rfl,ru⟩:=vals1 rs
     cases ru
     have hv:=qF h2 e
     subst hv
     obtain⟨z,aq,n,rv,hl,eo⟩:=Inv.sR I (fM P h1)
     have isL:s.heap.IsList a aq.toArray:=⟨_,eo,rfl,n,rfl⟩
     refine call_sum_walkAnyB (wpAny_pyIter_list isL ?_)
     have hne:a≠s.heap.objs.size:=Nat.ne_of_lt (Heap.lt_size eo)
     refine⟨s.heap.objs.size,_,_,_,_,_,_,fun i=>ns.getD i 0,rfl,(Walks.list (A:=X.A.in1) (I.ok.hd hc) _ a hne aq.toArray).toS,⟨⟨_,Heap.get?_push_size _ rfl,rfl,rfl⟩,⟨_,Heap.get?_push_of_some _ eo,rfl,n,rfl⟩⟩,?_,?_,?_⟩
     · intro b hb
       rw[Heap.size_push]
       simp only[List.mem_cons,List.not_mem_nil,or_false]at hb
       rcases hb with rfl|rfl
       · exact Nat.lt_succ_self _
       · exact Nat.lt_succ_of_lt (Heap.lt_size eo)
     · intro i w hw
       obtain⟨t,e⟩:=lE rv i w (by simpa using hw)
       exact .inl ⟨t,e⟩
     · intro s' t' hm
       have kp:∀b o,s.heap.get? b=some o→s'.heap.get? b=some o:=fun b o q=>hm.heap b o (by
        intro hb
        have:b=s.heap.objs.size:=by simpa using hb
        exact absurd (Heap.lt_size q) (by rw[this];exact Nat.lt_irrefl _)) (Heap.get?_push_of_some _ q)
       have es:s'= {s with heap:=s'.heap,toks:=s'.toks}:=by
        have g:=hm.gens
        have d:=hm.drawn
        have o:=hm.os
        cases s'
        cases s
        simp_all
       have en:preSum (fun i=>ns.getD i 0) aq.toArray.size=ns.sum:=by
        have:aq.toArray.size=ns.length:=by rw[List.size_toArray,←hl,List.length_map]
        rw[this];exact zS ns
       rw[en,es]
       exact⟨.int ns.sum,H,I.kept (t':=s'.toks) kp,⟨t',rfl⟩,k.here P q S (by unfold Rep;rfl)⟩
   · exact q.elim
 · exact q.elim
@[irreducible] noncomputable def xv:ft:=wA
theorem Ld(hc:X.calm=true):bY X (.builtin "sum") (f_ xv):=by unfold xv;exact KH hc
end
theorem ints_map:∀ns:List Int,kI (ns.map D.int)=some ns
 | []=>rfl
 |n::ns=>by simp[kI,ints_map ns]
theorem JY{st:ag}{K:DK}{xs:List D}{ns:List Int}(h:kI xs=some ns)(k:K (.int ns.sum) st):xv [.lst xs] st K:=by unfold xv wA;simp only[h];exact k
end L3
namespace L3
open PySem L2
open PySem.Spec hiding items?
open PyProof.Rows hiding St
section
variable {X:Cx}{pos:Pos}
theorem La{α:List (Option Addr)}{H:Hp}{ds:List D}{xs:List V}{d e f:D}(r:aJ α H ds xs)(q:ds=[d,e,f]):∃v u t,xs=[v,u,t]∧Rep α H d v∧Rep α H e u∧Rep α H f t:=by
 subst q
 unfold aJ at r
 obtain⟨v,q,rfl,h1,h2⟩:=r
 obtain⟨u,t,rfl,h3,h4⟩:=pH h2 rfl
 exact⟨v,u,t,rfl,h1,h3,h4⟩
end
end L3
namespace L3
open PySem L2 PySem.SeqAt
open PySem.Spec hiding items?
open PyProof.Rows hiding St
section
variable {X:Cx}{pins:List (Addr×Obj)}{σ:L2.St}{H:Hp}{s:Shared}{α:List (Option Addr)}
theorem zP{A:Around}{d e:D}{x y:V}{u v:Value}(hd:vt d=true)(he:vt e=true)(rd:Rep α H d x)(re:Rep α H e y)(rx:RelV x u)(ry:RelV y v):RcNeAt A s u v (!cO d e):=by
 cases d<;>cases e<;>try(first|(cases hd;done)|(cases he;done))
 all_goals(unfold Rep at rd re;subst rd re)
 all_goals(first|(obtain⟨t,rfl⟩:=rx;obtain⟨t',rfl⟩:=ry)|(obtain⟨t,rfl⟩:=rx;cases ry)|(cases rx;obtain⟨t,rfl⟩:=ry)|(cases rx;cases ry))
 all_goals unfold cO
 · exact RcNeAt.none_none
 · exact RcNeAt.none_bool _
 · exact RcNeAt.none_int _ _
 · exact RcNeAt.none_str _ _
 · exact RcNeAt.bool_none _
 · exact RcNeAt.bool_bool _ _
 · exact RcNeAt.bool_int _ _ _
 · exact RcNeAt.bool_str _ _ _
 · exact RcNeAt.int_none _ _
 · exact RcNeAt.int_bool _ _ _
 · exact RcNeAt.int_int _ _ _ _
 · exact RcNeAt.int_str _ _ _ _
 · exact RcNeAt.str_none _ _
 · exact RcNeAt.str_bool _ _ _
 · exact RcNeAt.str_int _ _ _ _
 · exact RcNeAt.str_str _ _ _ _
theorem vk(I:Inv X pins σ H s){A:Around}{xs:List D}{e:D}{x y:V}{u v:Value}(he:vt e=true)(rd:Rep α H (.lst xs) x)(re:Rep α H e y)(rx:RelV x u)(ry:RelV y v)(hu:A.units<cLine):
 RcNeAt A s u v (!cO (.lst xs) e)∧RcNeAt A s v u (!cO e (.lst xs)):=by
 obtain⟨a,vs,aq,rfl,_,_,hl⟩:=lst_is I rd rx
 cases e<;>try(cases he;done)
 all_goals(unfold Rep at re;subst re)
 all_goals(first|(obtain⟨t,rfl⟩:=ry)|(cases ry))
 all_goals unfold cO
 · exact⟨RcNeAt.list_none hl hu,RcNeAt.none_list hl hu⟩
 · exact⟨RcNeAt.list_bool _ hl hu,RcNeAt.bool_list _ hl hu⟩
 · exact⟨RcNeAt.list_int _ _ hl hu,RcNeAt.int_list _ _ hl hu⟩
 · exact⟨RcNeAt.list_str _ _ hl hu,RcNeAt.str_list _ _ hl hu⟩
theorem vw(I:Inv X pins σ H s){A:Around}{xs:List D}{e:D}{x y:V}{u v:Value}(he:vt e=true)(rd:Rep α H (.tup xs) x)(re:Rep α H e y)(rx:RelV x u)(ry:RelV y v)(hu:A.units<cLine):
 RcNeAt A s u v (!cO (.tup xs) e)∧RcNeAt A s v u (!cO e (.tup xs)):=by
 obtain⟨a,vs,aq,rfl,_,_,hl⟩:=tup_is I rd rx
 cases e<;>try(cases he;done)
 all_goals(unfold Rep at re;subst re)
 all_goals(first|(obtain⟨t,rfl⟩:=ry)|(cases ry))
 all_goals unfold cO
 · exact⟨RcNeAt.tuple_none hl hu,RcNeAt.none_tuple hl hu⟩
 · exact⟨RcNeAt.tuple_bool _ hl hu,RcNeAt.bool_tuple _ hl hu⟩
 · exact⟨RcNeAt.tuple_int _ _ hl hu,RcNeAt.int_tuple _ _ hl hu⟩
 · exact⟨RcNeAt.tuple_str _ _ hl hu,RcNeAt.str_tuple _ _ hl hu⟩
theorem LU(I:Inv X pins σ H s)(n:Nat)(A:Around)(d e:D)(x y:V)(u v:Value)(hd:pl n d=true)(he:pl n e=true)(rd:Rep α H d x)(re:Rep α H e y)(rx:RelV x u)(ry:RelV y v)(hu:A.units+n<cLine):RcNeAt A s u v (!cO d e):=by
 cases n with
 |zero=>
  refine zP ?_ ?_ rd re rx ry
  · cases d<;>first|rfl|(cases hd)
  · cases e<;>first|rfl|(cases he)
 |succ n=>
  have hu0:A.units<cLine:=by omega
  have hin:A.in1.units+n<cLine:=by rw[Around.in1_units];omega
  cases d<;>try(cases hd;done)
  case lst xs=>
   cases e<;>try(cases he;done)
   case lst ys=>
    obtain⟨a,vs,aq,rfl,r1,v1,l1⟩:=lst_is I rd rx
    obtain⟨b,ws,jts,rfl,r2,v2,l2⟩:=lst_is I re ry
    have e1:=r1.length
    have e2:=v1.length
    have e3:=r2.length
    have e4:=v2.length
    unfold cO
    by_cases hlen:xs.length=ys.length
    · rw[mS hlen]
      have hsz:aq.toArray.size=jts.toArray.size:=by simp only[List.size_toArray];omega
      have hx:xs.length=aq.toArray.size:=by simp only[List.size_toArray];omega
      rw[hx]
      refine RcNeAt.lists l1 l2 hsz hu0 fun j h1 h2=>?_
      obtain⟨p,_,q1,q2⟩:=jF r1 v1 j (by simpa using h1)
      obtain⟨p',_,q1',q2'⟩:=jF r2 v2 j (by simpa using h2)
      exact(Az I n A.in1 _ _ p p' _ _ (iD (by unfold pl at hd;exact hd) j) (iD (by unfold pl at he;exact he) j) q1 q1' (by simpa using q2) (by simpa using q2') hin).2
    · rw[mN hlen]
      exact RcNeAt.lists_lengths l1 l2 (by simp only[List.size_toArray,bne_iff_ne,ne_eq];omega) hu0
   case tup ys=>
    obtain⟨a,vs,aq,rfl,r1,v1,l1⟩:=lst_is I rd rx
    obtain⟨b,ws,jts,rfl,r2,v2,l2⟩:=tup_is I re ry
    unfold cO
    exact RcNeAt.list_tuple l1 l2 hu0
   all_goals exact(vk I rfl rd re rx ry hu0).1
  case tup xs=>
   cases e<;>try(cases he;done)
   case tup ys=>
    obtain⟨a,vs,aq,rfl,r1,v1,l1⟩:=tup_is I rd rx
    obtain⟨b,ws,jts,rfl,r2,v2,l2⟩:=tup_is I re ry
    have e1:=r1.length
    have e2:=v1.length
    have e3:=r2.length
    have e4:=v2.length
    unfold cO
    have key:=RcNeAt.tuples (e:=fun j=>cO (xs.getD j .aG) (ys.getD j .aG)) l1 l2 hu0 fun j h1 h2=>by
     obtain⟨p,_,q1,q2⟩:=jF r1 v1 j (by simpa using h1)
     obtain⟨p',_,q1',q2'⟩:=jF r2 v2 j (by simpa using h2)
     exact(Az I n A.in1 _ _ p p' _ _ (iD (by unfold pl at hd;exact hd) j) (iD (by unfold pl at he;exact he) j) q1 q1' (by simpa using q2) (by simpa using q2') hin).2
    by_cases hlen:xs.length=ys.length
    · rw[mS hlen]
      have hsz:aq.toArray.size=jts.toArray.size:=by simp only[List.size_toArray];omega
      have hx:xs.length=aq.toArray.size:=by simp only[List.size_toArray];omega
      rw[hsz,Nat.min_self,beq_self_eq_true,Bool.and_true,←hsz,←hx]at key
      exact key
    · rw[mN hlen]
      have hne:(aq.toArray.size==jts.toArray.size)=false:=by simp only[List.size_toArray,beq_eq_false_iff_ne,ne_eq];omega
      rw[hne,Bool.and_false]at key
      exact key
   case lst ys=>
    obtain⟨a,vs,aq,rfl,r1,v1,l1⟩:=tup_is I rd rx
    obtain⟨b,ws,jts,rfl,r2,v2,l2⟩:=lst_is I re ry
    unfold cO
    exact RcNeAt.tuple_list l1 l2 hu0
   all_goals exact(vw I rfl rd re rx ry hu0).1
  all_goals
   cases e<;>try(cases he;done)
   case lst ys=>exact(vk I rfl re rd ry rx hu0).2
   case tup ys=>exact(vw I rfl re rd ry rx hu0).2
   all_goals exact zP rfl rfl rd re rx ry
noncomputable def JP:dN:=fun x y st K=>pl 40 x=true∧pl 40 y=true∧K (.bl (!cO x y)) st
theorem Lo{k:Nat}(hr:cT k X.A):cm X (compareOp .NotEq) (LR JP):=fun pins s σ H x y v u Q I rx ry ⟨α,d,e,st,K,G,F',P,r1,r2,S,q,k⟩=>by
 have hu:=hr.units
 exact LU I 40 X.A d e x y v u q.1 q.2.1 (r1.mono P.same) (r2.mono P.same) rx ry (by omega) _ _ _ _ ⟨.bl (!cO d e),H,I,rfl,k.here P q.2.2 S (by unfold Rep;rfl)⟩
@[irreducible] noncomputable def o9:dN:=JP
theorem wx{k:Nat}(hr:cT k X.A):cm X (compareOp .NotEq) (LR o9):=by unfold o9;exact Lo hr
end
theorem yM{st:ag}{K:DK}{d e:D}(h1:pl 40 d=true)(h2:pl 40 e=true)(k:K (.bl (!cO d e)) st):o9 d e st K:=by unfold o9;exact⟨h1,h2,k⟩
theorem yt{st:ag}{K:DK}{d:D}(h:pl 40 d=true)(k:K (.bl false) st):o9 d d st K:=yM h h (by rw[m7 40 d h];exact k)
theorem qL{st:ag}{n:Nat}{xs:List D}(h:items? st (.ref n)=some xs):st[n]?=some (.lst xs):=by
 unfold items? at h
 simp only at h
 split at h
 · rename_i q;cases h;exact q
 · cases h
theorem Gy{st:ag}{d:D}{xs:List D}{K:List D→(ag→Prop)→ag→Prop}(h:items? st d=some xs)(k:∀ok:ag→Prop,(∀st',items? st' d=some xs→ok st')→K xs ok st):og d st K:=by
 cases d with
 |lst ys=>cases h;exact mF (k _ fun _ _=>trivial)
 |tup ys=>cases h;exact e8 (k _ fun _ _=>trivial)
 |ref n=>
  have e:=qL h
  unfold og uX
  simp only[e]
  exact k _ fun st' h'=>qL h'
 |_=>cases h
theorem pj{env:Env}:∀(l:List (Str×NameKind)) (x:Str),(l.lookup x=some .cell∨l.lookup x=some .free)→
 ((l.map fun(n,k)=>if(k== .free&&env.scope.kind== .function&&env.kindOf n==some .cell)then(n,.cell)else(n,k)).lookup x=some .cell∨(l.map fun(n,k)=>if(k== .free&&env.scope.kind== .function&&env.kindOf n==some .cell)then(n,.cell)else(n,k)).lookup x=some .free)
 | [],x,h=>by simp at h
 |(n,k)::l,x,h=>by
  rw[List.map_cons]
  dsimp only
  by_cases hx:x=n
  · subst hx
    rw[List.lookup_cons_self]at h
    split
    · rw[List.lookup_cons_self];exact .inl rfl
    · rw[List.lookup_cons_self];exact h
  · have hb:(x==n)=false:=by simpa using hx
    have e1:List.lookup x ((n,k)::l)=List.lookup x l:=by rw[List.lookup_cons,hb]
    rw[e1]at h
    have ih:=pj (env:=env) l x h
    split
    · rw[List.lookup_cons,hb];exact ih
    · rw[List.lookup_cons,hb];exact ih
theorem ba.E2{X0:Cx}{scope0 scope:Scope}{Nc0 Nc:List Str}{C:Addr}{s:Shared}{H:Hp}{ex:List Addr}{fr:List (Option Nat)}(h:tS scope0 Nc0 scope Nc fr=true):ba (fu X0 scope0 Nc0 C s H ex) scope Nc fr:=by
 unfold tS at h
 simp only[Bool.and_eq_true]at h
 obtain⟨⟨⟨⟨⟨h1,h2⟩,h3⟩,h4⟩,h5⟩,h6⟩:=h
 refine⟨by simpa using h1,fun x hx hk=>?_,fun x hx hk=>?_,fun x hx hk=>?_,by simpa using h5,fun i j x e1 e2=>?_⟩
 · have:=List.all_eq_true.mp h2 x hx
   rw[hk]at this
   simpa using this
 · have:=List.all_eq_true.mp h3 x hx
   rw[hk]at this
   simpa using this
 · have:=List.all_eq_true.mp h4 x hx
   rw[hk]at this
   have z:scope0.names.lookup x.1=some .cell∨scope0.names.lookup x.1=some .free:=by simpa using this
   exact pj _ _ z
 · have hi:i<fr.length:=(List.getElem?_eq_some_iff.mp e2).1
   have:=List.all_eq_true.mp h6 i (List.mem_range.mpr hi)
   rw[e1,e2]at this
   simp only[Bool.and_eq_true,Bool.or_eq_true,beq_iff_eq]at this
   exact⟨this.1.1,this.1.2,pj _ _ this.2⟩
end L3
namespace L3
open PySem L2
open PySem.Spec hiding items?
open PyProof.Rows hiding St
section
variable {X:Cx}
noncomputable def FF:dN:=fun x y st K=>match x,y with
 | .lst xs,.int k=>(-(2^63)≤k∧k<2^63∧xs.length*k.toNat≤sizeLine)∧K (.ref st.length) (st++[.lst (List.replicate k.toNat xs).flatten])
 |_,_=>False
theorem IY:cm X (binaryOp .Mult) (LR FF):=fun pins s σ H x y v u Q I rx ry ⟨α,d,e,st,K,G,F',P,r1,r2,S,q,k⟩=>by
 cases d<;>cases e<;>try exact q.elim
 unfold Rep at r1 r2
 obtain⟨a,vs,rfl,na,ha,ra⟩:=r1
 refine zY pins s σ H _ _ v u Q I rx ry ⟨a,_,vs,rfl,r2,fM P ha,q.1.1,q.1.2.1,by rw[←ra.length];exact q.1.2.2,fun p hp=>?_⟩
 exact k.new P q.2 S (bf.mpr (k6 (bf.mp ra) _)) hp
@[irreducible] noncomputable def ux:dN:=FF
theorem Iu:cm X (binaryOp .Mult) (LR ux):=by unfold ux;exact IY
end
theorem FV{st:ag}{K:DK}{xs:List D}{i:Int}(h: -(2^63)≤i∧i<2^63∧xs.length*i.toNat≤sizeLine)(k:K (.ref st.length) (st++[.lst (List.replicate i.toNat xs).flatten])):ux (.lst xs) (.int i) st K:=by unfold ux;exact⟨h,k⟩
theorem BX{n:Nat}{d:D}(h:d∈d5 0 n):∃i:Nat,i<n∧d= .int (i:Int):=by
 unfold d5 at h
 obtain⟨i,hi,rfl⟩:=List.mem_map.mp h
 rw[List.mem_range]at hi
 exact⟨i,hi,by rw[Int.zero_add]⟩
theorem BS{f:Nat→D}(n:Nat):(d5 0 n).map (fun d=>match d with| .int i=>f i.toNat|_=> .aG)=(List.range n).map f:=by
 unfold d5
 rw[List.map_map]
 refine List.map_congr_left fun i _=>?_
 show f ((0:Int)+(i:Int)).toNat=f i
 have:((0:Int)+(i:Int)).toNat=i:=by omega
 rw[this]
theorem lZ{tg:fB}{te:DE}{σc:cj}{st:ag}{K:List D→ag→Prop}(f:Nat→D)(n:Nat)(hx:∀i:Nat,i<n→∀K',K' (f i) st→∃σ2,tg (.int (i:Int)) σc=some σ2∧te σ2 st K')(k:K ((List.range n).map f) st):dk tg cq te (fun _=>True) σc (d5 0 n) [] st K:=by
 refine comp_map (g:=fun d=>match d with| .int i=>f i.toNat|_=> .aG) trivial _ (fun d hd K' q=>?_) (by rw[BS];exact k)
 obtain⟨i,hi,rfl⟩:=BX hd
 exact hx i hi K' q
theorem nJ{tg:fB}{body:DS}{E:l9}(n:Nat)(I:Nat→cj→ag→Prop)(hend:∀σ st,I n σ st→E.nx σ st)
 (hstep:∀(j:Nat) σ st (rest:List D),j<n→I j σ st→(∀σ' st',I (j+1) σ' st'→iH tg body (fun _=>True) E rest σ' st')→∃σ1,tg (.int (j:Int)) σ=some σ1∧body {E with nx:=iH tg body (fun _=>True) E rest,ct:=iH tg body (fun _=>True) E rest,bk:=E.nx} σ1 st)
 {σ:cj} {st:ag} (h0:I 0 σ st):iH tg body (fun _=>True) E (d5 0 n) σ st:=by
 refine fE (fun rest σ st=>∃j:Nat,j≤n∧rest=(List.range (n-j)).map (fun i=>D.int (((j+i:Nat):Int)))∧I j σ st) ?_ ?_ _ _ _ ⟨0,Nat.zero_le _,by unfold d5;simp,h0⟩
 · rintro σ st ⟨j,hj,hr,hI⟩
   have:n-j=0:=by
    cases q:n-j with
    |zero=>rfl
    |succ m=>rw[q,List.range_succ_eq_map]at hr;cases hr
   have hjn:j=n:=by omega
   subst hjn
   exact⟨trivial,hend σ st hI⟩
 · rintro d rest σ st ⟨j,hj,hr,hI⟩ next
   cases q:n-j with
   |zero=>rw[q]at hr;cases hr
   |succ m=>
    rw[q,List.range_succ_eq_map,List.map_cons,List.map_map]at hr
    simp only[List.cons.injEq]at hr
    obtain⟨rfl,hrest⟩:=hr
    refine⟨trivial,hstep j σ st rest (by omega) hI fun σ' st' h'=>next σ' st' ⟨j+1,by omega,?_,h'⟩⟩
    have:n-(j+1)=m:=by omega
    rw[this,hrest]
    refine List.map_congr_left fun i _=>?_
    show D.int (((j+(i+1):Nat):Int))=D.int (((j+1+i:Nat):Int))
    congr 2;omega
end L3
namespace L3
open PySem L2
open PySem.Spec hiding items?
open PyProof.Rows hiding St
section
variable {X:Cx}
end
section
variable {X:Cx}{pos:Pos}
end
end L3
namespace L3
open PySem L2
open PySem.Spec hiding items?
open PyProof.Rows hiding St
section
variable {X:Cx}
theorem vg{M:Model}{A:Around}{E:Value→Shared→Prop}{s:Shared}{Q:Value→Shared→Prop}{x:V}{v:Value}{b:Bool}(r:RelV x v)(h:Q (.bool (!(v== .bool b))) s):wpAny M A (compareOp .IsNot v (.bool b)) Q E s:=by
 cases x
 case bl c=>
  cases r
  cases c<;>cases b<;>exact wpAny_pure h
 all_goals first
  |(cases r;exact wpAny_pure h)
  |(obtain⟨t,rfl⟩:=r;exact wpAny_pure h)
noncomputable def yk:dN:=fun x y st K=>match y with| .aG=>live st x=true∧K (.bl (!Md x)) st| .bl b=>live st x=true∧K (.bl (!Jm x b)) st|_=>False
theorem Dg:cm X (compareOp .IsNot) (LR yk):=fun pins s σ H x y v u Q I rx ry ⟨α,d,e,st,K,G,F',P,r1,r2,S,q,k⟩=>by
 cases e<;>try exact q.elim
 · refine F1 pins s σ H x y v u Q I rx ry ⟨α,d,.aG,st,K,G,F',P,r1,r2,S,⟨q.1,?_⟩,k⟩
   have q2:=q.2
   cases d<;>exact q2
 · rename_i b
   unfold Rep at r2
   subst r2
   cases ry
   refine vg rx ?_
   rw[FR S q.1 r1 rx]
   exact⟨.bl (!Jm d b),H,I,rfl,k.here P q.2 S (by unfold Rep;rfl)⟩
@[irreducible] noncomputable def um:dN:=yk
theorem Jg:cm X (compareOp .IsNot) (LR um):=by unfold um;exact Dg
end
section
variable {st:ag}{K:DK}{d:D}{b:Bool}
theorem CF(h:live st d=true)(k:K (.bl (!Md d)) st):um d .aG st K:=by unfold um;exact⟨h,k⟩
end
end L3
namespace L3
open PySem L2
open PySem.Spec hiding items?
open PyProof.Rows hiding St
section
variable {X:Cx}
end
end L3
namespace L3
open PySem L2
open PySem.Spec hiding items?
open PyProof.Rows hiding St
open AutoSeq1 (wpAny_loadPart')
theorem FT{P:Program}{w:World}{A:Around}(hh:A.handled=none)(k:SK)(t a:Addr)(hne:a≠t)(us:Array Value):Draws P w A t [t,a] us.size (fun i v=>us[i]?=some v) (fun n g=>pQ k t a n g∧lb k g a us) where
 live:=fun i h z=>((l8 (P:=P) (w:=w) k t a hne us).lv i h z).1
 frame:=fun i h h' z kp=>(l8 (P:=P) (w:=w) k t a hne us).fr i h h' z fun b hb o e=>kp b (by rcases hb with rfl|rfl<;>simp) o e
 item:=fun i s Q E hi z q=>(l8 (P:=P) (w:=w) k t a hne us).nx i A s Q E us[i] z (by simp[hi]) fun g j sb=>q _ g s.toks (by simp[hi]) j sb
 done:=fun s Q E z q=>(l8 (P:=P) (w:=w) k t a hne us).en us.size A s Q E hh z (by simp) q
theorem o5(l:Addr)(items:Array Value)(n:Nat)(dct:Option Addr)(sl:Array (Option Value)):
 Meets (Builtin.«enumerate.__new__» ⟨[.type "enumerate",.ref l],[]⟩) (fun _ R s=>s.heap.get? l=some {cls:= .type "tuple",dict:=dct,data:= .seq items n,slots:=sl}∧
  R (.ok (.ret (.ref (s.heap.push {cls:= .type "tuple_iterator",data:= .fields #[.ref l,.int 0 0]}).objs.size)))
   {s with heap:=(s.heap.push {cls:= .type "tuple_iterator",data:= .fields #[.ref l,.int 0 0]}).push {cls:= .type "enumerate",data:= .fields #[.none,.bool false,.ref s.heap.objs.size,rawInt 0,.none,.none]}}):=
 .of_wp fun prog w A R s h=>by
  obtain⟨hp,g,d,tk,os⟩:=s;obtain⟨hl,h⟩:=h
  have hsub:=sub_enumerate
  have hL:Heap.IsTuple (Shared.heap ⟨hp,g,d,tk,os⟩) l items:=⟨_,hl,rfl,n,rfl⟩
  wp_walk using wpAny_loadPart' hl
  refine wpAny_stack_any fun st=>wpAny_pure ?_
  split
  · rename_i c _ _ _ _ _
    cases (c==Value.type "enumerate")
    · wp_walk using wpAny_loadPart' hl,wpAny_pyIter_tuple hL
      exact⟨_,rfl,h⟩
    · wp_walk using wpAny_loadPart' hl,wpAny_pyIter_tuple hL
      exact⟨_,rfl,h⟩
  · wp_walk using wpAny_loadPart' hl,wpAny_pyIter_tuple hL
    exact⟨_,rfl,h⟩
theorem BE{P:Program}{w:World}{A:Around}{s:Shared}{E:Value→Shared→Prop}{k:SK}{a:Addr}{us:Array Value}{Q:Value→Shared→Prop}(c:lb k s.heap a us)
 (q:∀g,IsEnum g (s.heap.objs.size+1) s.heap.objs.size 0 .none→pQ k s.heap.objs.size a 0 g→(∀b o,s.heap.get? b=some o→g.get? b=some o)→Q (.ref (s.heap.objs.size+1)) {s with heap:=g}):
 wpAny (model P w) A (call (.type "enumerate") [.ref a]) Q E s:=by
 cases k
 · exact call_enumerate_list c fun g h1 h2 _ h4=>q g h1 h2 h4
 · obtain⟨⟨c,dct,dt,sl⟩,hl,hc,n,hd⟩:=c
   replace hc:c= .type "tuple":=hc
   replace hd:dt= .seq us n:=hd
   subst hc hd
   refine callType_new F.called_enumerate (by decide) (F.typeCall_enumerate_1 _) (F.newCall_enumerate_1 _) (fun obj=>F.args_object_init_2 obj _) F.entry_enumerate_new
    (o5 a us n dct sl) ⟨hl,?_⟩
   have hz:(s.heap.push {cls:= .type "tuple_iterator",data:= .fields #[.ref a,.int 0 0]}).objs.size=s.heap.objs.size+1:=Heap.size_push ..
   show _∧_
   rw[hz]
   have he:IsEnum ((s.heap.push {cls:= .type "tuple_iterator",data:= .fields #[.ref a,.int 0 0]}).push
    {cls:= .type "enumerate",data:= .fields #[.none,.bool false,.ref s.heap.objs.size,rawInt 0,.none,.none]}) (s.heap.objs.size+1) s.heap.objs.size 0 .none:=by
    have:=Heap.get?_push_size (s.heap.push {cls:= .type "tuple_iterator",data:= .fields #[.ref a,.int 0 0]})
     (o:={cls:= .type "enumerate",data:= .fields #[.none,.bool false,.ref s.heap.objs.size,rawInt 0,.none,.none]}) rfl
    rw[hz]at this;exact this
   exact⟨⟨_,he,rfl⟩,q _ he ⟨_,Heap.get?_push_of_some _ (Heap.get?_push_size _ rfl),rfl,rfl⟩ fun b o x=>Heap.get?_push_of_some _ (Heap.get?_push_of_some _ x)⟩
noncomputable def Mb(K:PySem.W.Frag)(k:SK)(a:Addr):It:=
 ⟨fun i H=>∃xs x,oC k K H a xs∧xs[i]?=some x,
  fun i H v H'=>∃T x,H T=none∧v= .ref T∧H'=upd H T (.tup [.int (i:Int),x])∧∀xs,oC k K H a xs→xs[i]?=some x,
  fun i H=>∃xs,oC k K H a xs∧xs.length≤i⟩
noncomputable def Ni(e t a:Addr)(k:SK)(i:Nat)(h:Heap):Prop:=(∃old,IsEnum h e t i old)∧pQ k t a i h
theorem CQ{P:Program}{w:World}{K:PySem.W.Frag}{elts:List Expr}{kx:Nat}{pos:Pos}{e t a:Addr}(k:SK)(n1:e≠t)(n2:a≠e)(n3:a≠t):
 Turn P w K (.Tuple elts kx pos) (Mb K k a) [e,t] e (Ni e t a k) where
 mem:=by simp
 obj:=fun i h st b hb=>by
  obtain⟨⟨old,he⟩,i1⟩:=st
  simp only[List.mem_cons,List.not_mem_nil,or_false]at hb
  rcases hb with rfl|rfl
  · exact⟨_,he,fun v z=>by cases z⟩
  · exact mr i1
 keep:=fun i h h' st kp=>by
  obtain⟨⟨old,he⟩,i1⟩:=st
  exact⟨⟨old,kp e (by simp) _ he⟩,om i1 (kp t (by simp))⟩
 item:=by
  intro X hP hw hK hc i pins s σ H E I hf st hg
  subst hP hw hK
  obtain⟨⟨old,he⟩,i1⟩:=st
  obtain⟨xs,x,q1,ex⟩:=hg
  obtain⟨us,r1,l1⟩:=jZ I q1
  obtain⟨u,eu,ru⟩:=r1.get ex
  have hlt:i<us.toArray.size:=by
   have:=(List.getElem?_eq_some_iff.mp eu).1
   simpa using this
  refine wpAny_pyNext_enum_itemD (FT (A:=X.A.in1) (show X.A.in1.handled=none from I.ok.hd hc) k t a n3 us.toArray) he ⟨i1,l1⟩ hlt n1 (by simp only[List.mem_cons,List.not_mem_nil,or_false,not_or];exact⟨n1,Ne.symm n2⟩) fun y h' tk py ho hs hT hsz kp=>⟨_,rfl,?_⟩
  have hy:y=u:=by
   have:us[i]?=some y:=by simpa using py
   rw[eu]at this;cases this;rfl
  subst hy
  refine wpAny_letOwnedTupleGo_enum (s:={s with heap:=h',toks:=tk+1}) ho fun k' he' sb=>?_
  have hTe:s.heap.objs.size≠e:=Nat.ne_of_gt (Heap.lt_size he)
  have kp3:∀b o,b∉[e,t]→s.heap.get? b=some o→k'.get? b=some o:=fun b o hb eb=>by
   simp only[List.mem_cons,not_or,List.not_mem_nil,not_false_eq_true,and_true]at hb
   exact sb.extBut _ _ hb.1 (kp b o hb.1 hb.2 eb)
  refine⟨.ref s.heap.objs.size,upd H s.heap.objs.size (.tup [.int (i:Int),x]),FD (s:=s) (tk:=tk+1) I hf kp3 (Nat.le_refl _) ?_,rfl,⟨s.heap.objs.size,x,I.aI.fresh (Nat.le_refl _),rfl,rfl,?_⟩,?_,?_⟩
  · refine⟨Nat.le_of_ble_eq_true rfl,[.int (i:Int) tk,y],.cons ⟨tk,rfl⟩ (.cons ru .nil),?_⟩
    exact⟨_,sb.extBut _ _ hTe hT,rfl,_,rfl⟩
  · intro xs' q'
    rw[u_ I q' q1];exact ex
  · refine⟨⟨_,by simpa using he'⟩,om hs.1 fun o eo=>sb.extBut _ _ (Ne.symm n1) eo⟩
  · intro b hb
    have:b≠s.heap.objs.size:=by
     obtain⟨o,eb⟩:∃o,s.heap.get? b=some o:=by
      simp only[List.mem_cons,List.not_mem_nil,or_false]at hb
      rcases hb with rfl|rfl
      · exact⟨_,he⟩
      · obtain⟨o,eo,_⟩:=mr i1;exact⟨o,eo⟩
     exact Nat.ne_of_lt (Heap.lt_size eb)
    rw[aC this]
    exact(hf b hb).1
 done:=by
  intro X hP hw hK hc i pins s σ H E I hf st hg
  subst hP hw hK
  obtain⟨⟨old,he⟩,i1⟩:=st
  obtain⟨xs,q1,hle⟩:=hg
  obtain⟨us,r1,l1⟩:=jZ I q1
  have e1:=r1.length
  have tz:s.TypeIs (.ref e) "enumerate":=⟨_,he,rfl⟩
  unfold pyNext
  refine wpAny_bind (wpAny_attempt (wpAny_callSpecial?_slot (name:=Str.ofString "__next__") tz F.slot_enumerate_next (wpAny_call_entry F.slot_enumerate_next tz F.entry_enumerate_next ?_ (F.args_enumerate_next_1 _))))
  show wpAny _ _ (field (.ref e) 2 >>= _) _ _ _
  refine wpAny_bind (wpAny_field he rfl (x:= .ref t) rfl ?_)
  refine wpAny_bind ((l8 k t a n3 us.toArray).en i _ s _ _ (I.ok.hd hc) ⟨i1,l1⟩ (by simp;omega) fun g x sb hx=>?_)
  obtain⟨o,ho,hc2⟩:=hx
  refine wpAny_bind (wpAny_isInstance (T:="StopIteration") (b:=true) ⟨o,ho,hc2⟩ isSubtype_stop ?_)
  refine wpAny_pure ⟨rfl,Fx (s:=s) (tk:=s.toks) I hf fun b o hb eb=>?_⟩
  simp only[List.mem_cons,not_or,List.not_mem_nil,not_false_eq_true,and_true]at hb
  exact sb b o hb.2 eb
 self:=fun _ _ _ _ _ st h=>wpAny_pyIter_enum st.1.choose_spec h
noncomputable def f7:Nat→List D→List D
 |_,[]=>[]
 |i,x::xs=> .tup [.int (i:Int),x]::f7 (i+1) xs
theorem vB:∀ {xs:List D} {i:Nat},(f7 i xs).length=xs.length
 | [],_=>rfl
 |_::xs,i=>by unfold f7;rw[List.length_cons,List.length_cons,vB]
theorem qz:∀ {xs:List D} {i n:Nat} {d:D},(f7 i xs)[n]?=some d→∃x,xs[n]?=some x∧d= .tup [.int ((i+n:Nat):Int),x]
 | [],_,_,_,e=>by unfold f7 at e;cases e
 |x::xs,i,0,d,e=>by
  unfold f7 at e
  rw[List.getElem?_cons_zero]at e
  cases e
  exact⟨x,rfl,rfl⟩
 |x::xs,i,n+1,d,e=>by
  unfold f7 at e
  rw[List.getElem?_cons_succ]at e
  obtain⟨y,h1,h2⟩:=qz e
  refine⟨y,by rw[List.getElem?_cons_succ];exact h1,?_⟩
  rw[h2,show i+1+n=i+(n+1) by omega]
theorem GN{K:PySem.W.Frag}{k:SK}{a:Addr}{α:List (Option Addr)}{G:Hp}{ok:ag→Prop}{xs:List D}
 (h:∀α' G' st',Step α G α' G'→aU α' st' G'→ok st'→∃vs,BW k G' a vs∧aJ α' G' xs vs):tG (Mb K k a) α G ok (f7 0 xs) where
 stop:=fun n α' G' F' H' st' s P S o hn=>by
  obtain⟨vs,h1,r1⟩:=h α' G' st' s S o
  rw[vB]at hn
  refine⟨vs,jc P h1,?_⟩
  have:=r1.length
  omega
 go:=fun n d α' G' F' H' st' s P S o hn=>by
  obtain⟨vs,h1,r1⟩:=h α' G' st' s S o
  obtain⟨x,ex,rfl⟩:=qz hn
  obtain⟨v,ev,_⟩:=r1.get ex
  exact⟨vs,v,jc P h1,ev⟩
 nG:=fun n d α' G' F' H' st' x H'' s P S o hn y=>by
  obtain⟨vs,h1,r1⟩:=h α' G' st' s S o
  obtain⟨c,ec,rfl⟩:=qz hn
  obtain⟨T,v,hT,rfl,rfl,y1⟩:=y
  obtain⟨v',ev,rv⟩:=r1.get ec
  rw[y1 vs (jc P h1)]at ev
  cases ev
  have hg:=(P.none hT).1
  refine⟨upd G' T (.tup [.int (n:Int),v]),Step.laid hg,P.laid hT,S.laid hg,?_⟩
  unfold Rep
  refine⟨T,[.int (n:Int),v],rfl,S.jI hg,aZ,?_⟩
  unfold aJ
  refine⟨.int (n:Int),[v],rfl,?_,?_⟩
  · unfold Rep;rw[Nat.zero_add]
  unfold aJ
  exact⟨v,[],rfl,rv.step (Step.laid hg),by unfold aJ;rfl⟩
noncomputable def Ap(ds:List D)(st1:ag)(K:List D→(ag→Prop)→ag→Prop):Prop:=match ds with
 | [x]=>(match items? st1 x with
   |some xs=>K (f7 0 xs) (fun st'=>items? st' x=some xs) st1
   |_=>False)
 |_=>False
@[irreducible] noncomputable def qH:List D→ag→(List D→(ag→Prop)→ag→Prop)→Prop:=Ap
noncomputable def wd(t:DA):DI:=fun σ st K=>t σ st fun ds st1=>qH ds st1 K
theorem B_:bootBuiltins "enumerate"=some (.type "enumerate"):=by decide+kernel
theorem Hj{X:Cx}{a:Expr}{elts:List Expr}{kx:Nat}{tpos p pos:Pos}{t:DA}(hg:Gl X "enumerate")(hm:X.mg "enumerate"=none)(ha:PA X [a] (LA t))(hs:starEach [a] X.env=[(false,eval a X.env)]):
 PI X (.Tuple elts kx tpos) (.Call (.Name "enumerate" p) [a] [] pos) (LI (wd t)):=by
 intro pins s σ H R I h
 obtain⟨α,σd,st,K,G,F,P,RS,S,t,k⟩:=h
 refine Call_ (ka I hg hm B_ (PyProof.Rows.callWith_type1 (bU (ha pos pins s σ H (fun vs H1=>∃ds α1 G1 st1,Step α G α1 G1∧bZ G1 F H1∧aU α1 st1 G1∧aJ α1 G1 ds vs∧qH ds st1 K) I ⟨α,σd,st,_,G,F,P,RS,S,t,fun ds st1 q α1 G1 H1 vs s1 P1 S1 r1=>⟨ds,α1,G1,st1,s1,P1,S1,r1,q⟩⟩) fun us s1 ⟨vs,H1,I1,rv,ds,α1,G1,st1,w1,P1,S1,r1,q⟩=>?_) (by rw[hs];rfl) (by rfl)))
 unfold qH Ap at q
 split at q
 · rename_i x
   split at q
   · rename_i xs ex
     obtain⟨v1,rfl,q1⟩:=gE r1 rfl
     obtain⟨p1,vs1,rfl,g1,c1⟩:=mG S1 q1 ex
     obtain⟨u1,rfl,ru1⟩:=vals1 rv
     cases ru1
     obtain⟨its1,_,l1⟩:=jZ I1 (jc P1 c1)
     refine BE l1 fun g he i1 kp=>?_
     obtain⟨o1,eo1⟩:=l1.some
     have hp1:p1<s1.heap.objs.size:=Heap.lt_size eo1
     refine wpAny_pyIter_enum (s:={s1 with heap:=g}) he ?_
     refine⟨s1.heap.objs.size+1,[s1.heap.objs.size+1,s1.heap.objs.size],_,_,H1,rfl,I1.kept (t':=s1.toks) kp,CQ (EL x) (Nat.ne_of_gt (Nat.lt_succ_self _)) (Nat.ne_of_lt (Nat.lt_succ_of_lt hp1)) (Nat.ne_of_lt hp1),⟨⟨_,he⟩,i1⟩,fun b hb=>?_,?_⟩
     · have hb':s1.heap.objs.size≤b:=by
        simp only[List.mem_cons,List.not_mem_nil,or_false]at hb
        rcases hb with rfl|rfl
        · exact Nat.le_succ _
        · exact Nat.le_refl _
       exact I1.tD hb' (I1.aI.fresh hb')
     · refine k _ _ st1 q _ α1 G1 H1 w1 P1 S1 (GN fun α' G' st' s' S' o=>?_)
       obtain⟨p1',ws1,e1,f1,d1⟩:=mG S' (q1.step s') o
       cases e1
       exact⟨ws1,d1,f1⟩
   · exact q.elim
 · exact q.elim
theorem zH{st:ag}{x:D}{xs:List D}{K:List D→(ag→Prop)→ag→Prop}(ex:items? st x=some xs)(k:∀ok:ag→Prop,(∀st',items? st' x=some xs→ok st')→K (f7 0 xs) ok st):qH [x] st K:=by
 unfold qH Ap
 simp only[ex]
 exact k _ fun st' h1=>h1
theorem BH{X:Cx}{a:Expr}{elts:List Expr}{kx:Nat}{tpos p pos:Pos}{ar:DA}(hg:Gl X "enumerate")(hm:X.mg "enumerate"=none)(ha:JA X [a] ar)(hs:notStar a=true:=by rfl):JI X (.Tuple elts kx tpos) (.Call (.Name "enumerate" p) [a] [] pos) (wd ar):=by
 unfold JI;unfold JA at ha;exact Hj hg hm ha (cL hs)
end L3
namespace L3
open PySem L2
open PySem.Spec hiding items?
open PyProof.Rows hiding St
section
variable {prog:Program}{w:World}{A:Around}{E:Value→Shared→Prop}{s:Shared}
end
section
variable {X:Cx}{tg:Expr}
end
end L3
namespace L3
open PySem L2
open PySem.Spec hiding items?
open PyProof.Rows hiding St
section
variable {X:Cx}
end
end L3
namespace L3
open PySem L2
open PySem.Spec hiding items?
open PyProof.Rows hiding St
section
variable {X:Cx}
end
end L3
namespace L3
open PySem L2
open PySem.Spec hiding items?
open PyProof.Rows hiding St
open PySem PySem.Spec L2 PySem.SeqAt
section
variable {X:Cx}
end
end L3
namespace L3
open PySem L2
open PySem.Spec hiding items?
open PyProof.Rows hiding St
section
variable {X:Cx}
end
end L3
namespace L3
open PySem L2
open PySem.Spec hiding items?
open PyProof.Rows hiding St
section
variable {X:Cx}
noncomputable def wK:ft:=fun ds st K=>match ds with| [.lst xs]=>(match kI xs with|some ns=>ns≠ []∧∀m∈ns,(∀x∈ns,x≤m)→K (.int m) st|none=>False)|_=>False
theorem Hr{ns:List Int}{i:Nat}(hi:i<ns.length):ns.getD i 0∈ns:=by rw[List.getD_eq_getElem?_getD,List.getElem?_eq_getElem hi];exact List.getElem_mem _
theorem mem_getD{ns:List Int}{x:Int}(h:x∈ns):∃i,i<ns.length∧ns.getD i 0=x:=by
 obtain⟨i,hi,rfl⟩:=List.mem_iff_getElem.mp h
 exact⟨i,hi,by rw[List.getD_eq_getElem?_getD,List.getElem?_eq_getElem hi];rfl⟩
theorem Ig(hc:X.calm=true):bY X (.builtin "max") (f_ wK):=fun pins s σ H xs us Q I rs ⟨α,ds,st,K,G,F',P,r,S,q,k⟩=>by
 unfold wK at q
 split at q
 · rename_i ys
   split at q
   · rename_i ns e
     obtain⟨hne0,q⟩:=q
     obtain⟨v,rfl,r1⟩:=gE r rfl
     unfold Rep at r1
     obtain⟨a,vs,rfl,na,h1,h2⟩:=r1
     obtain⟨u,rfl,ru⟩:=vals1 rs
     cases ru
     have hv:=qF h2 e
     subst hv
     obtain⟨z,aq,n,rv,hl,eo⟩:=Inv.sR I (fM P h1)
     have isL:s.heap.IsList a aq.toArray:=⟨_,eo,rfl,n,rfl⟩
     have hlen:aq.length=ns.length:=by rw[←hl,List.length_map]
     have hpos:0<ns.length:=List.length_pos_iff.mpr hne0
     refine call_max_walkS (wpAny_pyIter_list isL ?_)
     have hne:a≠s.heap.objs.size:=Nat.ne_of_lt (Heap.lt_size eo)
     have hval:∀(i:Nat) (w:Value),aq.toArray[i]?=some w→∃t,w=Value.int (ns.getD i 0) t:=fun i w hw=>lE rv i w (by simpa using hw)
     refine⟨s.heap.objs.size,_,_,_,_,_,_,_,rfl,(Walks.list (A:=X.A.in1) (I.ok.hd hc) _ a hne aq.toArray).toS,⟨⟨_,Heap.get?_push_size _ rfl,rfl,rfl⟩,⟨_,Heap.get?_push_of_some _ eo,rfl,n,rfl⟩⟩,?_,by rw[List.size_toArray];omega,CmpOf.ints_gt (fun i=>ns.getD i 0) hval,?_⟩
     · intro b hb
       rw[Heap.size_push]
       simp only[List.mem_cons,List.not_mem_nil,or_false]at hb
       rcases hb with rfl|rfl
       · exact Nat.lt_succ_self _
       · exact Nat.lt_succ_of_lt (Heap.lt_size eo)
     · intro v' s' hv hm
       have kp:∀b o,s.heap.get? b=some o→s'.heap.get? b=some o:=fun b o q=>hm.heap b o (by
        intro hb
        have:b=s.heap.objs.size:=by simpa using hb
        exact absurd (Heap.lt_size q) (by rw[this];exact Nat.lt_irrefl _)) (Heap.get?_push_of_some _ q)
       have es:s'= {s with heap:=s'.heap,toks:=s'.toks}:=by
        have g:=hm.gens
        have d:=hm.drawn
        have o:=hm.os
        cases s'
        cases s
        simp_all
       have hsz:aq.toArray.size-1=ns.length-1:=by rw[List.size_toArray,hlen]
       obtain⟨t,rfl⟩:=hval _ _ hv
       obtain⟨b1,b2⟩:=argBest_gt (fun i=>ns.getD i 0) (aq.toArray.size-1)
       generalize argBest (fun i j=>decide (ns.getD i 0>ns.getD j 0)) (aq.toArray.size-1)=j at b1 b2⊢
       have hj:j<ns.length:=by omega
       rw[es]
       refine⟨.int (ns.getD j 0),H,I.kept (t':=s'.toks) kp,⟨t,rfl⟩,k.here P (q _ (Hr hj) fun x hx=>?_) S (by unfold Rep;rfl)⟩
       obtain⟨i,hi,rfl⟩:=mem_getD hx
       exact b2 i (by omega)
   · exact q.elim
 · exact q.elim
@[irreducible] noncomputable def rg:ft:=wK
theorem Cu(hc:X.calm=true):bY X (.builtin "max") (f_ rg):=by unfold rg;exact Ig hc
end
theorem zM{st:ag}{K:DK}{xs:List D}{ns:List Int}(h:kI xs=some ns)(h0:ns≠ [])(k:∀m∈ns,(∀x∈ns,x≤m)→K (.int m) st):rg [.lst xs] st K:=by unfold rg wK;simp only[h];exact⟨h0,k⟩
section
variable {X:Cx}
end
end L3
namespace L3
open PySem L2
open PySem.Spec hiding items?
open PyProof.Rows hiding St
section
variable {X:Cx}
end
end L3
namespace L3
open PySem L2
open PySem.Spec hiding items?
open PyProof.Rows hiding St
section
variable {X:Cx}
end
end L3
namespace L3
open PySem L2
open PySem.Spec hiding items?
open PyProof.Rows hiding St
section
variable {P:Program}{w:World}
section
variable {z ti to t1 t2 t3 a1 a2 a3:Addr}
end
end
end L3
namespace L3
open PySem L2
open PySem.Spec hiding items?
open PyProof.Rows hiding St
end L3
namespace L3
open PySem L2
open PySem.Spec hiding items?
open PyProof.Rows hiding St
section
variable {X:Cx}
end
end L3
namespace L3
open PySem L2
open PySem.Spec hiding items?
open PyProof.Rows hiding St
open Sem (wp)
section
variable {prog:Program}{w:World}{A:Around}{s:Shared}{E:Value→Shared→Prop}
end
section
variable {prog:Program}{w:World}{A:Around}{R:Result→Shared→Prop}{I:Addr}{fp wr:List Addr}{G:Array GenState→Array GenState→Prop}{n:Nat}{P:Nat→Value→Prop}{Sx:Nat→Shared→Prop}
end
section
variable {prog:Program}{w:World}{A:Around}{E:Value→Shared→Prop}{s:Shared}
end
section
variable {X:Cx}{pins:List (Addr×Obj)}{σ:L2.St}{H:Hp}{s:Shared}{α:List (Option Addr)}
end
end L3
namespace L3
open PySem L2
open PySem.Spec hiding items?
open PyProof.Rows hiding St
section
variable {X:Cx}
end
end L3
namespace L3
open PySem L2
open PySem.Spec hiding items?
open PyProof.Rows hiding St
noncomputable def putD(f:Str)(v:D):List (Str×D)→List (Str×D)
 | []=>[(f,v)]
 |(g,x)::r=>if g=f then(g,v)::r else(g,x)::putD f v r
theorem ji.look{α:List (Option Addr)}{H:Hp}{f:Str}{v:D}:∀ {fs:List (Str×D)} {vs:List (Str×V)},ji α H fs vs→fs.lookup f=some v→∃u,vs.lookup f=some u∧Rep α H v u
 | [],_,_,e=>by cases e
 |(g,x)::fs,_,.cons (b:=q) h t,e=>by
  obtain⟨g',y⟩:=q
  obtain⟨h1,h2⟩:=h
  simp only at h1 h2
  subst h1
  rw[List.lookup_cons]at e⊢
  cases hb:f==g with
  |true=>rw[hb]at e;cases e;exact⟨y,rfl,h2⟩
  |false=>rw[hb]at e;exact ji.look t e
theorem ji.none{α:List (Option Addr)}{H:Hp}{f:Str}:∀ {fs:List (Str×D)} {vs:List (Str×V)},ji α H fs vs→fs.lookup f=Option.none→vs.lookup f=Option.none
 | [],_,.nil,_=>rfl
 |(g,x)::fs,_,.cons (b:=q) h t,e=>by
  obtain⟨g',y⟩:=q
  obtain⟨h1,h2⟩:=h
  simp only at h1 h2
  subst h1
  rw[List.lookup_cons]at e⊢
  cases hb:f==g with
  |true=>rw[hb]at e;cases e
  |false=>rw[hb]at e;exact ji.none t e
theorem ji.put{α:List (Option Addr)}{H:Hp}{f:Str}{d:D}{v:V}(r:Rep α H d v):∀ {fs:List (Str×D)} {vs:List (Str×V)},ji α H fs vs→ji α H (putD f d fs) (gd f v vs)
 | [],_,.nil=> .cons ⟨rfl,r⟩ .nil
 |(g,x)::fs,_,.cons (b:=q) h t=>by
  obtain⟨g',y⟩:=q
  obtain⟨h1,h2⟩:=h
  simp only at h1 h2
  subst h1
  unfold putD gd
  by_cases hb:g=f
  · rw[if_pos hb,if_pos hb];exact .cons ⟨rfl,r⟩ t
  · rw[if_neg hb,if_neg hb];exact .cons ⟨rfl,h2⟩ (ji.put r t)
noncomputable def Eu(C:Addr)(f:Str)(d:D)(st:ag)(K:DK):Prop:=match d with
 | .ref n=>(match st[n]? with|some (.ins C' fs)=>C'=C∧∃v,fs.lookup f=some v∧K v st|_=>False)
 |_=>False
@[irreducible] noncomputable def A5(C:Addr)(f:Str):D→ag→DK→Prop:=Eu C f
noncomputable def dP(C:Addr)(f:Str)(te:DE):DE:=fun σ st K=>te σ st fun d st1=>A5 C f d st1 K
theorem cF{C:Addr}{f:Str}{n:Nat}{st:ag}{K:DK}{fs:List (Str×D)}{v:D}(e:st[n]?=some (.ins C fs))(h:fs.lookup f=some v)(k:K v st):A5 C f (.ref n) st K:=by
 unfold A5 Eu;simp only[e];exact⟨trivial,v,h,k⟩
noncomputable def A4(C:Addr)(f:Str)(x d:D)(st:ag)(K:ag→Prop):Prop:=match x with
 | .ref n=>(match st[n]? with|some (.ins C' fs)=>C'=C∧fs.length<1000∧K (st.set n (.ins C (putD f d fs)))|_=>False)
 |_=>False
@[irreducible] noncomputable def wm(C:Addr)(f:Str):D→D→ag→(ag→Prop)→Prop:=A4 C f
noncomputable def nu(C:Addr)(f:Str)(to te:DE):DS:=fun D σ st=>te σ st fun d st1=>to σ st1 fun x st2=>wm C f x d st2 fun st3=>D.nx σ st3
theorem mw{C:Addr}{f:Str}{n:Nat}{d:D}{st:ag}{K:ag→Prop}{fs:List (Str×D)}(e:st[n]?=some (.ins C fs))(h:fs.length<1000)(k:K (st.set n (.ins C (putD f d fs)))):wm C f (.ref n) d st K:=by
 unfold wm A4;simp only[e];exact⟨trivial,h,k⟩
noncomputable def Av(C:Addr)(m:Str)(x:D)(st:ag)(k:Prop):Prop:=match x with
 | .ref n=>(match st[n]? with|some (.ins C' fs)=>C'=C∧fs.lookup m=none∧k|_=>False)
 |_=>False
@[irreducible] noncomputable def wG(C:Addr)(m:Str):D→ag→Prop→Prop:=Av C m
theorem ju{C:Addr}{m:Str}{n:Nat}{st:ag}{k:Prop}{fs:List (Str×D)}(e:st[n]?=some (.ins C fs))(h:fs.lookup m=none)(q:k):wG C m (.ref n) st k:=by
 unfold wG Av;simp only[e];exact⟨trivial,h,q⟩
noncomputable def ja(C:Addr)(m:Str)(S:cD)(to:DE)(t:DA):DE:=fun σ st K=>to σ st fun x st1=>wG C m x st1 (t σ st1 fun ds st2=>S (x::ds) st2 K)
noncomputable def Ac(C:Addr)(S:cD)(t:DA):DE:=fun σ st K=>t σ st fun ds st1=>S (.ref st1.length::ds) (st1++[.ins C []]) fun r st2=>r= .aG∧K (.ref st1.length) st2
section
variable {X:Cx}{C f g:Addr}{fd:FuncData}{k:Nat}{x m fl:Str}{e o value:Expr}{es:List Expr}{p pos pos' apos:Pos}{te to:DE}{t:DA}{S:cD}{ps:List Str}
theorem KR(c:mL X.K C)(na:fK X.K C fl)(he:PE X e (LE te))(hb:attributeBase e fl X.env (eval e X.env)=eval e X.env):PE X (.Attribute e fl pos) (LE (dP C fl te)):=PE.imp (Hw he hb) fun σ H Q ⟨α,σd,st,K,G,F,P,R,S,t,k⟩=>by
 refine⟨α,σd,st,_,G,F,P,R,S,t,fun d st1 q α1 G1 H1 v s1 P1 S1 r1=>?_⟩
 unfold A5 Eu at q
 cases d<;>try exact q.elim
 simp only at q
 split at q
 · rename_i C' fs e'
   obtain⟨rfl,w,hw,q⟩:=q
   obtain⟨a,ea,dx,vs,h1,h2⟩:=S1.wB e'
   have r1':=eQ ea r1
   subst r1'
   obtain⟨u,hu,ru⟩:=h2.look hw
   exact⟨a,_,dx,vs,u,rfl,P1.get h1,c,na,hu,(k.at s1).here P1 q S1 ru⟩
 · exact q.elim
theorem HI(c:mL X.K C)(na:fK X.K C fl)(ho:PE X o (LE to))(hv:PE X value (LE te))(hs:swapsWith value (some (.Attribute o fl pos')) pos.line X.env=pure false):PS X (.Assign [.Attribute o fl pos'] value pos) (LS (nu C fl to te)):=PS.imp (Jq ho hv hs) fun D σ H ⟨α,σd,st,DD,G,F,P,R,S,t,k⟩=>by
 refine⟨α,σd,st,_,G,F,P,R,S,t,fun d st1 q α1 G1 H1 v s1 P1 S1 r1=>?_⟩
 refine⟨α1,σd,st1,_,G1,F,P1,R.step s1,S1,q,fun x st2 q2 α2 G2 H2 v2 s2 P2 S2 r2=>?_⟩
 unfold wm A4 at q2
 cases x<;>try exact q2.elim
 simp only at q2
 split at q2
 · rename_i C' fs e'
   obtain⟨rfl,hl,q2⟩:=q2
   obtain⟨a,ea,dx,vs,h1,h2⟩:=S2.wB e'
   have r2':=eQ ea r2
   subst r2'
   have hm:some a∈α2:=List.mem_of_getElem? ea
   have lv:vs.length<1000:=by rw[←h2.length];exact hl
   refine⟨a,_,dx,vs,rfl,P2.get h1,c,na,lv,?_⟩
   refine((k.nx.at s1).at s2) σd _ q2 α2 (upd G2 a (.ins _ dx (gd fl v vs))) _ σ (Step.write hm) (P2.write h1) (((R.step s1).step s2).step (Step.write hm)) ?_
   exact S2.write ea ⟨dx,gd fl v vs,aZ,(h2.put (r1.step s2)).step (Step.write hm)⟩
 · exact q2.elim
theorem LE.Ls{σ:L2.St}{H:Hp}{Q:VK}(h:LE (ja C m S to t) σ H Q):E6 C m (cJ S) [] E0 (LE to) (LA t) σ H Q:=by
 obtain⟨α,σd,st,K,G,F,P,R,Sr,tt,k⟩:=h
 refine⟨α,σd,st,_,G,F,P,R,Sr,tt,fun d st1 q α1 G1 H1 v s1 P1 S1 r1=>?_⟩
 unfold wG Av at q
 cases d<;>try exact q.elim
 simp only at q
 split at q
 · rename_i n C' fs e'
   obtain⟨rfl,hl,q⟩:=q
   obtain⟨a,ea,dx,vs,h1,h2⟩:=S1.wB e'
   have r1':=eQ ea r1
   subst r1'
   refine⟨a,dx,vs,rfl,P1.get h1,h2.none hl,?_⟩
   refine⟨α1,σd,st1,_,G1,F,P1,R.step s1,S1,q,fun ds st2 q2 α2 G2 H2 us s2 P2 S2 r2=>?_⟩
   try dsimp only
   rw[List.append_nil]
   exact⟨α2,_,st2,K,G2,F,P2,by unfold aJ;exact⟨_,_,rfl,r1.step s2,r2⟩,S2,q2,(k.at s1).at s2⟩
 · exact q.elim
theorem LE.make{σ:L2.St}{H:Hp}{Q:VK}(h:LE (Ac C S t) σ H Q):Ff C (cJ S) [] E0 (LA t) σ H Q:=by
 obtain⟨α,σd,st,K,G,F,P,R,Sr,tt,k⟩:=h
 refine⟨α,σd,st,_,G,F,P,R,Sr,tt,fun ds st1 q α1 G1 H1 us s1 P1 S1 r1=>?_⟩
 intro x dx hx hdx hne
 have hgd:=(P1.none hdx).1
 have P2:=P1.laid (o:= .own x) hdx
 have S2:=S1.laid (o:= .own x) hgd
 have hx2:upd H1 dx (.own x) x=none:=by rw[aC (Ne.symm hne)];exact hx
 have hg2:=(P2.none hx2).1
 have P3:=P2.laid (o:= .ins C dx []) hx2
 have S3:=S2.cell (o:= .ins C dx []) (c:= .ins C []) hg2 ⟨dx,[],aZ,.nil⟩
 have s2:Step α1 G1 α1 (upd G1 dx (.own x)):=Step.laid hgd
 have s3:Step α1 (upd G1 dx (.own x)) (α1++[some x]) (upd (upd G1 dx (.own x)) x (.ins C dx [])):=Step.cell hg2
 have rx:Rep (α1++[some x]) (upd (upd G1 dx (.own x)) x (.ins C dx [])) (.ref st1.length) (.ref x):=by
  unfold Rep
  refine .inr ⟨x,?_,rfl⟩
  rw[List.getElem?_append_right (by rw[S1.len];exact Nat.le_refl _),S1.len,Nat.sub_self]
  rfl
 rw[List.append_nil]
 refine⟨α1++[some x],.ref st1.length::ds,st1++[.ins C []],_,_,F,P3,by unfold aJ;exact⟨_,_,rfl,rx,(r1.step s2).step s3⟩,S3,q,fun d st2 q2 α' G' H' v s' P' S' r'=>?_⟩
 obtain⟨rfl,q2⟩:=q2
 unfold Rep at r'
 exact⟨r',(((k.at s1).at s2).at s3) _ st2 q2 α' G' H' _ s' P' S' (rx.step s')⟩
end
end L3
namespace L3
open PySem L2
open PySem.Spec hiding items?
open PyProof.Rows hiding St
noncomputable def IQ(a:Int)(n:Nat):It:=⟨fun i _=>i<n,fun i H x H'=>H'=H∧x= .int (a+(i:Nat)*(-1)),fun i _=>n≤i⟩
theorem CC{P:Program}{w:World}{K:PySem.W.Frag}{tg:Expr}(it:Addr)(a:Int)(n:Nat):Turn P w K tg (IQ a n) [it] it (fun i h=>IsRangeIter h it (a+(i:Nat)*(-1)) ((n:Int)-(i:Nat)) (-1)) where
 mem:=by simp
 obj:=fun i h st b hb=>by
  have e:b=it:=by simpa using hb
  subst e
  exact⟨_,st,fun v z=>by
   have z':Data.fields _=Data.cell v:=z
   cases z'⟩
 keep:=fun i h h' st k=>k it (by simp) _ st
 item:=by
  intro X hP hw hK hc i pins s σ H E I hf st hg
  subst hP hw hK
  obtain⟨f0,f1,f2,f3,f4,f5⟩:=hf it (by simp)
  have W:=Walks.range (prog:=X.prog) (w:=X.w) (I.ok.hd hc) it a (-1) n
  refine W.item i s _ _ hg st fun v h' tk hv st' kk=>?_
  obtain⟨t,rfl⟩:=hv
  have I1:Inv X pins σ H {s with heap:=h',toks:=tk}:=I.turned (fun b o hb e=>kk b o (by simpa using hb) e) f0 f1 f3 f4 f5
  exact⟨_,rfl,wI (s:={s with heap:=h',toks:=tk}) (n:="range_iterator") st' rfl rfl (by decide) ⟨.int (a+(i:Nat)*(-1)),H,I1,⟨t,rfl⟩,⟨rfl,rfl⟩,st',fun b hb=>(hf b hb).1⟩⟩
 done:=by
  intro X hP hw hK hc i pins s σ H E I hf st hg
  subst hP hw hK
  obtain⟨f0,f1,f2,f3,f4,f5⟩:=hf it (by simp)
  exact wpAny_pyNext_range_end (I.ok.hd hc) st (by have:n≤i:=hg;omega) fun h' eb=>⟨rfl,I.turned (t':=s.toks) (fun b o hb e=>eb b o hb e) f0 f1 f3 f4 f5⟩
 self:=fun _ _ _ _ _ st h=>wpAny_pyIter_rangeiter st h
theorem vT(a b:Int):Builtin.Range.rangeSize a b (-1)=((a-b).toNat:Int):=by
 unfold Builtin.Range.rangeSize
 rw[if_neg (by decide)]
 have e:(a-b-1)/(- -1:Int)=a-b-1:=by simp
 rw[e]
 split<;>omega
theorem small_down{a b:Int}(ha: -(2^62)≤a)(ha':a<2^62)(hb: -(2^62)≤b)(hb':b<2^62):Builtin.Range.small a b (-1)=true:=by
 unfold Builtin.Range.small
 rw[vT]
 simp only[Builtin.Range.rangeFitsLong,Bool.and_eq_true,Bool.or_eq_true,decide_eq_true_eq,beq_iff_eq,show¬((-1:Int)>0) by decide,if_false]
 omega
noncomputable def Fy(ta:TA):TI:=fun σ H R=>ta σ H fun vs H1=>∃i j:Int,vs=[.int i,.int j,.int (-1)]∧(-(2^62)≤i∧i<2^62∧ -(2^62)≤j∧j<2^62)∧R (IQ i (i-j).toNat) H1
section
variable {X:Cx}{tg:Expr}
theorem By{a b c:Expr}{ta:TA}{p pos:Pos}(hg:Gl X "range")(hm:X.mg "range"=none)(ha:PA X [a,b,c] ta)(hs:notStar a=true:=by rfl)(hs2:notStar b=true:=by rfl)(hs3:notStar c=true:=by rfl):
 PI X tg (.Call (.Name "range" p) [a,b,c] [] pos) (Fy ta):=by
 intro pins s σ H R I h
 refine Call_ (ka I hg hm boot_range (PyProof.Rows.callWith_type1 (bU (ha pos pins s σ H _ I h) fun us s1 ⟨vs,H1,I1,r1,q1⟩=>?_) (cL hs) (jj (by simp[fF,hs2,hs3]))))
 obtain⟨i,j,e,⟨q1,q2,q3,q4⟩,q⟩:=q1
 subst e
 cases r1 with
 |cons r rr=>
  cases rr with
  |cons r' rr=>
   cases rr with
   |cons r'' rr=>
    cases rr
    obtain⟨t,rfl⟩:=r
    obtain⟨t',rfl⟩:=r'
    obtain⟨t'',rfl⟩:=r''
    refine call_range_3 (by decide) ?_ (Or.inl (PyProof.noPylong_of_log2 (by decide+kernel)))
    refine wpAny_pyIter_range (IsRange.new ..) (small_down q1 q2 q3 q4) ?_
    have I2:Inv X pins σ H1 {s1 with heap:=s1.heap.push {cls:= .type "range",data:= .fields #[.int i t,.int j t',.int (-1) t'']},toks:=s1.toks}:=I1.kept fun b o e=>Heap.get?_push_of_some _ e
    generalize({s1 with heap:=s1.heap.push {cls:= .type "range",data:= .fields #[.int i t,.int j t',.int (-1) t'']},toks:=s1.toks}:Shared)=s2 at I2⊢
    refine⟨s2.heap.objs.size,[s2.heap.objs.size],_,_,H1,rfl,I2.kept (t':=s2.toks) fun b o e=>Heap.get?_push_of_some _ e,CC _ i (i-j).toNat,?_,fun b hb=>?_,q⟩
    · show IsRangeIter _ _ (i+((0:Nat):Int)*(-1)) ((((i-j).toNat:Nat):Int)-((0:Nat):Int)) (-1)
      have e1:i+((0:Nat):Int)*(-1)=i:=by omega
      have e2:(((i-j).toNat:Nat):Int)-((0:Nat):Int)=Builtin.Range.rangeSize i j (-1):=by rw[vT];omega
      rw[e1,e2]
      exact Heap.get?_push_size _ rfl
    · have e:b=s2.heap.objs.size:=by simpa using hb
      subst e
      exact I2.tD (Nat.le_refl _) (I2.aI.fresh (Nat.le_refl _))
end
noncomputable def gK(a:Int)(n:Nat):List D:=(List.range n).map fun(k:Nat)=>D.int (a+(k:Nat)*(-1))
theorem vx{a:Int}{n k:Nat}:(gK a n)[k]?=if k<n then some (.int (a+(k:Nat)*(-1)))else none:=by
 unfold gK
 rw[List.getElem?_map]
 by_cases h:k<n
 · rw[List.getElem?_range h,if_pos h];rfl
 · rw[List.getElem?_eq_none (by simpa using h),if_neg h];rfl
theorem lG{a:Int}{n:Nat}:(gK a n).length=n:=by unfold gK;simp
theorem Ho{α:List (Option Addr)}{G:Hp}{a:Int}{n:Nat}:tG (IQ a n) α G (fun _=>True) (gK a n) where
 stop:=fun m α' G' F' H' st' s P S o hn=>by rw[lG]at hn;exact hn
 go:=fun m d α' G' F' H' st' s P S o hn=>by
  rw[vx]at hn
  split at hn
  · assumption
  · cases hn
 nG:=fun m d α' G' F' H' st' x H'' s P S o hn y=>by
  obtain⟨rfl,rfl⟩:=y
  rw[vx]at hn
  split at hn
  · cases hn
    exact⟨G',Step.refl,P,S,by unfold Rep;rfl⟩
  · cases hn
noncomputable def Kz(ds:List D)(st1:ag)(K:List D→(ag→Prop)→ag→Prop):Prop:=match ds with
 | [.int i,.int j,.int c]=>(c= -1∧ -(2^62)≤i∧i<2^62∧ -(2^62)≤j∧j<2^62)∧K (gK i (i-j).toNat) (fun _=>True) st1
 |_=>False
@[irreducible] noncomputable def wu:List D→ag→(List D→(ag→Prop)→ag→Prop)→Prop:=Kz
noncomputable def uO(t:DA):DI:=fun σ st K=>t σ st fun ds st1=>wu ds st1 K
theorem Ca{X:Cx}{tg iter:Expr}{t:DA}(h:PI X tg iter (Fy (LA t))):PI X tg iter (LI (uO t)):=PI.imp h fun σ H R ⟨α,σd,st,K,G,F,P,RS,S,t,k⟩=>by
 refine⟨α,σd,st,_,G,F,P,RS,S,t,fun ds st1 q α1 G1 H1 vs s1 P1 S1 r1=>?_⟩
 unfold wu at q
 match ds,q,r1 with
 | [.int i,.int j,.int c],q,r1=>
   obtain⟨v,u,w,rfl,r2,r3,r4⟩:=La r1 rfl
   unfold Rep at r2 r3 r4
   subst r2 r3 r4
   obtain⟨⟨rfl,q1⟩,q2⟩:=q
   exact⟨i,j,rfl,q1,k _ _ st1 q2 _ α1 G1 H1 s1 P1 S1 Ho⟩
theorem F2{st:ag}{i j:Int}{K:List D→(ag→Prop)→ag→Prop}(h: -(2^62)≤i∧i<2^62∧ -(2^62)≤j∧j<2^62)(k:K (gK i (i-j).toNat) (fun _=>True) st):wu [.int i,.int j,.int (-1)] st K:=by unfold wu;exact⟨⟨rfl,h⟩,k⟩
theorem Er{X:Cx}{tg a b c:Expr}{p pos:Pos}{ar:DA}(hg:Gl X "range")(hm:X.mg "range"=none)(ha:JA X [a,b,c] ar)(hs:notStar a=true:=by rfl)(hs2:notStar b=true:=by rfl)(hs3:notStar c=true:=by rfl):JI X tg (.Call (.Name "range" p) [a,b,c] [] pos) (uO ar):=by
 unfold JI;unfold JA at ha;exact Ca (By hg hm ha hs hs2 hs3)
section
variable {X:Cx}
end
end L3
namespace L3
open PySem L2
open PySem.Spec hiding items?
open PyProof.Rows hiding St
section
variable {X:Cx}{e o i value:Expr}{es:List Expr}{te to ti:DE}{t:DA}{pos pos' tpos apos p:Pos}{C f:Addr}{fl m x:Str}{S:cD}{k:Nat}{fd:FuncData}{ps:List Str}
theorem BP{value o:Expr}{fl:Str}{pos':Pos}{n:Nat}{env:Env}:swapsWith value (some (.Attribute o fl pos')) n env=pure false:=by cases value<;>rfl
theorem dc(c:mL X.K C)(na:fK X.K C fl)(he:JE X e te)(hb:attributeBase e fl X.env (eval e X.env)=eval e X.env:=by rfl):JE X (.Attribute e fl pos) (dP C fl te):=by unfold JE at*;exact KR c na he hb
theorem mH(c:mL X.K C)(na:fK X.K C fl)(ho:JE X o to)(hv:JE X value te):JS X (.Assign [.Attribute o fl pos'] value pos) (nu C fl to te):=by unfold JS;unfold JE at*;exact HI c na ho hv BP
theorem lh{pl:Sem Bool}(he:JE X o to)(c:mL X.K C)(hm:Meth X.K C m f)(F:bo X.prog X.w X.K X.mg X.base cE k f fd ps (cJ S))(hr:cT k X.A)(hb:Binds X.K fd ps [])(ha:JA X (e::es) t)
 (hs:notStar e=true:=by rfl) (hs2:fF es=true:=by rfl)
 (ht:eval (.Call (.Attribute o m apos) (e::es) [] pos) X.env=(do
   let ov ←eval o X.env
   standAt apos.atName
   let(f,first) ←holding [ov] (getMethod ov m pl)
   callWith pos f first (backTo pos (starEach (e::es) X.env)) (backToKw pos (keywordEach [] X.env))):=by rfl):
 JE X (.Call (.Attribute o m apos) (e::es) [] pos) (ja C m S to t):=by
 unfold JE at*
 unfold JA at ha
 exact PE.imp (GK he c hm F hr hb .nil AD ha (cL hs) (jj hs2) ht) fun _ _ _ h=>LE.Ls h
theorem Jr(M:Mk X.K C f)(F:bo X.prog X.w X.K X.mg X.base cE k f fd ps (cJ S))(hr:cT (k+1) X.A)(hg:Gl X x)(hmg:X.mg x=some (.ref C))(hb:Binds X.K fd ps [])(ha:JA X (e::es) t)(hdb:(x==("__debug__":Str))=false)
 (hs:notStar e=true:=by rfl) (hs2:fF es=true:=by rfl):JE X (.Call (.Name x p) (e::es) [] pos) (Ac C S t):=by
 unfold JE
 unfold JA at ha
 exact PE.imp (Hf M F hr hg hmg hb .nil AD ha hdb (cL hs) (jj hs2)) fun _ _ _ h=>LE.make h
end
end L3
namespace L3
open PySem PySem.Spec L2
open PyProof.Rows hiding St
noncomputable def Jn(xs:Array Keyed)(i:Nat):Int:=match xs[i]? with
 |some p=>numOf p.2
 |none=>0
theorem m9{xs ys:Array Keyed}{i j:Nat}(h:xs[i]?=ys[j]?):Jn xs i=Jn ys j:=by unfold Jn;rw[h]
theorem lu{xs:Array Keyed}{i j:Nat}(hj:j≤xs.size)(k:Nat):
 K (mirror xs i j ((j-i)/2)) k=K xs (if i≤k∧k<j then i+j-1-k else k)∧Jn (mirror xs i j ((j-i)/2)) k=Jn xs (if i≤k∧k<j then i+j-1-k else k):=by
 have e:=getElem?_mirror_all (i:=i) hj k
 split at e<;>rename_i h
 · rw[if_pos h];exact⟨K_congr e,m9 e⟩
 · rw[if_neg h];exact⟨K_congr e,m9 e⟩
theorem Cd{xs:Array Keyed}{src d:Nat}(hs:src<xs.size)(hd:d≤src)(k:Nat):
 K (bubble xs src d) k=K xs (if k=src-d then src else if src-d<k∧k≤src then k-1 else k)∧Jn (bubble xs src d) k=Jn xs (if k=src-d then src else if src-d<k∧k≤src then k-1 else k):=by
 have e:=getElem?_bubble hs d hd k
 split at e<;>rename_i h
 · rw[if_pos h];exact⟨K_congr e,m9 e⟩
 · rw[if_neg h]
   split at e<;>rename_i h2
   · rw[if_pos h2];exact⟨K_congr e,m9 e⟩
   · rw[if_neg h2];exact⟨K_congr e,m9 e⟩
noncomputable def lD(xs:Array Keyed)(i j:Nat):Prop:=K xs i<K xs j∨(K xs i=K xs j∧Jn xs i<Jn xs j)
noncomputable def i7(xs:Array Keyed)(k:Nat):Prop:=∀i j,i<j→j<k→lD xs i j
noncomputable def iI(n:Nat)(xs:Array Keyed)(k:Nat):Prop:=∀i j,i<j→k≤j→j<n→Jn xs i<Jn xs j
theorem i7.to{xs:Array Keyed}{k:Nat}(h:i7 xs k):SortedTo xs k:=fun i j hij hj=>by
 rcases Nat.lt_or_eq_of_le hij with e|e
 · rcases h i j e hj with q|q<;>omega
 · subst e;exact Int.le_refl _
theorem i7.more{xs:Array Keyed}{n k m:Nat}(h:i7 xs k)(t:iI n xs k)(s:SortedTo xs m)(hm:m≤n):i7 xs m:=fun i j hij hj=>by
 by_cases hk:j<k
 · exact h i j hij hk
 · have a:=s i j (Nat.le_of_lt hij) hj
   have b:=t i j hij (Nat.le_of_not_lt hk) (Nat.lt_of_lt_of_le hj hm)
   unfold lD;omega
theorem iI.up{xs:Array Keyed}{n k m:Nat}(t:iI n xs k)(h:k≤m):iI n xs m:=fun i j a b c=>t i j a (Nat.le_trans h b) c
theorem iI.mix{xs ys:Array Keyed}{n k:Nat}(t:iI n xs k)(f:Nat→Nat)(hf:∀i,Jn ys i=Jn xs (f i))(h1:∀i,i<k→f i<k)(h2:∀i,k≤i→f i=i):iI n ys k:=fun i j a b c=>by
 rw[hf,hf,h2 j b]
 refine t _ _ ?_ b c
 by_cases hi:i<k
 · exact Nat.lt_of_lt_of_le (h1 i hi) b
 · rw[h2 i (Nat.le_of_not_lt hi)];exact a
section
variable {prog:Program}{w:World}{A:Around}{E:Value→Shared→Prop}{s:Shared}{a₀:Array Keyed}
theorem BQ{st:SortSt}{ok:Nat}{Q:Bool→SortSt→Prop}(h0:IntKeys a₀)(h1:1≤ok)(aI:ok≤a₀.size)(hB:SBase a₀ st)(hs:i7 (arrOf st) ok)(ht:iI a₀.size (arrOf st) ok)
 (h:∀st',SBase a₀ st'→i7 (arrOf st') a₀.size→Q true st'):wpS (model prog w) A E s (binarySort' 0 a₀.size ok) Q st:=by
 rw[binarySort'_eq]
 simp only[Nat.zero_add]
 refine wpS_bind (wpS_mono (wpS_forRange (I:=fun k c q=>c=(none,())∧SBase a₀ q∧k≤a₀.size∧i7 (arrOf q) k∧iI a₀.size (arrOf q) k)
  (Q:=fun c q=>c=(none,())∧SBase a₀ q∧i7 (arrOf q) a₀.size) ?st ?en ?be) ?po)
 case po=>rintro c q ⟨rfl,b1,b2⟩;exact wpS_pure (h q b1 b2)
 case be=>rw[show max ok 1=ok by omega];exact⟨rfl,hB,aI,hs,ht⟩
 case en=>
  rintro c q ⟨rfl,b1,b2,b3,_⟩
  rw[show max (max ok 1) a₀.size=a₀.size by omega]at b3
  exact⟨rfl,b1,b3⟩
 case st=>
  rintro k c q hk1 hk2 ⟨rfl,qB,_,qS,qT⟩
  refine wpS_bind (wpS_mono (wpS_forRange (I:=fun x c q'=>q'=q∧∃l r,c=(none,l,r)∧l≤r∧r≤k∧r-l≤k-x∧(∀i,i<l→K (arrOf q) i≤K (arrOf q) k)∧(∀i,r≤i→i<k→K (arrOf q) k<K (arrOf q) i))
   (Q:=fun c q'=>q'=q∧∃l,c=(none,l,l)∧l≤k∧(∀i,i<l→K (arrOf q) i≤K (arrOf q) k)∧(∀i,l≤i→i<k→K (arrOf q) k<K (arrOf q) i)) ?a ?b ?c) ?d)
  case c=>exact⟨rfl,0,k,rfl,by omega,by omega,by omega,fun i hi=>by omega,fun i x y=>by omega⟩
  case b=>
   rintro c q' ⟨rfl,l,r,rfl,e1,e2,e3,e4,e5⟩
   have:r=l:=by omega
   subst this
   exact⟨rfl,r,rfl,e2,e4,e5⟩
  case a=>
   rintro x c q' _ hx ⟨rfl,l,r,rfl,e1,e2,e3,e4,e5⟩
   dsimp only
   by_cases hlr:l≥r
   · rw[if_pos hlr]
     have:r=l:=by omega
     subst this
     exact wpS_pure ⟨rfl,r,rfl,e2,e4,e5⟩
   · rw[if_neg hlr]
     refine wpS_bind (wpS_ltK qB h0 hk2 (by omega) ?_)
     have so:=qS.to
     by_cases hl:K (arrOf q') k<K (arrOf q') ((l+r)/2)
     · simp only[hl,decide_true,if_true]
       exact wpS_pure ⟨rfl,l,(l+r)/2,rfl,by omega,by omega,by omega,e4,fun i x y=>Int.lt_of_lt_of_le hl (so _ _ x y)⟩
     · simp only[hl,decide_false,Bool.false_eq_true,if_false]
       refine wpS_pure ⟨rfl,(l+r)/2+1,r,rfl,by omega,by omega,by omega,fun i x=>?_,e5⟩
       have:=so i ((l+r)/2) (by omega) (by omega)
       omega
  case d=>
   rintro c q' ⟨rfl,l,rfl,hlk,e4,e5⟩
   show wpS _ _ _ _ (do moveDown' k l;pure (ForInStep.yield (none,()))) _ _
   rw[moveDown'_eq]
   have hks:k<(arrOf q').size:=by rw[qB.size];exact hk2
   have bb:=Cd (xs:=arrOf q') hks (show k-l≤k by omega)
   rw[show k-(k-l)=l by omega]at bb
   refine wpS_bind (wpS_modify (wpS_pure ⟨rfl,qB.setArr (bubble_perm _ _ _),by omega,fun i j hij hj=>?_,iI.mix (qT.up (Nat.le_succ k)) _ (fun i=>(bb i).2) (fun i hi=>?_) (fun i hi=>?_)⟩))
   · show lD (bubble (arrOf q') k (k-l)) i j
     unfold lD
     rw[(bb i).1,(bb i).2,(bb j).1,(bb j).2]
     by_cases hil:i<l
     · rw[if_neg (show¬i=l by omega),if_neg (show¬(l<i∧i≤k) by omega)]
       by_cases hjl:j=l
       · rw[if_pos hjl]
         have x:=e4 i hil
         have y:=qT i k (by omega) (Nat.le_refl _) hk2
         omega
       · rw[if_neg hjl]
         by_cases hj2:l<j∧j≤k
         · rw[if_pos hj2];exact qS i (j-1) (by omega) (by omega)
         · rw[if_neg hj2];exact qS i j hij (by omega)
     · by_cases hie:i=l
       · rw[if_pos hie,if_neg (show¬j=l by omega),if_pos (show l<j∧j≤k by omega)]
         exact .inl (e5 _ (by omega) (by omega))
       · rw[if_neg hie,if_pos (show l<i∧i≤k by omega),if_neg (show¬j=l by omega),if_pos (show l<j∧j≤k by omega)]
         exact qS _ _ (by omega) (by omega)
   · show(if i=l then k else if l<i∧i≤k then i-1 else i)<k+1
     split
     · omega
     · split<;>omega
   · show(if i=l then k else if l<i∧i≤k then i-1 else i)=i
     rw[if_neg (by omega),if_neg (by omega)]
noncomputable def vD(xs:Array Keyed)(m q:Nat):Prop:=q+1≤m∧∀i j,i<j→j<m→(m≤i+(q+1)→K xs i=K xs j∧Jn xs i<Jn xs j)∧(i+(q+1)<m→(m≤j+(q+1)→K xs j<K xs i)∧lD xs j i)
theorem vD.all{xs:Array Keyed}{m q:Nat}(h:vD xs m q)(hm:m≤xs.size):(q=0∨0<q)∧∀i j,i<j→j<m→lD (mirror xs (m-(q+1)) m ((m-(m-(q+1)))/2)) j i:=by
 refine⟨by omega,fun i j hij hj=>?_⟩
 have b:=lu (i:=m-(q+1)) (j:=m) hm
 unfold lD
 rw[(b i).1,(b i).2,(b j).1,(b j).2]
 by_cases hi:m-(q+1)≤i∧i<m
 · rw[if_pos hi,if_pos (show m-(q+1)≤j∧j<m by omega)]
   have:=(h.2 (m-(q+1)+m-1-j) (m-(q+1)+m-1-i) (by omega) (by omega)).1 (by omega)
   omega
 · rw[if_neg hi]
   by_cases hj2:m-(q+1)≤j∧j<m
   · rw[if_pos hj2]
     have:=((h.2 i (m-(q+1)+m-1-j) (by omega) (by omega)).2 (by omega)).1 (by omega)
     omega
   · rw[if_neg hj2]
     exact((h.2 i j hij hj).2 (by omega)).2
theorem vD.zero{xs:Array Keyed}{m:Nat}(h:vD xs m 0):∀i j,i<j→j<m→lD xs j i:=fun i j hij hj=>((h.2 i j hij hj).2 (by omega)).2
theorem lX{n:Nat}{xs:Array Keyed}{i j k:Nat}(t:iI n xs k)(hj:j≤xs.size)(hk:j≤k):iI n (mirror xs i j ((j-i)/2)) k:=
 t.mix _ (fun a=>(lu hj a).2) (fun a ha=>by split<;>omega) fun a ha=>by rw[if_neg (by omega)]
theorem Bu{st:SortSt}{n:Nat}{Q:DescSt→SortSt→Prop}(h0:IntKeys a₀)(hn:n≤a₀.size)(hB:SBase a₀ st)(hs:vD (arrOf st) n 0)(ht:iI a₀.size (arrOf st) n)
 (h:∀m q st',SBase a₀ st'→n≤m→m≤a₀.size→vD (arrOf st') m q→iI a₀.size (arrOf st') m→Q (none,m,q) st'):
 wpS (model prog w) A E s (descLoop n a₀.size) Q st:=by
 unfold descLoop
 refine wpS_forRange (I:=fun x c st'=>∃q,c=(none,x,q)∧SBase a₀ st'∧vD (arrOf st') x q∧iI a₀.size (arrOf st') x) ?st ?en ⟨0,rfl,hB,hs,ht⟩
 case en=>
  rintro c st' ⟨q,rfl,b1,b2,b3⟩
  rw[show max n a₀.size=a₀.size by omega]at b2 b3⊢
  exact h _ q st' b1 hn (Nat.le_refl _) b2 b3
 case st=>
  rintro x c st' hx1 hx2 ⟨q,rfl,b1,b2,b3⟩
  dsimp only
  have hq:=b2.1
  have hsz:x≤(arrOf st').size:=by rw[b1.size];omega
  refine wpS_bind (wpS_ltK b1 h0 hx2 (by omega) ?_)
  by_cases hl:K (arrOf st') x<K (arrOf st') (x-1)
  · simp only[hl,decide_true,if_true]
    by_cases hq0:q>0
    · rw[if_pos hq0]
      have al:=(b2.all hsz).2
      have km:=lu (i:=x-(q+1)) (j:=x) hsz
      refine wpS_bind (wpS_reverse (wpS_pure ⟨0,rfl,b1.setArr (mirror_perm _ _ _ _),⟨by omega,fun i j hij hj=>⟨fun hh=>by omega,fun hh=>⟨fun hj2=>?_,?_⟩⟩⟩,(lX b3 hsz (Nat.le_refl _)).up (Nat.le_succ x)⟩))
      · have hjx:j=x:=by omega
        subst hjx
        show K (mirror (arrOf st') _ _ _) j<K (mirror (arrOf st') _ _ _) i
        rw[(km i).1,(km j).1,if_neg (show¬(j-(q+1)≤j∧j<j) by omega)]
        have key:∀t,t<j→K (arrOf st') (j-1)≤K (arrOf st') t:=fun t ht=>by
         by_cases e:t=j-1
         · rw[e];exact Int.le_refl _
         · have z:=b2.2 t (j-1) (by omega) (by omega)
           by_cases g:j≤t+(q+1)
           · have:=(z.1 g).1;omega
           · have:=(z.2 (by omega)).2;unfold lD at this;omega
        split
        · have:=key (j-(q+1)+j-1-i) (by omega);omega
        · have:=key i hij;omega
      · show lD (mirror (arrOf st') _ _ _) j i
        by_cases hjx:j<x
        · exact al i j hij hjx
        · have hjx:j=x:=by omega
          subst hjx
          refine .inl ?_
          rw[(km i).1,(km j).1,if_neg (show¬(j-(q+1)≤j∧j<j) by omega)]
          have key:∀t,t<j→K (arrOf st') (j-1)≤K (arrOf st') t:=fun t ht=>by
           by_cases e:t=j-1
           · rw[e];exact Int.le_refl _
           · have z:=b2.2 t (j-1) (by omega) (by omega)
             by_cases g:j≤t+(q+1)
             · have:=(z.1 g).1;omega
             · have:=(z.2 (by omega)).2;unfold lD at this;omega
          split
          · have:=key (j-(q+1)+j-1-i) (by omega);omega
          · have:=key i hij;omega
    · rw[if_neg hq0]
      have hq0:q=0:=by omega
      subst hq0
      have z0:=b2.zero
      have lx:∀i,i<x→K (arrOf st') x<K (arrOf st') i:=fun i hi=>by
       by_cases e:i=x-1
       · rw[e];exact hl
       · have:=z0 i (x-1) (by omega) (by omega);unfold lD at this;omega
      refine wpS_pure ⟨0,rfl,b1,⟨by omega,fun i j hij hj=>⟨fun hh=>by omega,fun hh=>⟨fun hj2=>?_,?_⟩⟩⟩,b3.up (Nat.le_succ x)⟩
      · have hjx:j=x:=by omega
        subst hjx;exact lx i hij
      · by_cases hjx:j<x
        · exact z0 i j hij hjx
        · have hjx:j=x:=by omega
          subst hjx;exact .inl (lx i hij)
  · simp only[hl,decide_false,Bool.false_eq_true,if_false]
    refine wpS_bind (wpS_ltK b1 h0 (by omega) hx2 ?_)
    by_cases hg:K (arrOf st') (x-1)<K (arrOf st') x
    · simp only[hg,decide_true,if_true]
      exact wpS_pure (h x q st' b1 hx1 (by omega) b2 b3)
    · simp only[hg,decide_false,Bool.false_eq_true,if_false]
      have he:K (arrOf st') x=K (arrOf st') (x-1):=by omega
      refine wpS_pure ⟨q+1,rfl,b1,⟨by omega,fun i j hij hj=>⟨fun hh=>?_,fun hh=>⟨fun hj2=>?_,?_⟩⟩⟩,b3.up (Nat.le_succ x)⟩
      · by_cases hjx:j<x
        · exact(b2.2 i j hij hjx).1 (by omega)
        · have hjx:j=x:=by omega
          subst hjx
          refine⟨?_,b3 i j hij (Nat.le_refl _) hx2⟩
          rw[he]
          by_cases e:i=j-1
          · rw[e]
          · exact((b2.2 i (j-1) (by omega) (by omega)).1 (by omega)).1
      · by_cases hjx:j<x
        · exact((b2.2 i j hij hjx).2 (by omega)).1 (by omega)
        · have hjx:j=x:=by omega
          subst hjx
          rw[he]
          exact((b2.2 i (j-1) (by omega) (by omega)).2 (by omega)).1 (by omega)
      · by_cases hjx:j<x
        · exact((b2.2 i j hij hjx).2 (by omega)).2
        · have hjx:j=x:=by omega
          subst hjx
          refine .inl ?_
          rw[he]
          exact((b2.2 i (j-1) (by omega) (by omega)).2 (by omega)).1 (by omega)
theorem vI{st:SortSt}{n:Nat}{Q:Option Nat→SortSt→Prop}(h0:IntKeys a₀)(h1:1≤n)(hn:n≤a₀.size)(hB:SBase a₀ st)(hs:∀i j,i<j→j<n→lD (arrOf st) j i)(ht:iI a₀.size (arrOf st) n)
 (h:∀m st',SBase a₀ st'→1≤m→m≤a₀.size→i7 (arrOf st') m→iI a₀.size (arrOf st') m→Q (some m) st'):wpS (model prog w) A E s (tail3 n a₀.size) Q st:=by
 unfold tail3
 have hsz:n≤(arrOf st).size:=by rw[hB.size];exact hn
 refine wpS_bind (wpS_reverse ?_)
 have km:=lu (xs:=arrOf st) (i:=0) (j:=n) hsz
 have s1:i7 (mirror (arrOf st) 0 n ((n-0)/2)) n:=fun i j hij hj=>by
  unfold lD
  rw[(km i).1,(km i).2,(km j).1,(km j).2,if_pos (by omega),if_pos (by omega)]
  exact hs _ _ (by omega) (by omega)
 have t1:=lX (i:=0) ht hsz (Nat.le_refl _)
 have hB':SBase a₀ (setArr st (mirror (arrOf st) 0 n ((n-0)/2))):=hB.setArr (mirror_perm _ _ _ _)
 refine wpS_bind (wpS_ascLoop h0 (Nat.le_refl _) h1 hn hB' s1.to fun m m1 m2 sm _=>wpS_pure (h m _ hB' (by omega) m2 (s1.more t1 sm m2) (t1.up m1)))
theorem vE{st:SortSt}{n:Nat}{Q:Option Nat→SortSt→Prop}(h0:IntKeys a₀)(hn:n+1≤a₀.size)(hB:SBase a₀ st)(hs:vD (arrOf st) (n+1) 0)(ht:iI a₀.size (arrOf st) (n+1))
 (h:∀m st',SBase a₀ st'→1≤m→m≤a₀.size→i7 (arrOf st') m→iI a₀.size (arrOf st') m→Q (some m) st'):wpS (model prog w) A E s (descPart n a₀.size) Q st:=by
 unfold descPart
 refine wpS_bind (wpS_lift (wpAny_rule ⟨rfl,?_⟩))
 refine wpS_bind (Bu h0 hn hB hs ht fun m q st' b1 b2 b3 b4 b5=>?_)
 dsimp only
 have hsz:m≤(arrOf st').size:=by rw[b1.size];exact b3
 by_cases hq:q>0
 · rw[if_pos hq]
   exact wpS_bind (wpS_reverse (vI h0 (by omega) b3 (b1.setArr (mirror_perm _ _ _ _)) (b4.all hsz).2 (lX b5 hsz (Nat.le_refl _)) h))
 · rw[if_neg hq]
   have:q=0:=by omega
   subst this
   exact vI h0 (by omega) b3 b1 b4.zero b5 h
theorem C0{st:SortSt}{Q:Option Nat→SortSt→Prop}(h0:IntKeys a₀)(h1:1≤a₀.size)(hB:SBase a₀ st)(ht:iI a₀.size (arrOf st) 1)
 (h:∀m st',SBase a₀ st'→1≤m→m≤a₀.size→i7 (arrOf st') m→iI a₀.size (arrOf st') m→Q (some m) st'):wpS (model prog w) A E s (countRun' 0 a₀.size) Q st:=by
 rw[countRun0_eq]
 have s1:i7 (arrOf st) 1:=fun i j hij hj=>by omega
 refine wpS_bind (wpS_ascLoop h0 (Nat.le_refl _) (Nat.le_refl 1) h1 hB s1.to fun n n1 n2 sn hor=>?_)
 dsimp only
 have s2:=s1.more ht sn n2
 by_cases hn:n=a₀.size
 · rw[if_pos (by simpa using hn)]
   exact wpS_pure (h n st hB n1 n2 s2 (ht.up n1))
 · rw[if_neg (by simpa using hn)]
   have hl:=hor.resolve_left hn
   by_cases hg:n>1
   · rw[if_pos hg]
     refine wpS_bind (wpS_ltK hB h0 (by omega) (by omega) ?_)
     by_cases hr:K (arrOf st) 0<K (arrOf st) (n-1)
     · simp only[hr,decide_true,if_true]
       exact wpS_pure (h n st hB n1 n2 s2 (ht.up n1))
     · simp only[hr,decide_false,Bool.false_eq_true,if_false]
       have hsz:n≤(arrOf st).size:=by rw[hB.size];exact n2
       have eqs:∀k,k<n→K (arrOf st) k=K (arrOf st) (n-1):=fun k hk=>by
        have x:=sn 0 k (by omega) hk
        have y:=sn k (n-1) (by omega) (by omega)
        omega
       have km:=lu (xs:=arrOf st) (i:=0) (j:=n) hsz
       refine wpS_bind (wpS_reverse (vE h0 (by omega) (hB.setArr (mirror_perm _ _ _ _)) ⟨by omega,fun i j hij hj=>⟨fun hh=>by omega,fun hh=>⟨fun hj2=>?_,?_⟩⟩⟩ (lX (ht.up (by omega)) hsz (by omega)) h))
       · have hjn:j=n:=by omega
         subst hjn
         show K (mirror (arrOf st) _ _ _) j<K (mirror (arrOf st) _ _ _) i
         rw[(km i).1,(km j).1,if_neg (show¬(0≤j∧j<j) by omega),if_pos (by omega),eqs (0+j-1-i) (by omega)]
         exact hl
       · show lD (mirror (arrOf st) _ _ _) j i
         unfold lD
         rw[(km i).1,(km i).2,(km j).1,(km j).2,if_pos (show 0≤i∧i<n by omega)]
         by_cases hjn:j<n
         · rw[if_pos (by omega)]
           refine .inr ⟨(eqs _ (by omega)).trans (eqs _ (by omega)).symm,ht _ _ (by omega) (by omega) (by omega)⟩
         · have hjn:j=n:=by omega
           subst hjn
           rw[if_neg (by omega),eqs (0+j-1-i) (by omega)]
           exact .inl hl
   · rw[if_neg hg]
     have hn1:n=1:=by omega
     subst hn1
     refine vE h0 (by omega) hB ⟨by omega,fun i j hij hj=>⟨fun hh=>by omega,fun hh=>?_⟩⟩ (ht.up (by omega)) h
     have hi0:i=0:=by omega
     have hj1:j=1:=by omega
     subst hi0;subst hj1
     exact⟨fun _=>hl,.inl hl⟩
theorem B8{st:SortSt}{Q:Unit→SortSt→Prop}(h0:IntKeys a₀)(hB:SBase a₀ st)(ht:iI a₀.size (arrOf st) 1)(h2:2≤a₀.size)(h64:a₀.size<64)
 (h:∀st',(arrOf st').Perm a₀→failedOf st'=none→i7 (arrOf st') a₀.size→Q () st'):wpS (model prog w) A E s sortRuns' Q st:=by
 rw[sortRuns'_eq]
 refine wpS_bind (wpS_get ?_)
 dsimp only
 have hmr:minRun' a₀.size a₀.size 0=a₀.size:=by
  cases e:a₀.size with
  |zero=>rw[e]at h2;omega
  |succ f=>rw[minRun'_succ,if_pos (by omega)]
 simp only[hB.size,hmr]
 have dn:∀ {q:SortSt},SBase a₀ q→i7 (arrOf q) a₀.size→∃p,p=setPending q ((pendingOf q).push (0,a₀.size,0))∧(arrOf p).Perm a₀∧failedOf p=none∧pendingOf p= #[(0,a₀.size,0)]∧i7 (arrOf p) a₀.size:=fun{q} b s=>
  ⟨_,rfl,b.perm,b.failed,by show(pendingOf q).push _=_;rw[b.pend];rfl,s⟩
 refine wpS_bind (wpS_mono (wpS_forRange
  (I:=fun x c q=>(x=0∧c=(none,0)∧q=st)∨(1≤x∧c=(none,a₀.size)∧(arrOf q).Perm a₀∧failedOf q=none∧pendingOf q= #[(0,a₀.size,0)]∧i7 (arrOf q) a₀.size))
  (Q:=fun c q=>c=(none,a₀.size)∧(arrOf q).Perm a₀∧failedOf q=none∧pendingOf q= #[(0,a₀.size,0)]∧i7 (arrOf q) a₀.size) ?st ?en (.inl ⟨rfl,rfl,rfl⟩)) ?po)
 case en=>
  rintro c q (⟨hx,_,_⟩|⟨_,hc,hD⟩)
  · omega
  · exact⟨hc,hD⟩
 case st=>
  rintro x c q _ hx (⟨rfl,rfl,rfl⟩|⟨_,rfl,hD⟩)
  · dsimp only
    rw[if_neg (by omega)]
    simp only[Nat.sub_zero,Nat.min_self,Nat.zero_add]
    refine wpS_bind (C0 h0 (by omega) hB ht fun m q2 b1 b2 b3 b4 b5=>?_)
    dsimp only
    by_cases hm:m<a₀.size
    · rw[if_pos hm]
      refine wpS_bind (wpS_lift (wpAny_rule ⟨rfl,?_⟩))
      refine wpS_bind (BQ h0 b2 b3 b1 b4 b5 fun q3 d1 d2=>?_)
      simp only[Bool.not_true,Bool.false_eq_true,if_false]
      refine wpS_bind (wpS_get ?_)
      have hb:(pendingOf q3).back?=none:=by rw[d1.pend];rfl
      rw[hb]
      dsimp only
      obtain⟨p,rfl,z⟩:=dn d1 d2
      exact wpS_bind (wpS_modify (wpS_pure (.inr ⟨by omega,rfl,z⟩)))
    · rw[if_neg hm]
      have hm:m=a₀.size:=by omega
      subst hm
      refine wpS_bind (wpS_get ?_)
      have hb:(pendingOf q2).back?=none:=by rw[b1.pend];rfl
      rw[hb]
      dsimp only
      obtain⟨p,rfl,z⟩:=dn b1 b4
      exact wpS_bind (wpS_modify (wpS_pure (.inr ⟨by omega,rfl,z⟩)))
  · dsimp only
    rw[if_pos (Nat.le_refl _)]
    exact wpS_pure ⟨rfl,hD⟩
 case po=>
  rintro c q ⟨rfl,d1,d2,d3,d4⟩
  dsimp only
  refine wpS_bind (wpS_mono (wpS_forRange (I:=fun _ c q'=>q'=q∧c=(none,())) (Q:=fun c q'=>q'=q∧c=(none,())) ?_ (fun _ _ z=>z) ⟨rfl,rfl⟩) ?_)
  · rintro x c q' _ _ ⟨rfl,rfl⟩
    refine wpS_bind (wpS_get ?_)
    rw[if_pos (by rw[d3];exact Nat.le_refl 1)]
    exact wpS_pure ⟨rfl,rfl⟩
  · rintro c q' ⟨rfl,rfl⟩
    exact wpS_pure (h _ d1 d2 d4)
end
end L3
namespace L2
open PySem PySem.Spec PyProof.Rows
structure Entry(K:PySem.W.Frag)(ts:List (Addr×Addr))(a:Addr)(ns:List Int)(H:Hp):Prop where
 lst:k_ K H a (ns.map V.int)
 tab:∀q∈ts,H q.2=some (.js #[])∧q.2≠a
theorem vo:∀ {vs:List Value} {ns:List Int},IntsAre vs ns→Vals (ns.map V.int) vs
 |_,_,.nil=> .nil
 |_,_,.cons n t h=> .cons ⟨t,rfl⟩ (vo h)
structure J4(K:PySem.W.Frag)(ts:List (Addr×Addr))(h:Heap):Prop where
 hd:∀q∈ts,PySem.W.codeHdIn K q.1 q.2=true
 no:∀q∈ts,K.lookup q.2=none
 at':∀q∈ts,h.get? q.2=some (PySem.W.tabObj #[])
theorem C9{P:Program}{w:World}{K:PySem.W.Frag}{mg mb:Str→Option Value}{k:Nat}{fa a:Addr}{fd:FuncData}{x:Str}{sp:Sp}{s₁:Shared}{vs:List Value}{ns:List Int}{ts:List (Addr×Addr)}
 (KX:K.In s₁.heap) (hns:s₁.heap.Ns mainGlobals mg) (hb:s₁.heap.Ns builtinsNs mb) (hbb:∀x:Str,x≠"__name__"→mb x=bootBuiltins x) (hlim:s₁.heap.NoLimit) (hse:s₁.heap.NoSeer) (hgt:P.given.tree=none)
 (hbm:∃bm ob,mg "__builtins__"=some (.ref bm)∧bm≠builtinsNs∧s₁.heap.get? bm=some ob∧ob.cls= .type "module"∧ob.dict=some builtinsNs∧ob.data= .plain) (hT:J4 K ts s₁.heap) (hg:s₁.gens= #[])
 (ha:s₁.heap.get? a=some {cls:= .type "list",data:= .seq vs.toArray}) (hi:IntsAre vs ns) (hl:ns.length≤sizeLine) (hr:cT k callerA)
 (F:∀base:Heap,K.In base→base.Ns mainGlobals mg→bo P w K mg base (fun _ _ _ _ _ _=>False) k fa fd [x] sp) (hbind:∀(s:Shared) (u:Value),BindsTo s fd ⟨[u],[]⟩ [(x,u)])
 (hsp:∀H:Hp,Entry K ts a ns H→sp [.ref a] H (fun v _=>v= .bl true) fun _ _ _=>False):
 codeAny (model P w) callerA (.call (.ref fa) ⟨[.ref a],[]⟩) (fun r s'=>r= .ok (.ret (.bool true))∧OldK s₁.heap s'.heap∧s'.os=s₁.os∧AllBare s'.gens) s₁:=by
 have rv:=vo hi
 have lenV:=hi.length
 have nta:∀q∈ts,q.2≠a:=fun q hq z=>by
  have:=hT.at' q hq
  rw[z,ha]at this
  cases this
 let sc:Option HO:=match K.lookup a with
  |some _=>none
  |none=>some (.fW {cls:= .type "list",data:= .seq vs.toArray} (.lst (ns.map V.int)))
 let H:Hp:=fun b=>if b=a then sc else if b∈ts.map (·.2)then some (.js #[])else none
 have Ha:H a=sc:=if_pos rfl
 have Ht:∀q∈ts,H q.2=some (.js #[]):=fun q hq=>by
  show(if q.2=a then sc else if q.2∈ts.map (·.2)then some (HO.js #[])else none)=_
  rw[if_neg (nta q hq),if_pos (List.mem_map_of_mem hq)]
 have Hs:∀b u,H b=some u→(b=a∧K.lookup a=none∧u= .fW {cls:= .type "list",data:= .seq vs.toArray} (.lst (ns.map V.int)))∨(∃q∈ts,q.2=b∧u= .js #[]):=fun b u e=>by
  have e':(if b=a then sc else if b∈ts.map (·.2)then some (HO.js #[])else none)=some u:=e
  by_cases hba:b=a
  · rw[if_pos hba]at e'
    have e2:(match K.lookup a with
     |some _=>none
     |none=>some (HO.fW {cls:= .type "list",data:= .seq vs.toArray} (.lst (ns.map V.int))))=some u:=e'
    cases q:K.lookup a with
    |some o=>rw[q]at e2;cases e2
    |none=>rw[q]at e2;cases e2;exact .inl ⟨hba,rfl,rfl⟩
  · rw[if_neg hba]at e'
    by_cases hbt:b∈ts.map (·.2)
    · rw[if_pos hbt]at e';cases e'
      obtain⟨q,hq,e⟩:=List.mem_map.mp hbt
      exact .inr ⟨q,hq,e,rfl⟩
    · rw[if_neg hbt]at e';cases e'
 have aI:gN P w H s₁.heap:=fun b u e=>by
  rcases Hs b u e with⟨rfl,_,rfl⟩|⟨q,hq,rfl,rfl⟩
  · exact⟨ha,by rw[List.length_map];exact hl,vs,_,rv,ha⟩
  · exact hT.at' q hq
 have hE:Entry K ts a ns H:=by
  refine⟨?_,fun q hq=>⟨Ht q hq,nta q hq⟩⟩
  cases q:K.lookup a with
  |some o=>
   have e:=KX a o q
   rw[ha]at e;cases e
   exact .inr ⟨_,vs.toArray,_,q,rfl,rfl,rfl,by rw[List.size_toArray,lenV];exact hl,by simpa using rv⟩
  |none=>
   refine .inl (.inr ⟨{cls:= .type "list",data:= .seq vs.toArray},?_⟩)
   rw[Ha]
   show(match K.lookup a with
    |some _=>none
    |none=>some (HO.fW {cls:= .type "list",data:= .seq vs.toArray} (.lst (ns.map V.int))))=_
   rw[q]
 have dictNo:∀ {b:Addr} {o:Obj},s₁.heap.get? b=some o→(∀es ep,o.data≠ .seq es ep)→o.cls≠ .none→H b=none:=fun{b o} e d1 d2=>by
  cases q:H b with
  |none=>rfl
  |some u=>
   rcases Hs b u q with⟨rfl,_,_⟩|⟨t,ht,rfl,_⟩
   · rw[ha]at e;cases e;exact absurd rfl (d1 _ _)
   · rw[hT.at' t ht]at e;cases e;exact absurd rfl d2
 have nsK:∀ {b:Addr} {m:Str→Option Value},s₁.heap.Ns b m→(nQ s₁.heap H).Ns b m:=fun{b m} ⟨o,es,ep,e,d,r⟩=>by
  refine⟨o,es,ep,pE e ?_,d,r⟩
  cases q:H b with
  |none=>rfl
  |some u=>
   rcases Hs b u q with⟨rfl,_,_⟩|⟨t,ht,rfl,_⟩
   · rw[ha]at e;cases e;cases d
   · rw[hT.at' t ht]at e;cases e;cases d
 have hKb:K.In (nQ s₁.heap H):=fun b o e=>pE (KX b o e) (by
  cases q:H b with
  |none=>rfl
  |some u=>
   rcases Hs b u q with⟨rfl,z,_⟩|⟨t,ht,rfl,_⟩
   · rw[z]at e;cases e
   · rw[hT.no t ht]at e;cases e)
 obtain⟨bm,ob,b1,b2,b3,b4,b5,b6⟩:=hbm
 have hbmK:(nQ s₁.heap H).get? bm=some ob:=pE b3 (dictNo b3 (fun es ep z=>by rw[b6]at z;cases z) (fun z=>by rw[b4]at z;cases z))
 have seK:(nQ s₁.heap H).NoSeer:=by
  obtain⟨⟨m1,a1,a2⟩,⟨m2,c1,c2⟩,⟨m3,d1,d2⟩,⟨mg',bm',ob',e1,e2,e3,e4,e5⟩⟩:=hse
  refine⟨⟨m1,nsK a1,a2⟩,⟨m2,nsK c1,c2⟩,⟨m3,nsK d1,d2⟩,⟨mg',bm',ob',nsK e1,e2,pE e3 ?_,e4,e5⟩⟩
  cases q:H bm' with
  |none=>rfl
  |some u=>
   rcases Hs bm' u q with⟨rfl,_,_⟩|⟨t,ht,rfl,_⟩
   · rw[ha]at e3;cases e3;exact absurd (show Value.type "list"=Value.type "module" from e4) (by intro z;injection z with z;exact absurd z (by decide))
   · rw[hT.at' t ht]at e3;cases e3;cases e4
 have hM:Mod K mg (nQ s₁.heap H):=⟨hKb,nsK hns,⟨mb,nsK hb,hbb⟩,let⟨mc,h1,h2⟩:=hlim;⟨mc,nsK h1,h2⟩,seK,⟨bm,ob,b1,b2,hbmK,b4,b5,b6⟩⟩
 have e0:tw P w K mg (nQ s₁.heap H) callerA [] s₁ H:=⟨rfl,hM,fun b o e=>Hg e,Nat.le_of_eq (CK _ _),trivial,fun b hb=>absurd (show b∈([]:List Addr)from hb) (by simp),aI,.of_eq hg,hgt⟩
 refine codeAny_mono ((F _ hKb (nsK hns)).run callerA [] s₁ H ⟨[.ref a],[]⟩ [.ref a] [.ref a] _ _ hr e0 (hbind s₁ (.ref a)) (.cons rfl .nil) (hsp H hE)) fun r s' h=>?_
 cases r with
 |error e=>exact False.elim h
 |ok fl=>
  cases fl with
  |next=>exact False.elim h
  |brk=>exact False.elim h
  |cont=>exact False.elim h
  |ret u=>
   obtain⟨v,H',os,bare,un,hok',r',q⟩:=h
   have q':v= .bl true:=q
   subst q'
   obtain rfl:u=Value.bool true:=r'
   have noF:∀b:Addr,b∉oG ([]:List Env):=fun b z=>absurd (show b∈([]:List Addr)from z) (by simp)
   refine⟨rfl,⟨fun b o e=>?_,fun b o e=>un.there b o e (by simp)⟩,os,bare⟩
   cases q:H b with
   |none=>exact .inl (un.keep b o e q (noF b) (by simp))
   |some u=>
    rcases Hs b u q with⟨rfl,_,rfl⟩|⟨t,ht,rfl,rfl⟩
    · obtain⟨e2,_⟩:=hok' b _ (un.mJ b _ _ q)
      rw[ha]at e;cases e
      exact .inl e2
    · obtain⟨more,e1⟩:=un.mK _ _ q
      have e2:s'.heap.get? t.2=some {cls:= .none,data:= .fields (#[]++more)}:=hok' _ _ e1
      have e3:=hT.at' t ht
      rw[e3]at e;cases e
      have C:PySem.W.CodeHd s₁.heap t.1 t.2:=PySem.W.codeHd_of_K KX (hT.hd t ht)
      exact .inr (.inl ⟨(C.tab e3).isCodeTable,rfl,#[],more,rfl,e2⟩)
theorem LN{l:PySem.W.OpenLaw}{n k:Nat}{q:Program}{loose:List Str}{XP:(Str→Option Value)→Heap→Prop}{YP:World→Heap→Prop}{d:DefRec}{K:Params→PySem.W.Frag}{sp:World→Sp}{x:Str}{ts:List (Addr×Addr)}
 (hn:l.most=some n) (hn2:n≤sizeLine) (hdf:d.params.defaults=[]) (hr:cT k callerA) (hq:importsNone q=true) (hgt:l.prog.given.tree=none)
 (hY:∀(w:World) (h:Heap),YP w h→(K w.params).In h∧J4 (K w.params) ts h)
 (F:∀(w:World) (mg:Str→Option Value) (fa:Addr) (h:Heap),(K w.params).In h→h.Ns mainGlobals mg→mg d.name=some (.ref fa)→
   ∃fd:FuncData,(∀(s:Shared) (u:Value),BindsTo s fd ⟨[u],[]⟩ [(x,u)])∧
    ∀base:Heap,(K w.params).In base→base.Ns mainGlobals mg→bo l.prog w (K w.params) mg base (fun _ _ _ _ _ _=>False) k fa fd [x] (sp w))
 (hsp:∀(w:World) (H:Hp) (a:Addr) (ns:List Int),ns.length≤n→Entry (K w.params) ts a ns H→sp w [.ref a] H (fun v _=>v= .bl true) fun _ _ _=>False):
 PySem.W.WalkO q loose XP YP l.row.toRowW d [] (fun f vs=>PySem.call f vs):=by
 refine Att.zc hn hdf fun w s₀ s₁ mg mb fa o pm cd doc a vs ns G Y ho hd hcd hmg hobj hints hlen hg=>?_
 obtain⟨KX,hT⟩:=hY w _ Y
 obtain⟨fd,hb,hF⟩:=F w mg fa _ KX G.T.g hmg
 exact C9 KX G.T.g G.T.b G.T.builtins G.T.nolimit (G.T.seer hq) hgt G.T.bmain hT hg hobj hints (Nat.le_trans hlen hn2) hr hF hb fun H hE=>hsp w H a ns hlen hE
end L2
namespace L3
open PySem PySem.Spec L2
open PyProof.Rows hiding St
section
variable {X:Cx}{pins:List (Addr×Obj)}{σ:L2.St}{H:Hp}{s:Shared}{p:Addr}{o o':Obj}{h':Heap}
theorem ky{t':Nat}(I:Inv X pins σ H s)(hd:∀v,o.data≠ .cell v)(hfr:o.isFreed=false:=by rfl):Inv X (pins++[(s.heap.objs.size,o)]) σ H {s with heap:=s.heap.push o,toks:=t'}:=by
 have I':=I.kept (h':=s.heap.push o) (t':=t') (fun b u e=>Heap.get?_push_of_some _ e)
 refine I'.q_ fun q hq=>?_
 rcases List.mem_append.mp hq with hq|hq
 · exact I'.pin q (List.mem_append_right _ hq)
 · have e:q=(s.heap.objs.size,o):=by simpa using hq
   subst e
   exact⟨Heap.get?_push_size _ hfr,I.aI.fresh (Nat.le_refl _),Nat.ne_of_gt I.lt,I.Jo (Nat.le_refl _),hd⟩
theorem fv(I:Inv X (pins++[(p,o)]) σ H s):s.heap.get? p=some o∧H p=none∧p≠X.env.locals∧p∉X.fs∧∀v,o.data≠ .cell v:=
 I.pin (p,o) (List.mem_append_right _ (List.mem_append_right _ (List.mem_singleton.mpr rfl)))
theorem wZ(I:Inv X (pins++[(p,o)]) σ H s):∀x c,X.env.cells.lookup x=some c→c≠p:=fun x c e z=>by
 obtain⟨v,u,hu,hd⟩:=I.cell x c e
 obtain⟨h1,_,_,_,h5⟩:=fv I
 rw[z,h1]at hu;cases hu
 exact h5 v hd
theorem mQ{t':Nat}(I:Inv X (pins++[(p,o)]) σ H s)(hs:Heap.SameBut p s.heap h')(hn:h'.get? p=some o')(hd:∀v,o'.data≠ .cell v)(h0:X.s₀.heap.objs.size≤p)(hp:∀q∈X.pn++pins,q.1≠p):
 Inv X (pins++[(p,o')]) σ H {s with heap:=h',toks:=t'}:=by
 obtain⟨_,n,neL,nfs,_⟩:=fv I
 have I0:Inv X pins σ H s:=I.gH
 have I1:=I0.turned (t':=t') (h':=h') (it:=p) (fun b u hb e=>(hs.2 b hb).trans e) n neL (.inr h0) (wZ I) hp
 refine I1.q_ fun q hq=>?_
 rcases List.mem_append.mp hq with hq|hq
 · exact I1.pin q (List.mem_append_right _ hq)
 · have e:q=(p,o'):=by simpa using hq
   subst e
   exact⟨hn,n,neL,nfs,hd⟩
theorem CP{u:HO}(I:Inv X (pins++[(p,o)]) σ H s)(h0:X.s₀.heap.objs.size≤p)(hp:∀q∈X.pn++pins,q.1≠p)(new:dj X.prog X.w (upd H p u) s.heap p u):Inv X pins σ (upd H p u) s:=by
 obtain⟨e0,n,neL,nfs,_⟩:=fv I
 have ne:∀ {b:Addr} {w:HO},H b=some w→b≠p:=fun e=>dm e n
 have ne0:∀ {b:Addr} {w:Obj},X.s₀.heap.get? b=some w→b≠p:=fun e=>Nat.ne_of_lt (Nat.lt_of_lt_of_le (Heap.lt_size e) h0)
 refine⟨I.ok,I.os,I.bare,⟨I.base.keep,I.base.slot,fun b w e q hx=>?_,I.base.there,fun b xs e=>?_,fun b w y e=>?_,fun b ps e=>?_⟩,I.loc,I.cell,?_,fun x c e=>?_,fun q hq=>?_,fun b w e=>?_,I.len⟩
 · rw[aC (ne0 e)];exact I.base.free b w e q hx
 · have:=I.base.nY b xs e;rw[aC (ne this)];exact this
 · have:=I.base.mJ b w y e;rw[aC (ne this)];exact this
 · obtain⟨m,q⟩:=I.base.mK b ps e
   exact⟨m,by rw[aC (ne q)];exact q⟩
 · rw[aC (Ne.symm neL)];exact I.free
 · rw[aC (wZ I x c e)];exact I.h7 x c e
 · have hq':q∈X.pn++(pins++[(p,o)]):=by
    rcases List.mem_append.mp hq with z|z
    · exact List.mem_append_left _ z
    · exact List.mem_append_right _ (List.mem_append_left _ z)
   obtain⟨a1,a2,a3⟩:=I.pin q hq'
   exact⟨a1,by rw[aC (hp q hq)];exact a2,a3⟩
 · by_cases hb:b=p
   · subst hb;rw[aZ]at e;cases e;exact new
   · rw[aC hb]at e
     exact(I.aI b w e).oj (fun _ _ _ q=>q) (fun c q=>by rw[aC (ne q)];exact q) fun c xs q=>by rw[aC (ne q)];exact q
end
noncomputable def lP(X:Cx)(pins:List (Addr×Obj))(σ:L2.St)(R:Hp→Prop)(own:List (Addr×Obj))(s:Shared):Prop:=∃H,Inv X (pins++own) σ H s∧R H
section
variable {X:Cx}{pins:List (Addr×Obj)}{σ:L2.St}{R:Hp→Prop}{s:Shared}{A:Around}{E:Value→Shared→Prop}{a kS:Addr}{e1 e:Nat}{keys:Array Value}{P:PySem.Fin→Shared→Prop}
structure Own(X:Cx)(pins:List (Addr×Obj))(p:Addr):Prop where
 ge:X.s₀.heap.objs.size≤p
 ne:∀q∈X.pn++pins,q.1≠p
theorem rO{H:Hp}(I:Inv X pins σ H s):Own X pins s.heap.objs.size:=⟨I.sz,fun q hq=>Nat.ne_of_lt (Heap.lt_size (I.pin q hq).1)⟩
theorem xo{p:Addr}{q:Addr×Obj}(h:Own X pins p)(hq:q.1≠p):Own X (pins++[q]) p:=⟨h.ge,fun r hr=>by
 rcases List.mem_append.mp hr with z|z
 · exact h.ne r (List.mem_append_left _ z)
 · rcases List.mem_append.mp z with z|z
   · exact h.ne r (List.mem_append_right _ z)
   · have e:r=q:=by simpa using z
     rw[e];exact hq⟩
theorem wO{x y:Addr×Obj}(J:lP X pins σ R [x,y] s):∃H,Inv X ((pins++[x])++[y]) σ H s∧R H:=by
 obtain⟨H,I,r⟩:=J
 exact⟨H,by rw[List.append_assoc];exact I,r⟩
theorem BB{x y:Addr×Obj}{H:Hp}(I:Inv X ((pins++[x])++[y]) σ H s)(r:R H):lP X pins σ R [x,y] s:=⟨H,by rw[List.append_assoc]at I;exact I,r⟩
theorem yB{st:SortSt}(J:lP X pins σ R [(a,seqObj "list" #[] e1),(kS,seqObj "list" keys e)] s)(ha:Own X pins a)(hk:Own X pins kS)(hka:kS≠a)(hz1:keys.size≤sizeLine)(hz2:(arrOf st).size≤sizeLine)(hf:failedOf st=none)
 (h:∀s' c,lP X pins σ R [(a,seqObj "list" ((arrOf st).map (·.2)) c)] s'→P (.done (.ret .none)) s'):
 wpAny (model X.prog X.w) A (PyProof.Rows.ksk_tail a false e1 (.ref kS) st) P E s:=by
 obtain⟨H,I,r⟩:=wO J
 have k1:=(fv I).1
 have s1:=Heap.SameBut.update s.heap kS (Obj.mapSeq fun _=>(#[]:Array Value))
 have I1:=mQ (t':=s.toks) I s1 (get?_update_seq k1 fun _=> #[]) (fun v z=>by cases z) hk.ge (xo hk hka.symm).ne
 have I2:Inv X (pins++[(a,seqObj "list" #[] e1)]) σ H {s with heap:=s.heap.update kS (Obj.mapSeq fun _=>(#[]:Array Value)),toks:=s.toks}:=I1.gH
 have a1:=(fv I2).1
 have s2:=Heap.SameBut.update (s.heap.update kS (Obj.mapSeq fun _=>(#[]:Array Value))) a (Obj.mapSeq fun _=>(arrOf st).map (·.2))
 have I3:=mQ (t':=s.toks) I2 s2 (get?_update_seq a1 fun _=>(arrOf st).map (·.2)) (fun v z=>by cases z) ha.ge ha.ne
 unfold ksk_tail
 simp only[Bool.false_eq_true,if_false]
 refine wpAny_bind (listUpdate_at k1 rfl ?_ hz1 (Nat.zero_le _))
 refine wpAny_bind (wpAny_letGo ?_)
 refine wpAny_bind (seqEpoch_at a1 rfl ?_)
 refine wpAny_bind (listUpdate_at a1 rfl ?_ (Nat.zero_le _) (Nat.le_succ_of_le (by rw[Array.size_map];exact hz2)))
 rw[hf]
 simp only[bne_self_eq_false,Bool.false_eq_true,if_false]
 exact wpAny_pure (h _ _ ⟨H,I3,r⟩)
noncomputable def AE(kz:List Int)(vs out:List Value):Prop:=
 ∃ps:List (Int×Value),ps.Perm (kz.zip vs)∧out=ps.map Prod.snd∧ps.Pairwise fun p q=>p.1<q.1∨(p.1=q.1∧numOf p.2<numOf q.2)
theorem zA{kz:List Int}{vs:List Value}(hk:IntsAre keys.toList kz){xs:Array Keyed}(hp:xs.Perm (keys.zip vs.toArray))(hs:i7 xs xs.size):AE kz vs (xs.map (·.2)).toList:=by
 have hl:xs.toList.Perm (keys.toList.zip vs):=by rw[←ksk_zip];exact Array.perm_iff_toList_perm.mp hp
 refine⟨xs.toList.map fun p=>(numOf p.1,p.2),?_,?_,?_⟩
 · have e2:(keys.toList.zip vs).map (fun p:Keyed=>(numOf p.1,p.2))=kz.zip vs:=by
    rw[←hk.nums,List.zip_map_left]
    exact List.map_congr_left fun⟨x,y⟩ _=>rfl
   rw[←e2]
   exact hl.map _
 · rw[Array.toList_map,List.map_map];rfl
 · rw[List.pairwise_iff_getElem]
   intro i j hi hj hij
   have hi':i<xs.size:=by simpa using hi
   have hj':j<xs.size:=by simpa using hj
   have q:=hs i j hij hj'
   unfold lD Jn at q
   rw[K_eq hi',K_eq hj',getElem?_pos xs i hi',getElem?_pos xs j hj']at q
   simpa using q
theorem Gn{kz:List Int}{vs:List Value}(J:lP X pins σ R [(a,seqObj "list" #[] e1),(kS,seqObj "list" keys e)] s)(ha:Own X pins a)(hk:Own X pins kS)(hka:kS≠a)(hi:IntsAre keys.toList kz)(hl:kz.length=vs.length)(h64:vs.length<64)
 (hup:vs.Pairwise fun x y=>numOf x<numOf y)
 (h:∀s' out c,lP X pins σ R [(a,seqObj "list" out c)] s'→AE kz vs out.toList→P (.done (.ret .none)) s'):
 wpAny (model X.prog X.w) A (ksk_end a false vs.toArray e1 (.ref kS) keys) P E s:=by
 have hsz:keys.size=vs.length:=by have:=hi.length;rw[Array.length_toList]at this;omega
 have hzs:(keys.zip vs.toArray).size=vs.length:=by rw[Array.size_zip,hsz,List.size_toArray,Nat.min_self]
 have hbig:vs.length≤sizeLine:=Nat.le_trans (Nat.le_of_lt h64) (by decide)
 have hta:iI (keys.zip vs.toArray).size (keys.zip vs.toArray) 1:=fun i j hij _ hj=>by
  rw[hzs]at hj
  have e1:(keys.zip vs.toArray)[i]?=some (keys.toList[i]'(by rw[Array.length_toList];omega),vs[i]'(by omega)):=by
   rw[←Array.getElem?_toList,ksk_zip,List.getElem?_eq_getElem (by rw[List.length_zip,Array.length_toList];omega),List.getElem_zip]
  have e2:(keys.zip vs.toArray)[j]?=some (keys.toList[j]'(by rw[Array.length_toList];omega),vs[j]'(by omega)):=by
   rw[←Array.getElem?_toList,ksk_zip,List.getElem?_eq_getElem (by rw[List.length_zip,Array.length_toList];omega),List.getElem_zip]
  unfold Jn
  rw[e1,e2]
  exact List.pairwise_iff_getElem.mp hup i j (by omega) (by omega) hij
 unfold ksk_end
 simp only[Bool.false_eq_true,if_false]
 by_cases h2:vs.toArray.size<2
 · rw[if_pos h2,if_pos h2]
   refine wpAny_bind (wpAny_pure ?_)
   rw[StateT.run_pure]
   refine wpAny_bind (wpAny_pure ?_)
   refine yB (st:=SortSt.mk' general' (keys.zip vs.toArray) #[] 7 none) J ha hk hka (by omega) (by show(keys.zip vs.toArray).size≤_;omega) rfl fun s' c J'=>h s' _ c J' ?_
   refine zA hi (Array.Perm.refl _) fun i j hij hj=>?_
   have hj':j<(keys.zip vs.toArray).size:=hj
   rw[List.size_toArray]at h2
   omega
 · rw[if_neg h2,if_neg h2]
   rw[List.size_toArray]at h2
   rw[ksk_kind hi (by omega)]
   refine wpAny_bind (wpAny_pure ?_)
   refine wpAny_bind (wpAny_mono (B8 (a₀:=keys.zip vs.toArray) (st:=SortSt.mk' oneType' (keys.zip vs.toArray) #[] 7 none)
    (Q:=fun _ st'=>(arrOf st').Perm (keys.zip vs.toArray)∧failedOf st'=none∧i7 (arrOf st') (keys.zip vs.toArray).size)
    (ksk_intKeys hi) ⟨Array.Perm.refl _,rfl,rfl,rfl⟩ hta (by omega) (by omega) fun st' b1 b2 b3=>⟨b1,b2,b3⟩) ?_ fun _ _ z=>z)
   rintro⟨⟨⟩,st'⟩ s' ⟨rfl,hp,hf,hs⟩
   have hz2:=hp.size_eq
   refine yB (st:=st') J ha hk hka (by omega) (by rw[hz2];omega) hf fun s' c J'=>h s' _ c J' (zA hi hp (by rw[hz2];exact hs))
theorem Dv{f:Value}{kz:List Int}{vs:List Value}(J:lP X pins σ R [(a,seqObj "list" #[] e1),(kS,seqObj "list" #[] 0)] s)(ha:Own X pins a)(hk:Own X pins kS)(hka:kS≠a)(hl:kz.length=vs.length)(h64:vs.length<64)
 (hup:vs.Pairwise fun x y=>numOf x<numOf y)
 (turn:∀(i:Nat) (v:Value) (k:Int),vs[i]?=some v→kz[i]?=some k→∀(own:List (Addr×Obj)) (s:Shared),lP X pins σ R own s→wpAny (model X.prog X.w) A (call f [v]) (fun u s'=>(∃t,u= .int k t)∧lP X pins σ R own s') (fun _ _=>False) s)
 (h:∀s' out c,lP X pins σ R [(a,seqObj "list" out c)] s'→AE kz vs out.toList→P (.done (.ret .none)) s'):
 wpAny (model X.prog X.w) A (ksk_rest a f false vs.toArray e1 (.ref kS)) P E s:=by
 have hbig:vs.length≤sizeLine:=Nat.le_trans (Nat.le_of_lt h64) (by decide)
 unfold ksk_rest
 refine wpAny_bind (wpAny_rule ?_)
 first
  |rw[List.forIn_toArray]
  |(rw[←Array.forIn_toList];simp only[List.toList_toArray])
  |rw[←Array.forIn_toList]
 refine wpAny_bind (ksk_fold (fun i s'=>∃kA e,lP X pins σ R [(a,seqObj "list" #[] e1),(kS,seqObj "list" kA e)] s'∧IntsAre kA.toList (kz.take i)) vs 0 s ⟨#[],0,J,by simpa using IntsAre.nil⟩ ?st ?en)
 case st=>
  rintro j x s' hx ⟨kA,e,J',hk'⟩
  simp only[Nat.zero_add]at hk'⊢
  have hj:j<vs.length:=(List.getElem?_eq_some_iff.mp hx).1
  have hkj:kz[j]?=some (kz[j]'(by omega)):=List.getElem?_eq_getElem _
  have hz:kA.size≤vs.length:=by
   have:=hk'.length
   rw[Array.length_toList,List.length_take]at this
   omega
  refine wpAny_bind (wpAny_attempt (wpAny_mono (turn j x _ hx hkj _ s' J') (fun v s2 he=>?_) fun _ _ z=>z.elim))
  obtain⟨⟨t,rfl⟩,J2⟩:=he
  obtain⟨H,I,r⟩:=wO J2
  have k1:=(fv I).1
  have s1:=Heap.SameBut.update s2.heap kS (Obj.mapSeq (·.push (.int (kz[j]'(by omega)) t)))
  have I1:=mQ (t':=s2.toks) I s1 (get?_update_seq k1 (·.push (.int (kz[j]'(by omega)) t))) (fun v z=>by cases z) hk.ge (xo hk hka.symm).ne
  refine wpAny_bind (listUpdate_at k1 rfl ?_ (by omega) (Nat.le_trans (Nat.le_of_eq (Array.size_push ..)) (by omega)))
  refine wpAny_pure ⟨rfl,_,_,BB I1 r,?_⟩
  have ek:kz.take (j+1)=kz.take j++[kz[j]'(by omega)]:=by rw[List.take_add_one,hkj];simp
  rw[ek,Array.toList_push]
  exact ksk_snoc hk'
 case en=>
  rintro s' ⟨kA,e,J',hk'⟩
  rw[show kz.take (0+vs.length)=kz from List.take_of_length_le (by omega)]at hk'
  obtain⟨H,I,r⟩:=wO J'
  refine wpAny_bind (listItems_at (fv I).1 rfl ?_)
  exact Gn J' ha hk hka hk' hl h64 hup h
theorem Ba{f:Addr}{l:Addr}{kz:List Int}{vs:List Value}{H:Hp}{Q:Value→Shared→Prop}(I:Inv X pins σ H s)(r:R H)(hli:s.heap.IsList l vs.toArray)(hl:kz.length=vs.length)(h64:vs.length<64)
 (hup:vs.Pairwise fun x y=>numOf x<numOf y)
 (turn:∀(i:Nat) (v:Value) (k:Int),vs[i]?=some v→kz[i]?=some k→∀(own:List (Addr×Obj)) (s:Shared),lP X pins σ R own s→wpAny (model X.prog X.w) A.in1.in1 (call (.ref f) [v]) (fun u s'=>(∃t,u= .int k t)∧lP X pins σ R own s') (fun _ _=>False) s)
 (h:∀D s' out c,Own X pins D→lP X pins σ R [(D,seqObj "list" out c)] s'→AE kz vs out.toList→Q (.ref D) s'):
 wpAny (model X.prog X.w) A (call (.builtin "sorted") [.ref l] [(Str.ofString "key",.ref f)]) Q E s:=by
 have hbig:vs.length≤sizeLine:=Nat.le_trans (Nat.le_of_lt h64) (by decide)
 refine call_function_entry_kw kind_sorted plain_sorted entry_sorted (ksk_s1 _ _) ?_
 unfold Builtin.«sorted»
 refine wpAny_bind (m:=checkCount "sorted" 1 1 _) (wpAny_pure ?_)
 refine wpAny_bind (collect_list hli ?_ hbig)
 have I1:=ky (o:=seqObj "list" #[] 0) (t':=s.toks) I (fun v z=>by cases z)
 have s1:=Heap.SameBut.update (s.heap.push (seqObj "list" #[] 0)) s.heap.objs.size (Obj.mapSeq (· ++vs.toArray))
 have I2:=mQ (t':=s.toks) I1 s1 (get?_update_seq (fv I1).1 (· ++vs.toArray)) (fun v z=>by cases z) (rO I).ge (rO I).ne
 have I3:Inv X pins σ H {s with heap:=(s.heap.push (seqObj "list" #[] 0)).update s.heap.objs.size (Obj.mapSeq (· ++vs.toArray)),toks:=s.toks}:=I2.gH
 refine wpAny_bind (wpAny_newList ?_ hbig)
 generalize hs3:({s with heap:=(s.heap.push (seqObj "list" #[] 0)).update s.heap.objs.size (Obj.mapSeq (· ++vs.toArray))}:Shared)=s3
 have I3':Inv X pins σ H s3:=by rw[←hs3];exact I3
 have oD:=rO I3'
 have I4:=ky (o:=seqObj "list" vs.toArray 0) (t':=s3.toks) I3' (fun v z=>by cases z)
 have hD:=(fv I4).1
 refine wpAny_bind (wpAny_holding (wpAny_call_entry_kw slot_list_sort ⟨_,hD,rfl⟩ entry_list_sort ?body (ksk_l1 _ _)))
 case body=>
  show wpAny (model X.prog X.w) A.in1.in1 (Builtin.«list.sort» ⟨[.ref s3.heap.objs.size],[(Str.ofString "key",.ref f)]⟩) _ _ _
  rw[ksk_t1]
  unfold ksk_tree
  refine wpAny_bind (listItems_at hD rfl ?_)
  have s5:=Heap.SameBut.update (s3.heap.push (seqObj "list" vs.toArray 0)) s3.heap.objs.size (Obj.mapSeq fun _=>(#[]:Array Value))
  have I5:=mQ (t':=s3.toks) I4 s5 (get?_update_seq hD fun _=> #[]) (fun v z=>by cases z) oD.ge oD.ne
  have hD5:=(fv I5).1
  refine wpAny_bind (listUpdate_at hD rfl ?_ (by rw[List.size_toArray];exact hbig) (Nat.zero_le _))
  refine wpAny_bind (seqEpoch_at hD5 rfl ?_)
  refine wpAny_bind (wpAny_newTuple ?_ (by show vs.length≤_;exact hbig))
  have I6:=(ky (o:=seqObj "tuple" vs.toArray 0) (t':=s3.toks) I5 (fun v z=>by cases z)).gH
  refine wpAny_bind (wpAny_newList ?_ (Nat.zero_le _))
  have ok:=rO I6
  have I7:=ky (o:=seqObj "list" #[] 0) (t':=s3.toks) I6 (fun v z=>by cases z)
  refine wpAny_holding ?_
  have okp:Own X pins _:=⟨ok.ge,fun q hq=>ok.ne q (by
   rcases List.mem_append.mp hq with z|z
   · exact List.mem_append_left _ z
   · exact List.mem_append_right _ (List.mem_append_left _ z))⟩
  refine Dv (BB I7 r) oD okp (fun z=>ok.ne (s3.heap.objs.size,_) (List.mem_append_right _ (List.mem_append_right _ (List.mem_singleton.mpr rfl))) z.symm) hl h64 hup turn fun s' out c J' so=>⟨_,rfl,?_⟩
  exact wpAny_pure ⟨_,rfl,h _ s' out c oD J' so⟩
end
end L3
namespace L3
open PySem PySem.Spec L2
open PyProof.Rows hiding St
structure mj(X:Cx)(scope:Scope)(Nc:List Str)(fr:List (Option Nat))(p:Str):Prop where
 sc:ba X scope Nc fr
 Bq:∀x∈scope.names,x.2≠ .cell
 co:scope.isCoroutine=false
 gen:scope.isGenerator=false
 p0:Nc[0]?=some p
 f0:fr[0]?=some none
 loc:scope.names.lookup p=some .local
noncomputable abbrev As(X:Cx)(scope:Scope)(qual:Str)(f c:Addr)(s:Shared):Env:=PySem.W.envX qual scope s.heap.objs.size f (.ref c) (df X.env.cells scope.names [])
noncomputable def BK(X:Cx)(scope:Scope)(Nc:List Str)(qual:Str)(f c:Addr)(s:Shared)(H:Hp):Cx:=
 {X with A:=X.A.in1.in1.deeper (As X scope qual f c s),N:=Nc,s₀:=s,H₀:=H,env:=As X scope qual f c s,outer:=X.stack,stack:=As X scope qual f c s::X.stack,ex:=[],fn:=fun _=>false,calm:=true,pn:=[],xe:=fun _ _=>False}
section
variable {X:Cx}{scope:Scope}{Nc:List Str}{fr:List (Option Nat)}{p qual:Str}{f c:Addr}{pins:List (Addr×Obj)}{σ:L2.St}{H:Hp}{s:Shared}
theorem Ki(S:mj X scope Nc fr p)(I:Inv X pins σ H s)(hc:X.calm=true):(BK X scope Nc qual f c s H).Ok where
 mod:=I.ok.mod
 kind:=S.sc.kind
 glob:=rfl
 blt:=rfl
 above:=Nat.le_refl _
 inj:=fun x y a h1 h2=>I.ok.inj x y a (cR _ [] (fun _ _ e=>by cases e) x a h1) (cR _ [] (fun _ _ e=>by cases e) y a h2)
 has:=fun x hx=>by
  have hx':scope.names.lookup x=some .cell∨scope.names.lookup x=some .free:=hx
  rcases hx' with hx|hx
  · exact absurd rfl (S.Bq _ (PySem.mem_of_lookup hx))
  · exact ix scope.names [] (I.ok.has x (S.sc.free _ (PySem.mem_of_lookup hx) rfl)) (.inl (PySem.mem_of_lookup hx))
 xw:=fun x a hf _=>by cases hf
 hd:=fun _=>I.ok.hd hc
 frames:=Around.frames_deeper (by show X.A.frames=_;exact I.ok.frames)
 zU:= .inr ⟨rfl,rfl⟩
 BL:=fun b hb=>by cases hb
 bs:=I.bs
 qb:=Nat.le_trans I.ok.qb I.sz
 sY:=fun b o e hb=>by cases hb
 tx:=fun b hb=>by cases hb
 jV:=I.stack
 ue:=I.ve
 gt:=I.ok.gt
theorem GX{h':Heap}{t':Nat}{v:V}{u:Value}(S:mj X scope Nc fr p)(I:Inv X pins σ H s)(hc:X.calm=true)(r:RelV v u)(hn:h'.Ns s.heap.objs.size (fun x=>[(p,u)].reverse.lookup x))
 (k:∀b o,s.heap.get? b=some o→h'.get? b=some o):Inv (BK X scope Nc qual f c s H) [] ((σC fr σ).set 0 (some v)) H {s with heap:=h',toks:=t'} where
 ok:=Ki S I hc
 os:=rfl
 bare:=I.bare
 base:=Un.kept k
 loc:=⟨_,hn,fun i x w h1 h2 h3=>by
  by_cases hi:i=0
  · subst hi
    have hp:=S.p0
    have e:p=x:=Option.some.inj (hp.symm.trans h1)
    subst e
    have hl:0<(σC fr σ).length:=by
     have:=(List.getElem?_eq_some_iff.mp h2).1
     rw[List.length_set]at this;exact this
    rw[List.getElem?_set_self hl]at h2
    cases h2
    exact⟨u,r,.inl ⟨S.loc,by simp⟩⟩
  · rw[List.getElem?_set_ne (Ne.symm hi)]at h2
    obtain⟨j,q1,q2⟩:=zu h2
    obtain⟨n1,n2,n3⟩:=S.sc.map i j x h1 q1
    obtain⟨m,hm,hl⟩:=I.loc
    obtain⟨u',r',lk⟩:=hl j x w n1 q2 (n3.elim (fun z=> .inr (.inl z)) fun z=> .inr (.inr z))
    refine⟨u',r',?_⟩
    rcases lk with⟨z,_⟩|⟨_,a,e,ic⟩
    · rcases n3 with y|y<;>(rw[y]at z;cases z)
    · obtain⟨a',e'⟩:=ix scope.names [] ⟨a,e⟩ (.inl (PySem.mem_of_lookup n2))
      have e2:=cR _ [] (fun _ _ e=>by cases e) x a' e'
      rw[e]at e2;cases e2
      exact .inr ⟨.inr n2,a,e',ic.keeps k⟩⟩
 cell:=fun x a h=>by
  obtain⟨v,q⟩:=I.cell x a (cR _ [] (fun _ _ e=>by cases e) x a h)
  exact⟨v,q.keeps k⟩
 free:=I.aI.fresh (Nat.le_refl _)
 h7:=fun x a h=>I.h7 x a (cR _ [] (fun _ _ e=>by cases e) x a h)
 pin:=fun q hq=>by cases hq
 aI:=I.aI.kept k
 len:=by rw[List.length_set];unfold σC;rw[List.length_map];exact S.sc.len
theorem Ef{R:Hp→Prop}{params:Arguments}{body:Expr}{tb:TE}{own:List (Addr×Obj)}{k:Int}{v:V}{u pm ctv:Value}(S:mj X scope Nc fr p)(hc:X.calm=true)(hr:X.A.depth<recursionLimit)
 (hb:∀(s:Shared) (H:Hp),PE (BK X scope Nc qual f c s H) body tb)
 (hbind:∀(cl:List (Str×Addr)) (pm cd ct v:Value),bindArgs (PySem.W.kla_fn "<lambda>" qual params body scope cl pm cd ct) ⟨[v],[]⟩=pure [(p,v)])
 (r:RelV v u) (hf:(f,PySem.W.kla_obj "<lambda>" qual params body scope (df X.env.cells scope.names []) pm c ctv)∈pins)
 (hcr:∀(H:Hp) (s:Shared),Inv X (pins++own) σ H s→R H→s.heap.CodeRec (.ref c) qual)
 (hq:∀H,R H→tb ((σC fr σ).set 0 (some v)) H fun x H'=>x= .int k∧R H') (J:lP X pins σ R own s):
 wpAny (model X.prog X.w) X.A.in1.in1 (call (.ref f) [u]) (fun u' s'=>(∃t,u'= .int k t)∧lP X pins σ R own s') (fun _ _=>False) s:=by
 obtain⟨H,I,rH⟩:=J
 have ho:=(I.pin _ (List.mem_append_right _ (List.mem_append_left _ hf))).1
 refine wpAny_call (PySem.W.kla_callFunE (fd:=PySem.W.kla_fn "<lambda>" qual params body scope (df X.env.cells scope.names []) pm (.ref c) ctv) (by show X.A.depth<_;exact hr) ho rfl S.co S.gen rfl (hcr H s I rH) ?_)
 rw[hbind]
 refine wpAny_pure (wpAny_newFunctionEnv S.Bq (fun y hy=>by
  have e:y=(p,u):=by simpa using hy
  rw[e];exact S.loc) (fun h₁ hns hsb=>?_) S.sc.kind)
 have hk:∀b o,s.heap.get? b=some o→h₁.get? b=some o:=fun b o e=>hsb.extBut b o (Nat.ne_of_lt (Heap.lt_size e)) (Heap.get?_push_of_some _ e)
 refine⟨I.nolimit.keeps hk,?_⟩
 show codeAny _ X.A.in1.in1 (.expr body (As X scope qual f c s)) _ _
 refine PySem.W.kla_codeExpr (wpAny_mono (hb s H [] _ _ H _ (GX S I hc r hns hk) (hq H rH)) (fun w s' he=>?_) fun e s' z=>False.elim z)
 obtain⟨x,H',I',rx,rfl,rH'⟩:=he
 exact⟨rx,H',I.AW (s':=s') (ch:=[]) I'.os I'.base I'.aI I'.bare (fun b z=>absurd z (by simp)),rH'⟩
theorem set_same{α:Type}:∀ {l:List α} {n:Nat} {x:α},l[n]?=some x→l.set n x=l
 | [],n,x,h=>by simp at h
 |a::l,0,x,h=>by simp at h;subst h;rfl
 |a::l,n+1,x,h=>by
  rw[List.set_cons_succ,set_same (n:=n) (by simpa using h)]
theorem DR{params:Arguments}{body:Expr}{lpos:Pos}{c0 T:Addr}{α:List (Option Addr)}{G F:Hp}{st:ag}{n0:Nat}{b:Bool}{E:Value→Shared→Prop}{Q:Value→Shared→Prop}(S:mj X scope Nc fr p)(hcode:X.env.code= .ref c0)(hC:PySem.W.codeHdIn X.K c0 T=true)
 (hdef:defaultsOf params X.env=([],[])) (hql:X.env.qual++"<lambda>"=qual) (I:Inv X pins σ H s) (Sp:bZ G F H) (SR:aU α st G) (hn0:st[n0]?=some (.tab T lpos qual b))
 (h:∀(f c:Addr) (ctv pm:Value) (G2 H2:Hp) (s2:Shared),Inv X (pins++[(f,PySem.W.kla_obj "<lambda>" qual params body scope (df X.env.cells scope.names []) pm c ctv)]) σ H2 s2→Step α G α G2→bZ G2 F H2→aU α (st.set n0 (.tab T lpos qual true)) G2→
   (some c∉α∧∃o vs t,G2 c=some (.fW o (.own c))∧o.data= .fields vs∧vs[1]?=some (.str qual t))→Q (.ref f) s2):
 wpAny (model X.prog X.w) X.A (eval (.Lambda params body scope lpos) X.env) Q E s:=by
 refine PySem.W.kla_eval hdef ?_
 rw[hql]
 rcases SR.at' n0 _ hn0 with⟨z,_⟩|⟨a,ha,rfl,ps,gP,tr,cs⟩
 · cases z
 have hP:=I.aI a _ (Sp.get gP)
 have hP:s.heap.get? a=some (PySem.W.tabObj ps):=hP
 have hg:s.heap.Ns mainGlobals X.mg:=I.mod.glob.keeps I.bk
 obtain⟨bm,ob,b1,b2,b3,b4,b5,b6⟩:=I.mod.bmain
 have b3':=I.bk _ _ b3
 have hgP:mainGlobals≠a:=fun q=>by
  obtain⟨o,es,ep,e,hd,_⟩:=hg
  rw[q,hP]at e;cases e;cases hd
 have n1:bm≠mainGlobals:=fun q=>by
  obtain⟨o,es,ep,e,hd,_⟩:=hg
  rw[q,e]at b3';cases b3';rw[hd]at b6;cases b6
 have n2:bm≠a:=fun q=>by rw[q,hP]at b3';cases b3';cases b4
 have hB:s.heap.BuiltinsAt X.mg a:=⟨bm,ob,b1,b2,n1,n2,b3',b4,b5,b6⟩
 have hcl:closureFor scope X.env=pure (df X.env.cells scope.names []):=lO fun x hx hk=>I.ok.has x.1 (S.sc.free x hx hk)
 have C:PySem.W.CodeHd s.heap c0 a:=PySem.W.codeHd_of_K I.gw hC
 rcases cs with⟨rfl,hnf⟩|⟨rfl,c,o,vs,t,q1,q2,q3,q4,q5⟩
 · refine PySem.W.kla_makeFunction hcl I.ok.glob hg hcode C hP tr hnf hgP hB fun c' ctv h' tk hx hge hlt hrec htb=>?_
   obtain⟨c2,oc,vs,t,e2,hoc,hd,hv⟩:=hrec
   cases e2
   have hHc:H c'=none:=I.aI.fresh hge
   have hGc:G c'=none:=(Sp.none hHc).1
   have hHa:H a=some (.js ps):=Sp.get gP
   have hac:a≠c':=dm hHa hHc
   let ps':=ps++ #[rawInt lpos.line,rawInt lpos.col,.ref c']
   have nb:∀ {b:Addr},H b=none→b≠a:=fun e z=>by rw[z,hHa]at e;cases e
   have I1:Inv X pins σ (upd (upd H c' (.fW oc (.own c'))) a (.js ps')) {s with heap:=h',gens:=s.gens,drawn:=s.drawn,toks:=tk}:=by
    have old:∀ {b:Addr} {u:HO},H b=some u→b≠a→upd (upd H c' (.fW oc (.own c'))) a (.js ps') b=some u:=fun e n=>by rw[aC n,aC (dm e hHc)];exact e
    refine I.step (ch:=[]) (fun _ z=>nomatch z) (fun b o _ _ _ e n=>hx b o (nb n) e) (fun b o _ _ _ e n=>⟨o.slots,hx b o (nb n) e⟩) (fun b o _ e n=>?_) (fun b o _ e=>?_) (fun b xs e=>?_) (fun b o u e=>?_) (fun b qs e=>?_) (fun m hm=>?_) (fun b u e=>?_) I.bare
    · rw[aC (nb n),aC (Nat.ne_of_lt (Nat.lt_of_lt_of_le (Heap.lt_size e) hge))];exact n
    · by_cases hb:b=a
      · exact⟨_,by rw[hb];exact htb⟩
      · exact⟨o,hx b o hb e⟩
    · exact old e fun z=>by rw[z,hHa]at e;cases e
    · exact old e fun z=>by rw[z,hHa]at e;cases e
    · by_cases hb:b=a
      · subst hb
        rw[hHa]at e;cases e
        exact⟨_,aZ⟩
      · exact⟨#[],by rw[old e hb];simp⟩
    · obtain⟨o,es,ep,ho,r⟩:=hm
      exact⟨o,es,ep,hx _ o (nb I.free) ho,r⟩
    · by_cases hb:b=a
      · subst hb;rw[aZ]at e;cases e;exact htb
      · rw[aC hb]at e
        by_cases hbc:b=c'
        · subst hbc;rw[aZ]at e;cases e;exact⟨hoc,_,hoc⟩
        · rw[aC hbc]at e
          refine(I.aI b u e).oj (fun d w hd q=>hx d w ?_ q) (fun d q=>old q fun z=>by rw[z,hHa]at q;cases q) fun d xs q=>old q fun z=>by rw[z,hHa]at q;cases q
          rcases hd with rfl|hd
          · exact hb
          · intro z;rw[z,hHa]at hd;cases hd
   have I2:=ky (o:=PySem.W.kla_obj "<lambda>" qual params body scope (df X.env.cells scope.names []) ((X.mg "__name__").getD .none) c' ctv) (t':=tk) I1 (fun v z=>by cases z)
   have gP':upd G c' (.fW oc (.own c')) a=some (.js ps):=by rw[aC hac];exact gP
   refine h _ c' ctv _ (upd (upd G c' (.fW oc (.own c'))) a (.js ps')) _ _ I2 ((Step.laid hGc).trans (Step.write (List.mem_of_getElem? ha))) ((Sp.laid hHc).write gP') ((SR.laid hGc).write ha ⟨rfl,ps',aZ,?_,.inr ⟨rfl,c',oc,vs,t,?_,SR.jI hGc,?_,hd,hv⟩⟩) ⟨SR.jI hGc,oc,vs,t,?_,hd,hv⟩
   · show TriplesOk (ps++ #[rawInt lpos.line,rawInt lpos.col,.ref c']).toList
     rw[Array.toList_append]
     exact TriplesOk_snoc _ _ _ _ tr
   · show codeAmong lpos (ps++ #[rawInt lpos.line,rawInt lpos.col,.ref c']).toList=_
     rw[Array.toList_append]
     exact codeAmong_snoc _ tr hnf
   · rw[aC hac.symm,aZ]
   · rw[aC hac.symm,aZ]
 · refine PySem.W.kla_makeFunctionHit hcl I.ok.glob hg hcode C hP tr q1 hB fun ctv h' tk hk hsz=>?_
   have I1:=I.kept (t':=tk) hk
   have I2:=ky (o:=PySem.W.kla_obj "<lambda>" qual params body scope (df X.env.cells scope.names []) ((X.mg "__name__").getD .none) c ctv) (t':=tk) I1 (fun v z=>by cases z)
   refine h _ c ctv _ G H _ I2 Step.refl Sp (by rw[set_same hn0];exact SR) ⟨q2,o,vs,t,q3,q4,q5⟩
end
noncomputable def slt(p q:Int×Int):Prop:=p.1<q.1∨(p.1=q.1∧p.2<q.2)
noncomputable def yd(n0:Nat)(T:Addr)(lpos:Pos)(qual:Str)(fr:List (Option Nat))(tb te:DE):DE:=fun σ st K=>te σ st fun d st1=>∃(ns ks:List Int) (b:Bool),d= .lst (ns.map .int)∧ns.length<64∧ns.Pairwise (· < ·)∧ks.length=ns.length∧
 st1[n0]?=some (.tab T lpos qual b)∧(∀(i:Nat) (n k:Int),ns[i]?=some n→ks[i]?=some k→tb ((f9 fr σ).set 0 (some (.int n))) (st1.set n0 (.tab T lpos qual true)) fun v st2=>v= .int k∧st2=st1.set n0 (.tab T lpos qual true))∧
 ∀os:List (Int×Int),os.Perm (ks.zip ns)→os.Pairwise slt→K (.lst (os.map fun p=> .int p.2)) (st1.set n0 (.tab T lpos qual true))
theorem xV{α:List (Option Addr)}{H:Hp}:∀ {ns:List Int} {vs:List V},aJ α H (ns.map D.int) vs→vs=ns.map V.int
 | [],vs,h=>by unfold aJ at h;exact h
 |n::ns,vs,h=>by
  unfold aJ at h
  obtain⟨v,r,rfl,h1,h2⟩:=h
  unfold Rep at h1
  rw[h1,xV h2];rfl
theorem xH{α:List (Option Addr)}{H:Hp}:∀(ns:List Int),aJ α H (ns.map D.int) (ns.map V.int)
 | []=>by unfold aJ;rfl
 |n::ns=>by unfold aJ;exact⟨_,_,rfl,by unfold Rep;rfl,xH ns⟩
theorem yF:∀ {ns:List Int} {us:List Value},Vals (ns.map V.int) us→IntsAre us ns
 | [],_,.nil=> .nil
 |n::ns,_,.cons ⟨t,rfl⟩ h=> .cons n t (yF h)
section
variable {X:Cx}{scope:Scope}{Nc:List Str}{fr:List (Option Nat)}{p x qual:Str}{params:Arguments}{e body:Expr}{te tb:DE}{lpos kpos pos ppos:Pos}{c0 T:Addr}{n0:Nat}
theorem Gq(S:mj X scope Nc fr p)(hc:X.calm=true)(hr:cT 2 X.A)(hcode:X.env.code= .ref c0)(hC:PySem.W.codeHdIn X.K c0 T=true)(hdef:defaultsOf params X.env=([],[]))(hql:X.env.qual++"<lambda>"=qual)
 (hbind:∀(cl:List (Str×Addr)) (pm cd ct v:Value),bindArgs (PySem.W.kla_fn "<lambda>" qual params body scope cl pm cd ct) ⟨[v],[]⟩=pure [(p,v)])
 (hb:∀(f c:Addr) (s:Shared) (H:Hp),PE (BK X scope Nc qual f c s H) body (LE tb)) (ha:PA X [e] (LA (af te ak)))
 (hg:Gl X "sorted") (hm:X.mg "sorted"=none) (hv:bootBuiltins "sorted"=some (.builtin "sorted"))
 (he:backTo pos (starEach [e] X.env)=(false,eval e X.env)::backTo pos (starEach [] X.env):=by rfl) (hpl:(backTo pos (starEach [e] X.env)).any (·.1)=false:=by rfl):
 PE X (.Call (.Name "sorted" ppos) [e] [⟨some "key",.Lambda params body scope lpos,kpos⟩] pos) (LE (yd n0 T lpos qual fr tb te)):=by
 intro pins s σ H Q I h
 obtain⟨α,σd,st,K,G,F,Sp,RS,SR,t,k⟩:=h
 refine wpAny_Call_Name_kw (ka I hg hm hv ?_)
 refine callWith_kw ?_ he hpl
 let K1:DK:=fun d st1=>∃(ns ks:List Int) (b:Bool),d= .lst (ns.map .int)∧ns.length<64∧ns.Pairwise (· < ·)∧ks.length=ns.length∧
  st1[n0]?=some (.tab T lpos qual b)∧(∀(i:Nat) (n k:Int),ns[i]?=some n→ks[i]?=some k→tb ((f9 fr σd).set 0 (some (.int n))) (st1.set n0 (.tab T lpos qual true)) fun v st2=>v= .int k∧st2=st1.set n0 (.tab T lpos qual true))∧
  ∀os:List (Int×Int),os.Perm (ks.zip ns)→os.Pairwise slt→K (.lst (os.map fun p=> .int p.2)) (st1.set n0 (.tab T lpos qual true))
 refine bU (ha pos pins s σ H (fun vs H1=>∃d v st1 α1 G1,vs=[v]∧K1 d st1∧Step α G α1 G1∧bZ G1 F H1∧aU α1 st1 G1∧Rep α1 G1 d v) I
  ⟨α,σd,st,fun ds st1=>match ds with| [d]=>K1 d st1|_=>False,G,F,Sp,RS,SR,t,fun ds st1 q α1 G1 H1 vs s1 P1 S1 r1=>?_⟩) fun us s1 ⟨vs,H1,I1,rv,d,v,st1,α1,G1,hvs,kd,s1',P1,S1,r1⟩=>?_
 · match ds,q,r1 with
   | [d],q,r1=>
     unfold aJ at r1
     obtain⟨v,r,rfl,h1,h2⟩:=r1
     unfold aJ at h2
     subst h2
     exact⟨d,v,st1,α1,G1,rfl,q,s1,P1,S1,h1⟩
 subst hvs
 obtain⟨ns,ks,b,rfl,h64,hup,hlen,hn0,hkey,hK⟩:=kd
 show wpAny _ _ (evalAll ((do let v ←eval (.Lambda params body scope lpos) X.env;standAt pos;pure v)::[])) _ _ s1
 refine wpAny_evalAll_cons (wpAny_bind (DR S hcode hC hdef hql I1 P1 S1 hn0 fun f c ctv pm G2 H2 s2 I2 st2 P2 S2 ⟨hc1,o,vs,tq,hc2,hc3,hc4⟩=>wpAny_bind (wpAny_standAt (wpAny_pure (wpAny_evalAll_nil ?_)))))
 have r2:=r1.step st2
 unfold Rep at r2
 obtain⟨l,xs,rfl,hl1,hl2,hl3⟩:=r2
 have exs:=xV hl3
 subst exs
 cases rv with
 |cons ru rn=>
  cases rn
  cases ru
  have hrd:Rd H2 l (.lst (ns.map V.int)):=by
   rcases hl2 with z|⟨w,z⟩
   · exact .inl (P2.get z)
   · exact .inr ⟨w,P2.get z⟩
  obtain⟨_,aq,nn,vv,hobj⟩:=hrd.ok I2.aI
  have hints:=yF vv
  have hlen2:=hints.length
  have key:∀(H':Hp),(∃α' G',Step α1 G2 α' G'∧bZ G' F H'∧aU α' (st1.set n0 (.tab T lpos qual true)) G')→H' c=some (.fW o (.own c)):=fun H' ⟨α',G',q1,q2,q3⟩=>q2.get (q1.ext c _ hc1 hc2)
  show wpAny _ _ (call (.builtin "sorted") [.ref l] [(Str.ofString "key",.ref f)]) _ _ _
  refine Ba (X:=X) (pins:=pins++[(f,PySem.W.kla_obj "<lambda>" qual params body scope (df X.env.cells scope.names []) pm c ctv)]) (R:=fun H'=>∃α' G',Step α1 G2 α' G'∧bZ G' F H'∧aU α' (st1.set n0 (.tab T lpos qual true)) G') (kz:=ks) (vs:=aq)
   I2 ⟨α1,G2,Step.refl,P2,S2⟩ ⟨_,hobj,rfl,nn,rfl⟩ (by omega) (by omega) ?_ (fun i u kk hu hk own s' J=>?_) fun D s' out cc oD J so=>?_
  · rw[←List.pairwise_map,hints.nums];exact hup
  · have hi:i<ns.length:=by
     have:=(List.getElem?_eq_some_iff.mp hu).1
     omega
    obtain⟨tt,ht⟩:=hints.get i ns[i] (List.getElem?_eq_getElem hi)
    have ht:some u=some (Value.int ns[i] tt):=by rw[←hu];exact ht
    cases ht
    refine Ef (v:= .int ns[i]) (u:= .int ns[i] tt) S hc (by have:=hr.dp;omega) (hb f c) hbind ⟨tt,rfl⟩ (List.mem_append_right _ (List.mem_singleton.mpr rfl)) (fun H' s'' J' r'=>?_) (fun H' r'=>?_) J
    · have q:=J'.aI c _ (key H' r')
      exact⟨c,o,vs,tq,rfl,q.1,hc3,hc4⟩
    · obtain⟨α',G',q1,q2,q3⟩:=r'
      refine⟨α',(f9 fr σd).set 0 (some (.int ns[i])),_,_,G',F,q2,?_,q3,hkey i ns[i] kk (List.getElem?_eq_getElem hi) hk,fun d' st' hd α'' G'' H'' v' s'' P'' S'' r''=>?_⟩
      · exact((RS.step ((s1'.trans st2).trans q1)).comp).set 0 (by unfold Rep;rfl)
      · obtain⟨rfl,rfl⟩:=hd
        unfold Rep at r''
        exact⟨r'',α'',G'',q1.trans s'',P'',S''⟩
  · obtain⟨H',I',α',G',q1,q2,q3⟩:=J
    obtain⟨ps,hp,ho,hs⟩:=so
    have hps:∀q∈ps,∃t,q.2= .int (numOf q.2) t:=fun q hq=>by
     have h1:=hp.mem_iff.mp hq
     have h2:q.2∈aq:=(List.of_mem_zip (show(q.1,q.2)∈ks.zip aq from h1)).2
     obtain⟨n,t,e⟩:=hints.all _ h2
     exact⟨t,by rw[e];rfl⟩
    have hos:(ps.map fun q=>(q.1,numOf q.2)).Perm (ks.zip ns):=by
     have h1:=hp.map fun q:Int×Value=>(q.1,numOf q.2)
     have e:(ks.zip aq).map (fun q:Int×Value=>(q.1,numOf q.2))=ks.zip ns:=by
      rw[←hints.nums,List.zip_map_right]
      exact List.map_congr_left fun⟨a,b⟩ _=>rfl
     rw[e]at h1;exact h1
    have hpw:(ps.map fun q=>(q.1,numOf q.2)).Pairwise slt:=by rw[List.pairwise_map];exact hs
    have kk:=hK _ hos hpw
    rw[List.map_map]at kk
    have hD0:=fv I'
    have vout:Vals ((ps.map fun q=>numOf q.2).map V.int) out.toList:=by
     rw[ho]
     clear hos hpw kk hs hp ho
     induction ps with
     |nil=>exact .nil
     |cons q r ih=>
      obtain⟨t,e⟩:=hps q (List.mem_cons_self ..)
      exact .cons ⟨t,e⟩ (ih fun z hz=>hps z (List.mem_cons_of_mem _ hz))
    have hlo:(ps.map fun q=>numOf q.2).length≤sizeLine:=by
     rw[List.length_map,hp.length_eq,List.length_zip]
     exact Nat.le_trans (Nat.min_le_left _ _) (Nat.le_trans (show ks.length≤64 by omega) (by decide))
    have I3:=CP (u:= .lst ((ps.map fun q=>numOf q.2).map V.int)) I' oD.ge oD.ne ⟨by rw[List.length_map];exact hlo,out.toList,cc,vout,hD0.1⟩
    have hG:=(q2.none hD0.2.1).1
    refine⟨.ref D,_,I3.gH,rfl,k _ _ kk α' _ _ _ ((s1'.trans st2).trans (q1.trans (Step.laid hG))) (q2.laid hD0.2.1) (q3.laid hG) ?_⟩
    unfold Rep
    refine⟨D,_,rfl,q3.jI hG,.inl aZ,?_⟩
    have e:List.map ((fun p:Int×Int=>L3.D.int p.snd)∘fun q:Int×Value=>(q.fst,numOf q.snd)) ps=(ps.map fun q=>numOf q.2).map L3.D.int:=by rw[List.map_map];rfl
    rw[e]
    exact xH _
end
end L3
namespace L3
open PySem L2
open PySem.Spec hiding items?
open PyProof.Rows hiding St
noncomputable def EA(sc:Scope)(N gl:List Str):Bool:=
 N.all (fun x=>(sc.names.lookup x==some .local||sc.names.lookup x==some .cell)&&x != "__debug__"&&x != "__classdict__")&&gl.all (fun x=>sc.names.lookup x==some .globalImplicit&&x != "__debug__")
structure VS(sc:Scope)(N gl:List Str):Prop where
 ok:EA sc N gl=true
theorem VS.at_{sc:Scope}{N gl:List Str}(V:VS sc N gl){i:Nat}{x:Str}(h:N[i]?=some x):Loc sc x∧(x==("__debug__":Str))=false∧(x==("__classdict__":Str))=false:=by
 have o:=V.ok
 unfold EA at o
 have:=List.all_eq_true.mp (Bool.and_eq_true_iff.mp o).1 x (List.mem_of_getElem? h)
 simp only[Bool.and_eq_true,Bool.or_eq_true,beq_iff_eq,bne_iff_ne,ne_eq]at this
 exact⟨this.1.1,beq_false_of_ne this.1.2,beq_false_of_ne this.2⟩
theorem VS.Me{sc:Scope}{N gl:List Str}(V:VS sc N gl){i:Nat}{x:Str}(h:gl[i]?=some x):sc.names.lookup x=some .globalImplicit∧(x==("__debug__":Str))=false:=by
 have o:=V.ok
 unfold EA at o
 have:=List.all_eq_true.mp (Bool.and_eq_true_iff.mp o).2 x (List.mem_of_getElem? h)
 simp only[Bool.and_eq_true,beq_iff_eq,bne_iff_ne,ne_eq]at this
 exact⟨this.1,beq_false_of_ne this.2⟩
section
variable {X:Cx}{sc:Scope}{N gl:List Str}{x:Str}{pos:Pos}
theorem VS.nm(V:VS X.env.scope X.N gl)(i:Nat)(h:X.N[i]?=some x:=by rfl):JE X (.Name x pos) (ae i):=
 let q:=V.at_ h
 CD q.2.1 q.2.2 (q.1.elim .inl fun z=> .inr (.inl z)) h
theorem VS.l(V:VS sc N gl)(i:Nat)(h:N[i]?=some x:=by rfl):Loc sc x:=(V.at_ h).1
theorem VS.g(V:VS sc N gl)(i:Nat)(h:gl[i]?=some x:=by rfl):sc.names.lookup x=some .globalImplicit:=(V.Me h).1
theorem VS.d(V:VS sc N gl)(i:Nat)(h:gl[i]?=some x:=by rfl):(x==("__debug__":Str))=false:=(V.Me h).2
theorem c_{n:Nat}(hN:X.N[n]?=some x:=by rfl)(hd:((x==("__debug__":Str))||(x==("__classdict__":Str)))=false:=by decide+kernel)
 (hv:xU X.env.scope x:=by first|exact Or.inl rfl|exact Or.inr (Or.inl rfl)|exact Or.inr (Or.inr rfl)):JE X (.Name x pos) (ae n):=
 CD (Bool.or_eq_false_iff.mp hd).1 (Bool.or_eq_false_iff.mp hd).2 hv hN
@[irreducible] noncomputable def i9:dN:=vN (fun _ j=>j≠0) fun i j=> .int (i.fdiv j)
theorem mx{k:Nat}(hr:cT k X.A)(hs:X.stack=X.env::X.outer)(hgen:X.env.scope.isGenerator=false)(hco:X.env.scope.isCoroutine=false):cm X (binaryOp .FloorDiv) (LR i9):=by
 unfold i9
 refine mX (g':=fun i j=> .int (i.fdiv j)) (fun _ _ _ _=>by unfold Rep;rfl) ?_
 intro pins s σ H x y v u Q I rx ry h
 obtain⟨i,j,rfl,rfl,hc,q⟩:=h
 obtain⟨t,rfl⟩:=rx
 obtain⟨t',rfl⟩:=ry
 refine floordiv_int hc ⟨.int (i.fdiv j),H,I.tok _,⟨_,rfl⟩,q⟩ (.inr (PySem.PylongRoom.of I.nolimit ?_ ?_))
 · have:=hr.dp
   show X.A.depth+100<_
   omega
 · exact PySem.SeerAt.of (env:=X.env) (l:=X.outer) (I.mod.seer.keeps I.bk) I.ok.gt (by rw[I.ok.frames,hs]) hgen hco I.ok.blt I.ok.glob
theorem ir{st:ag}{K:DK}{i j:Int}(h0:j≠0)(k:K (.int (i.fdiv j)) st):i9 (.int i) (.int j) st K:=by unfold i9;exact⟨h0,k⟩
theorem mj.look{scope:Scope}{Nc:List Str}{fr:List (Option Nat)}{p:Str}(S:ba X scope Nc fr)(h:(scope.names.all (fun x=>x.2 != .cell)&&(!scope.isCoroutine&& !scope.isGenerator)&&(scope.names.lookup p==some .local))=true:=by decide+kernel)
 (p0:Nc[0]?=some p:=by rfl) (f0:fr[0]?=some none:=by rfl):mj X scope Nc fr p:=by
 simp only[Bool.and_eq_true,Bool.not_eq_true',beq_iff_eq]at h
 exact⟨S,fun x hx=>by simpa using List.all_eq_true.mp h.1.1 x hx,h.1.2.1,h.1.2.2,p0,f0,h.2⟩
theorem F9{scope:Scope}{Nc:List Str}{fr:List (Option Nat)}{p qual:Str}{params:Arguments}{e body:Expr}{te tb:DE}{lpos kpos pos ppos:Pos}{c0 T:Addr}{n0 k:Nat}(S:mj X scope Nc fr p)(hc:X.calm=true)(hr:cT k X.A)(hcode:X.env.code= .ref c0)(hC:PySem.W.codeHdIn X.K c0 T=true)
 (hb:∀(f c:Addr) (s:Shared) (H:Hp),JE (BK X scope Nc qual f c s H) body tb) (he:JE X e te) (hg:X.env.kindOf "sorted"=some .globalImplicit) (hm:X.mg "sorted"=none)
 (hdef:defaultsOf params X.env=([],[]):=by rfl) (hql:X.env.qual++"<lambda>"=qual:=by rfl)
 (hbind:∀(cl:List (Str×Addr)) (pm cd ct v:Value),bindArgs (PySem.W.kla_fn "<lambda>" qual params body scope cl pm cd ct) ⟨[v],[]⟩=pure [(p,v)]:=by(intros;rfl)) (hk:2≤k:=by decide)
 (he1:starEach [e] X.env=(false,eval e X.env)::starEach [] X.env:=by rfl):
 JE X (.Call (.Name "sorted" ppos) [e] [⟨some "key",.Lambda params body scope lpos,kpos⟩] pos) (yd n0 T lpos qual fr tb te):=by
 unfold JE at he hb⊢
 refine Gq S hc (hr.mono hk) hcode hC hdef hql hbind hb (vf he xy he1) hg hm rfl ?_ ?_
 · rw[he1];rfl
 · rw[he1];rfl
end
structure Hy(K:PySem.W.Frag)(x qual:Str)(st:Stmt)(f:Addr)(fd:FuncData)(c:Addr):Prop where
 ex:∃(oc:Value) (od:Option Addr) (kV doc pm:Value) (an:Option Addr) (ct:Value) (osl:Array (Option Value)),
  fd=PySem.W.fnOf x qual (jC st) (gf st) (ai st) .none kV doc pm an (.ref c) ct∧K.lookup f=some ⟨oc,od,.func fd,osl⟩∧PySem.W.codeIn K (.ref c) qual=true
theorem Hv{P:Program}{w:World}{K:PySem.W.Frag}{mg:Str→Option Value}{base:Heap}{x qual:Str}{st:Stmt}{f c:Addr}{fd:FuncData}{N ps:List Str}{k:Nat}{sp:cD}{t:DS}(F:Hy K x qual st f fd c)(S:aS N ps (ai st))
 (hbody:∀(A:Around) (outer:List Env) (s:Shared) (H:Hp) (E:XK),cT k (A.deeper (envOfC qual (ai st) s.heap.objs.size f (.ref c)))→JB (pK cE P w K mg base N qual (ai st) f (.ref c) A outer s H E).uB (gf st) t)
 (hsp:∀ds st K,sp ds st K→ds.length=ps.length∧t {nx:=fun _ st'=>K .aG st',rt:=K} (a7 N ds) st):bo P w K mg base cE (k+1) f fd ps (cJ sp):=by
 obtain⟨oc,od,kV,doc,pm,an,ct,osl,rfl,lk,hcd⟩:=F.ex
 unfold JB at hbody
 refine E5 lk hcd S (fun vs H Q E h=>?_) fun A outer s H vs Q E hr h=>?_
 · obtain⟨α,ds,st,K,G,F,P,R,S,q,k⟩:=h
   rw[←R.length];exact(hsp ds st K q).1
 · obtain⟨α,ds,st,K,G,F',P,R,SR,q,k⟩:=h
   refine⟨_,(hbody A outer s H E hr).uB,α,a7 N ds,st,_,G,F',P,dX.start R,SR,(hsp ds st K q).2,?_,k,?_,?_⟩
   · intro σd' st' kk α' G' H' σ' s' P' R' S'
     exact k .aG st' kk α' G' H' .aG s' P' S' (by unfold Rep;rfl)
   · intro σd' st' kk
     exact kk.elim
   · intro σd' st' kk
     exact kk.elim
noncomputable def BU(tl:List (Addr×Pos×Str)):cD:=fun ds st K=>∃ns:List Int,ds=[.lst (ns.map .int)]∧ns.length≤63∧st=tl.map (fun q=> .tab q.1 q.2.1 q.2.2 false)∧∀st',K (.bl true) st'
noncomputable def Bg(K:PySem.W.Frag)(ts:List (Addr×Addr)):Sp:=fun vs H Q _=>∃(a:Addr) (ns:List Int),vs=[.ref a]∧Entry K ts a ns H∧ns.length≤63∧∀H',Q (.bl true) H'
theorem CI{K:PySem.W.Frag}{ts:List (Addr×Addr)}{tl:List (Addr×Pos×Str)}(nl:Cn K=true)(hts:ts.map (·.2)=tl.map (·.1))(nd:(tl.map (·.1)).Nodup){vs:List V}{H:Hp}{Q:VK}{E:XK}(h:Bg K ts vs H Q E):cJ (BU tl) vs H Q E:=by
 obtain⟨a,ns,rfl,hE,hl,q⟩:=h
 have tabs:∀q∈tl,H q.1=some (.js #[])∧q.1≠a:=fun q hq=>by
  have h1:q.1∈ts.map (·.2):=by rw[hts];exact List.mem_map_of_mem hq
  obtain⟨t,ht,e⟩:=List.mem_map.mp h1
  rw[←e];exact hE.tab t ht
 have at_:∀(i:Nat) (x:Addr),(tl.map fun q=>some q.1)[i]?=some (some x)→∃q,tl[i]?=some q∧q.1=x:=fun i x e=>by
  rw[List.getElem?_map]at e
  cases z:tl[i]? with
  |none=>rw[z]at e;cases e
  |some w=>rw[z]at e;simp at e;exact⟨w,rfl,e⟩
 have nota:some a∉tl.map fun q=>some q.1:=fun z=>by
  obtain⟨w,hw,e⟩:=List.mem_map.mp z
  exact(tabs w hw).2 (Option.some.inj e)
 rcases hE.lst with hS|⟨o,aq,n,e,hc,_⟩
 · refine⟨tl.map fun q=>some q.1,[.lst (ns.map .int)],tl.map (fun q=> .tab q.1 q.2.1 q.2.2 false),fun d _=>d= .bl true,H,fun _=>none,⟨fun b=>by cases H b<;>rfl,fun _ _ _=>rfl⟩,?_,⟨by simp,fun i j x e1 e2=>?_,fun n c e=>?_⟩,⟨ns,rfl,hl,rfl,fun _=>rfl⟩,?_⟩
   · unfold aJ
     refine⟨.ref a,[],rfl,?_,by unfold aJ;rfl⟩
     unfold Rep
     exact⟨a,ns.map V.int,rfl,nota,hS,vA ns⟩
   · obtain⟨p,hp,e3⟩:=at_ i x e1
     obtain⟨r,hr,e4⟩:=at_ j x e2
     have k1:(tl.map (·.1))[i]?=some x:=by rw[List.getElem?_map,hp,←e3];rfl
     have k2:(tl.map (·.1))[j]?=some x:=by rw[List.getElem?_map,hr,←e4];rfl
     have hi:=(List.getElem?_eq_some_iff.mp k1).1
     exact(List.getElem?_inj hi nd).mp (k1.trans k2.symm)
   · rw[List.getElem?_map]at e
     cases z:tl[n]? with
     |none=>rw[z]at e;cases e
     |some w=>
      rw[z]at e
      have e':Cell.tab w.1 w.2.1 w.2.2 false=c:=Option.some.inj e
      subst e'
      refine .inr ⟨w.1,by rw[List.getElem?_map,z];rfl,rfl,#[],(tabs w (List.mem_of_getElem? z)).1,trivial,.inl ⟨rfl,rfl⟩⟩
   · rintro d st' rfl α' G' H' v _ _ _ r
     unfold Rep at r
     subst r
     exact q H'
 · exact absurd hc (vU nl e)
end L3
namespace L3
open PySem L2
open PySem.Spec hiding items?
open PyProof.Rows hiding St
section
variable {K:PySem.W.Frag}{x qual p1 p2 p3 p4 p5:Str}{st:Stmt}{f:Addr}{fd:FuncData}
noncomputable abbrev qG(x qual:Str)(st:Stmt)(kV doc pm:Value)(an:Option Addr)(cdv ct:Value):FuncData:=PySem.W.fnOf x qual (jC st) (gf st) (ai st) .none kV doc pm an cdv ct
theorem fS{α:Type}{n:Nat}{us:List α}(h:us.length=n+1):∃a r,us=a::r∧r.length=n:=by
 cases us with
 |nil=>cases h
 |cons a r=>exact⟨a,r,rfl,Nat.succ.inj h⟩
theorem rM{α:Type}{us:List α}(h:us.length=0):us=[]:=List.length_eq_zero_iff.mp h
theorem NJ(F:mZ K x qual st f fd)(h:∀kV doc pm an cdv ct a,bindArgs (qG x qual st kV doc pm an cdv ct) ⟨[a],[]⟩=pure [(p1,a)]):Binds K fd [p1] []:=
 F.binds fun kV doc pm an cdv ct us hl=>by
  obtain⟨a,r1,rfl,h1⟩:=fS hl
  cases rM h1
  exact h kV doc pm an cdv ct a
theorem Mi(F:mZ K x qual st f fd)(h:∀kV doc pm an cdv ct a b,bindArgs (qG x qual st kV doc pm an cdv ct) ⟨[a,b],[]⟩=pure [(p1,a),(p2,b)]):Binds K fd [p1,p2] []:=
 F.binds fun kV doc pm an cdv ct us hl=>by
  obtain⟨a,r1,rfl,h1⟩:=fS hl
  obtain⟨b,r2,rfl,h2⟩:=fS h1
  cases rM h2
  exact h kV doc pm an cdv ct a b
theorem Mg(F:mZ K x qual st f fd)(h:∀kV doc pm an cdv ct a b c,bindArgs (qG x qual st kV doc pm an cdv ct) ⟨[a,b,c],[]⟩=pure [(p1,a),(p2,b),(p3,c)]):Binds K fd [p1,p2,p3] []:=
 F.binds fun kV doc pm an cdv ct us hl=>by
  obtain⟨a,r1,rfl,h1⟩:=fS hl
  obtain⟨b,r2,rfl,h2⟩:=fS h1
  obtain⟨c,r3,rfl,h3⟩:=fS h2
  cases rM h3
  exact h kV doc pm an cdv ct a b c
theorem Mm(F:mZ K x qual st f fd)(h:∀kV doc pm an cdv ct a b c d,bindArgs (qG x qual st kV doc pm an cdv ct) ⟨[a,b,c,d],[]⟩=pure [(p1,a),(p2,b),(p3,c),(p4,d)]):Binds K fd [p1,p2,p3,p4] []:=
 F.binds fun kV doc pm an cdv ct us hl=>by
  obtain⟨a,r1,rfl,h1⟩:=fS hl
  obtain⟨b,r2,rfl,h2⟩:=fS h1
  obtain⟨c,r3,rfl,h3⟩:=fS h2
  obtain⟨d,r4,rfl,h4⟩:=fS h3
  cases rM h4
  exact h kV doc pm an cdv ct a b c d
end
end L3
namespace L3
open PySem L2
open PySem.Spec hiding items?
open PyProof.Rows hiding St
section
variable {X:Cx}
end
end L3
namespace L3
open PySem L2
open PySem.Spec hiding items?
open PyProof.Rows hiding St
section
variable {X:Cx}
end
end L3
namespace L3
open PySem L2
open PySem.Spec hiding items?
open PyProof.Rows hiding St
section
variable {X:Cx}
end
end L3
namespace L3
open PySem L2
open PySem.Spec hiding items?
open PyProof.Rows hiding St
section
variable {X:Cx}
end
end L3
namespace L3
open PySem L2
open PySem.Spec hiding items?
open PyProof.Rows hiding St
section
variable {X:Cx}
noncomputable def uB(X:Cx):Cx:={X with xe:=fun _ _=>False}
end
end L3
namespace L3
open PySem L2
open PySem.Spec hiding items?
open PyProof.Rows hiding St
section
variable {X:Cx}
end
variable {st:ag}{K:D→ag→Prop}{i j:Int}
end L3
namespace L3
open PySem L2
open PySem.Spec hiding items?
open PyProof.Rows hiding St
section
variable {X:Cx}{pos:Pos}
end
end L3
namespace L3
open PySem L2
structure ClsAt(K:PySem.W.Frag)(mg:Str→Option Value)(x:Str)(C:Addr):Prop where
 cl:mL K C
 mg:mg x=some (.ref C)
 Nr:PySem.W.makesIn K C=true
 kp:PySem.W.keepIn K (.ref C)=true
structure MethAt(K:PySem.W.Frag)(C:Addr)(m qual:Str)(st:Stmt)(ps:List Str)(f:Addr)(fd:FuncData):Prop where
 fn:mZ K m qual st f fd
 me:Meth K C m f
 bd:Binds K fd ps []
end L3
namespace Hd
open PySem PySem.W L2 L3
open PySem.Spec hiding items?
open PyProof.Rows hiding St
section
variable {K:Frag}{mg:Str→Option Value}{h:Heap}{x q:Str}{st:Stmt}{f c C:Addr}{pm:Value}{p1 p2 p3 p4 p5 p6:Str}
noncomputable abbrev Ed(K:Frag)(x:Str)(st:Stmt)(f:Addr)(pm:Value)(c:Addr):Prop:=(nsIn K mainGlobals x,K.lookup f,codeIn K (.ref c) x,keepIn K (.ref f))=(some (some (.ref f)),some (fq st x x pm c),true,true)
noncomputable abbrev Em(K:Frag)(C:Addr)(x q:Str)(st:Stmt)(f:Addr)(pm:Value)(c:Addr):Prop:=(findIn K (.ref C) x,isFn K (.ref f),K.lookup f,codeIn K (.ref c) q,keepIn K (.ref f))=(some (some (.ref f)),true,some (fq st x q pm c),true,true)
theorem Ed.fn(e:Ed K x st f pm c):mZ K x x st f (fd st x x pm c)∧nsIn K mainGlobals x=some (some (.ref f)):=by
 obtain⟨e1,e2,e3,e4⟩:_∧_∧_∧_:=by simpa only[Prod.mk.injEq]using e
 exact⟨Cr (st:=st) e2 e3 e4,e1⟩
theorem Em.fn(e:Em K C x q st f pm c):mZ K x q st f (fd st x q pm c)∧Meth K C x f:=by
 obtain⟨e1,e2,e3,e4,e5⟩:_∧_∧_∧_∧_:=by simpa only[Prod.mk.injEq]using e
 exact⟨Cr (st:=st) e3 e4 e5,e1,e2,e5⟩
theorem qj(X:K.In h)(G:h.Ns mainGlobals mg)(e:Ed K x st f pm c)(b:∀kV doc pm an cdv ct a,bindArgs (qG x x st kV doc pm an cdv ct) ⟨[a],[]⟩=pure [(p1,a)]):bS K mg x x st [p1] f (fd st x x pm c):=⟨e.fn.1,mg_of X G e.fn.2,NJ e.fn.1 b⟩
theorem jr(X:K.In h)(G:h.Ns mainGlobals mg)(e:Ed K x st f pm c)(b:∀kV doc pm an cdv ct a1 a2,bindArgs (qG x x st kV doc pm an cdv ct) ⟨[a1,a2],[]⟩=pure [(p1,a1),(p2,a2)]):bS K mg x x st [p1,p2] f (fd st x x pm c):=⟨e.fn.1,mg_of X G e.fn.2,Mi e.fn.1 b⟩
theorem CS(X:K.In h)(G:h.Ns mainGlobals mg)(e:Ed K x st f pm c)(b:∀kV doc pm an cdv ct a1 a2 a3,bindArgs (qG x x st kV doc pm an cdv ct) ⟨[a1,a2,a3],[]⟩=pure [(p1,a1),(p2,a2),(p3,a3)]):bS K mg x x st [p1,p2,p3] f (fd st x x pm c):=⟨e.fn.1,mg_of X G e.fn.2,Mg e.fn.1 b⟩
theorem Nu(X:K.In h)(G:h.Ns mainGlobals mg)(e:Ed K x st f pm c)(b:∀kV doc pm an cdv ct a1 a2 a3 a4,bindArgs (qG x x st kV doc pm an cdv ct) ⟨[a1,a2,a3,a4],[]⟩=pure [(p1,a1),(p2,a2),(p3,a3),(p4,a4)]):bS K mg x x st [p1,p2,p3,p4] f (fd st x x pm c):=⟨e.fn.1,mg_of X G e.fn.2,Mm e.fn.1 b⟩
theorem Mw(e:Em K C x q st f pm c)(b:∀kV doc pm an cdv ct a1 a2,bindArgs (qG x q st kV doc pm an cdv ct) ⟨[a1,a2],[]⟩=pure [(p1,a1),(p2,a2)]):MethAt K C x q st [p1,p2] f (fd st x q pm c):=⟨e.fn.1,e.fn.2,Mi e.fn.1 b⟩
theorem Fz(e:Em K C x q st f pm c)(b:∀kV doc pm an cdv ct a1 a2 a3,bindArgs (qG x q st kV doc pm an cdv ct) ⟨[a1,a2,a3],[]⟩=pure [(p1,a1),(p2,a2),(p3,a3)]):MethAt K C x q st [p1,p2,p3] f (fd st x q pm c):=⟨e.fn.1,e.fn.2,Mg e.fn.1 b⟩
theorem NH(e:Em K C x q st f pm c)(b:∀kV doc pm an cdv ct a1 a2 a3 a4,bindArgs (qG x q st kV doc pm an cdv ct) ⟨[a1,a2,a3,a4],[]⟩=pure [(p1,a1),(p2,a2),(p3,a3),(p4,a4)]):MethAt K C x q st [p1,p2,p3,p4] f (fd st x q pm c):=⟨e.fn.1,e.fn.2,Mm e.fn.1 b⟩
theorem fc(e:(K.lookup f,codeIn K (.ref c) q)=(some (fq st x q pm c),true)):Hy K x q st f (fd st x q pm c) c:=by
 obtain⟨e1,e2⟩:_∧_:=by simpa only[Prod.mk.injEq]using e
 exact⟨_,_,_,_,_,_,_,_,rfl,e1,e2⟩
theorem na{a:Str}(e:findIn K (.ref C) a=some none):fK K C a:=e
end
end Hd
namespace L3
open PySem L2
open PySem.Spec hiding items?
open PyProof.Rows hiding St
section
variable {X:Cx}{pos:Pos}
end
end L3
namespace Mx
noncomputable def S:Nat→(Nat→Int)→Int
 |0,_=>0
 |n+1,f=>S n f+f n
theorem aP{n:Nat}{f g:Nat→Int}(h:∀i,i<n→f i=g i):S n f=S n g:=by
 induction n with
 |zero=>rfl
 |succ n ih=>unfold S;rw[ih fun i hi=>h i (by omega),h n (by omega)]
theorem oS{n:Nat}{f:Nat→Int}(h:∀i,i<n→f i=0):S n f=0:=by
 induction n with
 |zero=>rfl
 |succ n ih=>unfold S;rw[ih fun i hi=>h i (by omega),h n (by omega)];rfl
theorem jd(n:Nat)(f g:Nat→Int):S n (fun i=>f i+g i)=S n f+S n g:=by
 induction n with
 |zero=>rfl
 |succ n ih=>unfold S;rw[ih];dsimp only;omega
theorem fQ(n:Nat)(c:Int)(f:Nat→Int):S n (fun i=>c*f i)=c*S n f:=by
 induction n with
 |zero=>unfold S;rw[Int.mul_zero]
 |succ n ih=>unfold S;rw[ih,Int.mul_add]
theorem Bp(n:Nat)(c:Int)(f:Nat→Int):S n (fun i=>f i*c)=S n f*c:=by
 induction n with
 |zero=>unfold S;rw[Int.zero_mul]
 |succ n ih=>unfold S;rw[ih,Int.add_mul]
theorem AJ(n:Nat)(f:Nat→Int):S n (fun i=> -f i)= -S n f:=by
 induction n with
 |zero=>rfl
 |succ n ih=>unfold S;rw[ih];dsimp only;omega
theorem yE(m n:Nat)(f:Nat→Nat→Int):S m (fun i=>S n fun j=>f i j)=S n fun j=>S m fun i=>f i j:=by
 induction m with
 |zero=>exact(oS (n:=n) (fun i _=>rfl)).symm
 |succ m ih=>
  have:S n (fun j=>S (m+1) fun i=>f i j)=S n fun j=>(S m fun i=>f i j)+f m j:=aP fun j _=>rfl
  rw[this,jd,←ih]
  rfl
theorem pA{n:Nat}{k:Nat}(hk:k<n){f:Nat→Int}(h:∀i,i<n→i≠k→f i=0):S n f=f k:=by
 induction n with
 |zero=>omega
 |succ n ih=>
  unfold S
  by_cases e:k=n
  · subst e
    rw[oS fun i hi=>h i (by omega) (by omega),Int.zero_add]
  · rw[ih (by omega) fun i hi hn=>h i (by omega) hn,h n (by omega) (by omega),Int.add_zero]
theorem yL(n:Nat)(f:Nat→Int):S (n+1) f=f 0+S n fun i=>f (i+1):=by
 induction n with
 |zero=>unfold S S;omega
 |succ n ih=>
  have:S (n+1+1) f=S (n+1) f+f (n+1):=rfl
  rw[this,ih]
  have:S (n+1) (fun i=>f (i+1))=S n (fun i=>f (i+1))+f (n+1):=rfl
  rw[this]
  omega
noncomputable def dl(i j:Nat):Int:=if i=j then 1 else 0
theorem eJ(i:Nat):dl i i=1:=if_pos rfl
theorem eY{i j:Nat}(h:i≠j):dl i j=0:=if_neg h
theorem oz{n k:Nat}(hk:k<n)(f:Nat→Int):S n (fun i=>dl k i*f i)=f k:=by
 rw[pA hk (fun i _ h=>by rw[eY (Ne.symm h),Int.zero_mul]),eJ,Int.one_mul]
theorem p9{n k:Nat}(hk:k<n)(f:Nat→Int):S n (fun i=>f i*dl i k)=f k:=by
 rw[pA hk (fun i _ h=>by rw[eY h,Int.mul_zero]),eJ,Int.mul_one]
noncomputable abbrev Row:=List Int
noncomputable abbrev Rows:=List (List Int)
noncomputable def g(A:Rows)(i j:Nat):Int:=(A.getD i []).getD j 0
structure dJ(m n:Nat)(A:Rows):Prop where
 len:A.length=m
 pR:∀r∈A,r.length=n
theorem bG{α:Type}{l:List α}{i:Nat}{d:α}(h:i<l.length):l.getD i d=l[i]:=by
 rw[List.getD_eq_getElem?_getD,List.getElem?_eq_getElem h];rfl
theorem mv{α:Type}{l:List α}{i:Nat}{d:α}(h:l.length≤i):l.getD i d=d:=by
 rw[List.getD_eq_getElem?_getD,List.getElem?_eq_none h];rfl
theorem dJ.row{m n:Nat}{A:Rows}(h:dJ m n A){i:Nat}(hi:i<m):(A.getD i []).length=n:=by
 have hl:=h.len
 rw[bG (by omega)]
 exact h.pR _ (List.getElem_mem _)
noncomputable def fb(r:Row)(t:Int)(s:Row):Row:=List.zipWith (fun a b=>a+t*b) r s
theorem kg{r s:Row}{t:Int}(h:r.length=s.length):(fb r t s).length=r.length:=by unfold fb;simp[h]
theorem oM{r s:Row}{t:Int}(h:r.length=s.length)(j:Nat):(fb r t s).getD j 0=r.getD j 0+t*s.getD j 0:=by
 unfold fb
 by_cases hj:j<r.length
 · rw[bG (by simp;omega),bG hj,bG (by omega)];simp
 · rw[mv (by simp;omega),mv (by omega),mv (by omega)];simp
noncomputable def fA:Row→Rows→Row→Row
 |w::ws,r::rs,acc=>fA ws rs (fb acc w r)
 |_,_,acc=>acc
theorem vO{n:Nat}:∀ {ws:Row} {rs:Rows} {acc:Row},acc.length=n→(∀r∈rs,r.length=n)→(fA ws rs acc).length=n
 | [],_,acc,h,_=>by unfold fA;exact h
 |_::_,[],acc,h,_=>by unfold fA;exact h
 |w::ws,r::rs,acc,h,hr=>by
  unfold fA
  refine vO ?_ fun r hr'=>hr r (List.mem_cons_of_mem _ hr')
  rw[kg (by rw[h,hr r List.mem_cons_self]),h]
theorem yh{n:Nat}:∀ {ws:Row} {rs:Rows} {acc:Row} (j:Nat),acc.length=n→(∀r∈rs,r.length=n)→ws.length=rs.length→(fA ws rs acc).getD j 0=acc.getD j 0+S rs.length fun k=>ws.getD k 0*g rs k j
 | [],[],acc,j,h,_,_=>by unfold fA;show _=_+(0:Int);rw[Int.add_zero]
 | [],_::_,acc,j,h,_,hl=>by cases hl
 |_::_,[],acc,j,h,_,hl=>by cases hl
 |w::ws,r::rs,acc,j,h,hr,hl=>by
  have e1:acc.length=r.length:=by rw[h,hr r List.mem_cons_self]
  unfold fA
  rw[yh j (by rw[kg e1,h]) (fun r hr'=>hr r (List.mem_cons_of_mem _ hr')) (by simpa using hl),oM e1,List.length_cons,yL]
  have:(fun k=>(w::ws).getD (k+1) 0*g (r::rs) (k+1) j)=fun k=>ws.getD k 0*g rs k j:=by
   funext k;unfold g;simp
  rw[this]
  unfold g
  simp
  omega
theorem eQ(n j:Nat):(List.replicate n (0:Int)).getD j 0=0:=by
 by_cases h:j<n
 · rw[bG (by simpa using h)];simp
 · rw[mv (by simp;omega)]
noncomputable def jt(n i:Nat):Row:=(List.range n).map fun k=>dl k i
noncomputable def units(n:Nat):Rows:=(List.range n).map fun i=>jt n i
theorem range_getD{α:Type}{f:Nat→α}{n i:Nat}{d:α}(h:i<n):((List.range n).map f).getD i d=f i:=by
 rw[bG (by simpa using h)];simp
theorem td(n:Nat):dJ n n (units n):=⟨by simp[units],fun r hr=>by unfold units at hr;obtain⟨i,_,rfl⟩:=List.mem_map.mp hr;simp[jt]⟩
theorem kq{n i j:Nat}(hi:i<n)(hj:j<n):g (units n) i j=dl i j:=by
 unfold g units jt
 rw[range_getD hi,range_getD hj]
 unfold dl
 by_cases h:i=j
 · subst h;rfl
 · rw[if_neg (Ne.symm h),if_neg h]
noncomputable def u0(A:Rows)(j:Nat):Row:=A.map fun r=>r.getD j 0
noncomputable def Ft(A:Rows)(n:Nat):Rows:=(List.range n).map fun j=>u0 A j
noncomputable def Iq:Row→Row→Int
 |a::as,b::bs=>a*b+Iq as bs
 |_,_=>0
end Mx
namespace Mx
theorem vh(i j:Nat):dl i j=dl j i:=by
 unfold dl
 by_cases h:i=j
 · rw[if_pos h,if_pos h.symm]
 · rw[if_neg h,if_neg (Ne.symm h)]
noncomputable def sw(i j k:Nat):Nat:=if k=i then j else if k=j then i else k
theorem M7{n i j:Nat}(hi:i<n)(hj:j<n)(hij:i≠j)(f:Nat→Int):S n (fun k=>f (sw i j k))=S n f:=by
 have:S n (fun k=>f (sw i j k))=S n fun k=>f k+(f j-f i)*dl k i+(f i-f j)*dl k j:=aP fun k _=>by
  unfold sw
  by_cases h1:k=i
  · subst h1;rw[if_pos rfl,eJ,eY hij];omega
  · rw[if_neg h1,eY h1]
    by_cases h2:k=j
    · subst h2;rw[if_pos rfl,eJ];omega
    · rw[if_neg h2,eY h2];omega
 rw[this,jd,jd,p9 (f:=fun _=>f j-f i) hi,p9 (f:=fun _=>f i-f j) hj]
 omega
end Mx
namespace Mx
noncomputable abbrev Fn:=Nat→Nat→Int
noncomputable def sk(j c:Nat):Nat:=if c<j then c else c+1
noncomputable def sg(j:Nat):Int:=if j%2=0 then 1 else-1
theorem uW(j:Nat):sg (j+1)= -sg j:=by unfold sg;split<;>split<;>omega
theorem vi:sg 0=1:=rfl
theorem jJ{j c n:Nat}(h:c<n):sk j c<n+1:=by unfold sk;split<;>omega
theorem K_{j k c:Nat}(h:k<j):sk j (sk k c)=sk k (sk (j-1) c):=by unfold sk;grind
noncomputable def D:Nat→Fn→Int
 |0,_=>1
 |n+1,M=>S (n+1) fun j=>sg j*M 0 j*D n fun r c=>M (r+1) (sk j c)
theorem Br(M:Fn):D 0 M=1:=rfl
theorem dv(n:Nat)(M:Fn):D (n+1) M=S (n+1) fun j=>sg j*M 0 j*D n fun r c=>M (r+1) (sk j c):=rfl
theorem de:∀ {n:Nat} {M M':Fn},(∀r c,r<n→c<n→M r c=M' r c)→D n M=D n M'
 |0,_,_,_=>rfl
 |n+1,M,M',h=>by
  rw[dv,dv]
  refine aP fun j hj=>?_
  have e:D n (fun r c=>M (r+1) (sk j c))=D n (fun r c=>M' (r+1) (sk j c)):=de fun r c hr hc=>h (r+1) (sk j c) (by omega) (jJ hc)
  rw[h 0 j (by omega) hj,e]
theorem FE:∀ {n:Nat} {M P Q:Fn} {a b:Int} {i:Nat},i<n→(∀c,c<n→M i c=a*P i c+b*Q i c)→(∀r c,r<n→c<n→r≠i→M r c=P r c∧M r c=Q r c)→D n M=a*D n P+b*D n Q
 |0,_,_,_,_,_,_,h,_,_=>by omega
 |n+1,M,P,Q,a,b,0,_,h0,h=>by
  rw[dv,dv,dv,←fQ,←fQ,←jd]
  refine aP fun j hj=>?_
  have e1:D n (fun r c=>M (r+1) (sk j c))=D n (fun r c=>P (r+1) (sk j c)):=de fun r c hr hc=>(h (r+1) (sk j c) (by omega) (jJ hc) (by omega)).1
  have e2:D n (fun r c=>M (r+1) (sk j c))=D n (fun r c=>Q (r+1) (sk j c)):=de fun r c hr hc=>(h (r+1) (sk j c) (by omega) (jJ hc) (by omega)).2
  rw[h0 j hj,←e1,←e2]
  grind
 |n+1,M,P,Q,a,b,i+1,hi,h0,h=>by
  rw[dv,dv,dv,←fQ,←fQ,←jd]
  refine aP fun j hj=>?_
  have e:=FE (n:=n) (M:=fun r c=>M (r+1) (sk j c)) (P:=fun r c=>P (r+1) (sk j c)) (Q:=fun r c=>Q (r+1) (sk j c)) (a:=a) (b:=b) (i:=i) (by omega) (fun c hc=>h0 (sk j c) (jJ hc)) fun r c hr hc hne=>h (r+1) (sk j c) (by omega) (jJ hc) (by omega)
  have p:=h 0 j (by omega) hj (by omega)
  rw[e,←p.1,←p.2]
  grind
theorem M5{n:Nat}{M:Fn}(h:∀c,c<n+2→M 0 c=M 1 c):D (n+2) M=0:=by
 let T:Nat→Nat→Int:=fun j k=>sg j*M 0 j*(sg k*M 1 (sk j k)*D n fun r c=>M (r+2) (sk j (sk k c)))
 have e1:∀j,j<n+2→sg j*M 0 j*D (n+1) (fun r c=>M (r+1) (sk j c))=S (n+1) fun k=>T j k:=fun j hj=>by
  rw[dv,←fQ]
 rw[dv,aP e1]
 have e2:∀j,j<n+2→S (n+1) (fun k=>T j k)=S (n+1) (fun k=>if k<j then T j k else 0)+S (n+1) (fun k=>if k<j then 0 else T j k):=fun j _=>by
  rw[←jd]
  refine aP fun k _=>?_
  split<;>omega
 rw[aP e2,jd]
 have e3:∀j k,j<n+2→k<n+1→¬k<j→T j k= -T (k+1) j:=fun j k hj hk hjk=>by
  have s1:sk (k+1) j=j:=by unfold sk;rw[if_pos (by omega)]
  have s2:sk j k=k+1:=by unfold sk;rw[if_neg hjk]
  have s3:(fun r c=>M (r+2) (sk (k+1) (sk j c)))=fun r c=>M (r+2) (sk j (sk k c)):=by
   funext r c
   rw[K_ (show j<k+1 by omega)];rfl
  show sg j*M 0 j*(sg k*M 1 (sk j k)*D n fun r c=>M (r+2) (sk j (sk k c)))= -(sg (k+1)*M 0 (k+1)*(sg j*M 1 (sk (k+1) j)*D n fun r c=>M (r+2) (sk (k+1) (sk j c))))
  rw[s1,s2,s3,uW,←h j hj,←h (k+1) (by omega)]
  grind
 have e4:S (n+2) (fun j=>S (n+1) fun k=>if k<j then 0 else T j k)= -S (n+2) (fun j=>S (n+1) fun k=>if k<j then T j k else 0):=by
  rw[yE,yL (n+1) (fun j=>S (n+1) fun k=>if k<j then T j k else 0)]
  have z:S (n+1) (fun k=>if k<0 then T 0 k else 0)=0:=oS fun k _=>if_neg (by omega)
  rw[z,Int.zero_add,←AJ]
  refine aP fun k hk=>?_
  have:S (n+2) (fun j=>if k<j then 0 else T j k)=S (n+1) (fun j=>if k<j then 0 else T j k)+(if k<n+1 then 0 else T (n+1) k):=rfl
  rw[this,if_pos hk,Int.add_zero,←AJ]
  refine aP fun j hj=>?_
  by_cases hkj:k<j
  · rw[if_pos hkj,if_neg (by omega)];rfl
  · rw[if_neg hkj,if_pos (by omega)]
    exact e3 j k (by omega) hk hkj
 rw[e4]
 omega
theorem EK:∀ {n:Nat} {M:Fn} {i:Nat},i+1<n→(∀c,c<n→M i c=M (i+1) c)→D n M=0
 |0,_,_,h,_=>by omega
 |1,_,_,h,_=>by omega
 |n+2,M,0,_,h=>M5 h
 |n+2,M,i+1,hi,h=>by
  rw[dv]
  refine oS fun j hj=>?_
  rw[EK (n:=n+1) (M:=fun r c=>M (r+1) (sk j c)) (i:=i) (by omega) fun c hc=>h (sk j c) (jJ hc),Int.mul_zero]
structure Alt(n:Nat)(φ:Fn→Int):Prop where
 cg:∀M M':Fn,(∀r c,r<n→c<n→M r c=M' r c)→φ M=φ M'
 oK:∀(i:Nat) (M P Q:Fn) (a b:Int),i<n→(∀c,c<n→M i c=a*P i c+b*Q i c)→(∀r c,r<n→c<n→r≠i→M r c=P r c∧M r c=Q r c)→φ M=a*φ P+b*φ Q
 alt:∀(i j:Nat) (M:Fn),i<n→j<n→i≠j→(∀c,c<n→M i c=M j c)→φ M=0
noncomputable def upd(M:Fn)(i:Nat)(x:Nat→Int):Fn:=fun r c=>if r=i then x c else M r c
theorem cp(M:Fn)(i:Nat)(x:Nat→Int)(c:Nat):upd M i x i c=x c:=if_pos rfl
theorem aC{M:Fn}{i r:Nat}{x:Nat→Int}(h:r≠i)(c:Nat):upd M i x r c=M r c:=if_neg h
theorem Mu{n i j:Nat}{φ:Fn→Int}(cg:∀M M':Fn,(∀r c,r<n→c<n→M r c=M' r c)→φ M=φ M')
 (oK:∀(i:Nat) (M P Q:Fn) (a b:Int),i<n→(∀c,c<n→M i c=a*P i c+b*Q i c)→(∀r c,r<n→c<n→r≠i→M r c=P r c∧M r c=Q r c)→φ M=a*φ P+b*φ Q)
 (hi:i<n) (hj:j<n) (hij:i≠j) (alt:∀N:Fn,(∀c,c<n→N i c=N j c)→φ N=0) (M:Fn):φ (fun r=>M (sw i j r))= -φ M:=by
 have l1:φ (upd (upd M i fun c=>M i c+M j c) j fun c=>M i c+M j c)=1*φ (upd (upd M i (M i)) j fun c=>M i c+M j c)+1*φ (upd (upd M i (M j)) j fun c=>M i c+M j c):=
  oK i _ _ _ 1 1 hi (fun c _=>by rw[aC hij,aC hij,aC hij,cp,cp,cp];omega) fun r c _ _ hr=>by
   unfold upd
   grind
 have l2:∀x:Nat→Int,φ (upd (upd M i x) j fun c=>M i c+M j c)=1*φ (upd (upd M i x) j (M i))+1*φ (upd (upd M i x) j (M j)):=fun x=>
  oK j _ _ _ 1 1 hj (fun c _=>by rw[cp,cp,cp];omega) fun r c _ _ hr=>by
   rw[aC hr,aC hr,aC hr];exact⟨rfl,rfl⟩
 have z0:φ (upd (upd M i fun c=>M i c+M j c) j fun c=>M i c+M j c)=0:=alt _ fun c _=>by rw[aC hij,cp,cp]
 have z1:φ (upd (upd M i (M i)) j (M i))=0:=alt _ fun c _=>by rw[aC hij,cp,cp]
 have z2:φ (upd (upd M i (M j)) j (M j))=0:=alt _ fun c _=>by rw[aC hij,cp,cp]
 have s1:φ (upd (upd M i (M i)) j (M j))=φ M:=cg _ _ fun r c _ _=>by
  unfold upd
  split
  · rename_i e;rw[e]
  · split
    · rename_i e;rw[e]
    · rfl
 have s2:φ (upd (upd M i (M j)) j (M i))=φ (fun r=>M (sw i j r)):=cg _ _ fun r c _ _=>by
  unfold upd sw
  by_cases h1:r=j
  · rw[if_pos h1]
    by_cases h2:r=i
    · omega
    · rw[if_neg h2,if_pos h1]
  · rw[if_neg h1]
    by_cases h2:r=i
    · rw[if_pos h2,if_pos h2]
    · rw[if_neg h2,if_neg h2,if_neg h1]
 have a1:=l2 (M i)
 have a2:=l2 (M j)
 rw[z1,s1]at a1
 rw[z2,s2]at a2
 rw[z0,a1,a2]at l1
 omega
theorem Alt.swap{n i j:Nat}{φ:Fn→Int}(A:Alt n φ)(hi:i<n)(hj:j<n)(hij:i≠j)(M:Fn):φ (fun r=>M (sw i j r))= -φ M:=
 Mu A.cg A.oK hi hj hij (fun N h=>A.alt i j N hi hj hij h) M
theorem t_{n:Nat}{φ:Fn→Int}(cg:∀M M':Fn,(∀r c,r<n→c<n→M r c=M' r c)→φ M=φ M')
 (oK:∀(i:Nat) (M P Q:Fn) (a b:Int),i<n→(∀c,c<n→M i c=a*P i c+b*Q i c)→(∀r c,r<n→c<n→r≠i→M r c=P r c∧M r c=Q r c)→φ M=a*φ P+b*φ Q)
 (adj:∀(i:Nat) (M:Fn),i+1<n→(∀c,c<n→M i c=M (i+1) c)→φ M=0):Alt n φ:=by
 have far:∀(d i:Nat) (M:Fn),i+d+1<n→(∀c,c<n→M i c=M (i+d+1) c)→φ M=0:=by
  intro d
  induction d with
  |zero=>exact fun i M h1 h2=>adj i M h1 h2
  |succ d ih=>
   intro i M h1 h2
   have hs:=Mu cg oK (i:=i+d+1) (j:=i+d+1+1) (by omega) (by omega) (by omega) (fun N h=>adj (i+d+1) N (by omega) h) M
   have:φ (fun r=>M (sw (i+d+1) (i+d+1+1) r))=0:=ih i _ (by omega) fun c hc=>by
    have e1:sw (i+d+1) (i+d+1+1) i=i:=by unfold sw;rw[if_neg (by omega),if_neg (by omega)]
    have e2:sw (i+d+1) (i+d+1+1) (i+d+1)=i+d+1+1:=by unfold sw;rw[if_pos rfl]
    rw[e1,e2]
    exact h2 c hc
   omega
 refine⟨cg,oK,fun i j M hi hj hij h=>?_⟩
 by_cases hlt:i<j
 · obtain⟨d,rfl⟩:∃d,j=i+d+1:=⟨j-i-1,by omega⟩
   exact far d i M hj h
 · obtain⟨d,rfl⟩:∃d,i=j+d+1:=⟨i-j-1,by omega⟩
   exact far d j M hi fun c hc=>(h c hc).symm
theorem rq(n:Nat):Alt n (D n):=t_ (fun _ _ h=>de h) (fun _ _ _ _ _ _ hi h0 h=>FE hi h0 h) fun _ _ h1 h2=>EK h1 h2
theorem Alt.HP{n i:Nat}{φ:Fn→Int}(A:Alt n φ)(hi:i<n){M:Fn}(h:∀c,c<n→M i c=0):φ M=0:=by
 have:=A.oK i M M M 0 0 hi (fun c hc=>by rw[h c hc];rfl) fun _ _ _ _ _=>⟨rfl,rfl⟩
 omega
theorem Alt.Dd{n i:Nat}{φ:Fn→Int}(A:Alt n φ)(hi:i<n)(M:Fn)(t:Int)(x:Nat→Int):φ (upd M i fun c=>t*x c)=t*φ (upd M i x):=by
 have:=A.oK i (upd M i fun c=>t*x c) (upd M i x) (upd M i x) t 0 hi (fun c hc=>by rw[cp,cp];omega) fun r c _ _ hr=>by rw[aC hr,aC hr];exact⟨rfl,rfl⟩
 omega
theorem Alt.BC{n i:Nat}{φ:Fn→Int}(A:Alt n φ)(hi:i<n)(M:Fn)(x y:Nat→Int):φ (upd M i fun c=>x c+y c)=φ (upd M i x)+φ (upd M i y):=by
 have:=A.oK i (upd M i fun c=>x c+y c) (upd M i x) (upd M i y) 1 1 hi (fun c hc=>by rw[cp,cp,cp];omega) fun r c _ _ hr=>by rw[aC hr,aC hr,aC hr];exact⟨rfl,rfl⟩
 omega
theorem Alt.uE{n i:Nat}{φ:Fn→Int}(A:Alt n φ)(hi:i<n)(M:Fn)(a:Nat→Int)(x:Nat→Nat→Int):∀m,φ (upd M i fun c=>S m fun j=>a j*x j c)=S m fun j=>a j*φ (upd M i (x j))
 |0=>A.HP hi fun c _=>by rw[cp];rfl
 |m+1=>by
  have:(fun c=>S (m+1) fun j=>a j*x j c)=fun c=>(S m fun j=>a j*x j c)+a m*x m c:=rfl
  rw[this,A.BC hi,A.uE hi M a x m,A.Dd hi]
  rfl
noncomputable def un(j c:Nat):Nat:=if c<j then c else c-1
noncomputable def grow(j:Nat)(B:Fn):Fn:=fun r c=>if r=0 then dl j c else if c=j then 0 else B (r-1) (un j c)
theorem uJ{n j c:Nat}(hj:j<n+1)(hc:c<n+1)(h:c≠j):un j c<n:=by unfold un;split<;>omega
theorem Ah{j c:Nat}(h:c≠j):sk j (un j c)=c:=by unfold sk un;grind
theorem Alt.grow{n j:Nat}{φ:Fn→Int}(A:Alt (n+1) φ)(hj:j<n+1):Alt n fun B=>φ (Mx.grow j B) where
 cg:=fun M M' h=>A.cg _ _ fun r c hr hc=>by
  have:=h (r-1) (un j c)
  have:=uJ (c:=c) hj hc
  unfold Mx.grow
  grind
 oK:=fun i M P Q a b hi h0 h=>A.oK (i+1) _ _ _ a b (by omega) (fun c hc=>by
  have:=h0 (un j c)
  have:=uJ (c:=c) hj hc
  have e:i+1-1=i:=by omega
  unfold Mx.grow
  rw[e]
  grind) fun r c hr hc hne=>by
  have:=h (r-1) (un j c)
  have:=uJ (c:=c) hj hc
  unfold Mx.grow
  grind
 alt:=fun i k M hi hk hik h=>A.alt (i+1) (k+1) _ (by omega) (by omega) (by omega) fun c hc=>by
  have:=h (un j c)
  have:=uJ (c:=c) hj hc
  have e:i+1-1=i:=by omega
  have e2:k+1-1=k:=by omega
  unfold Mx.grow
  rw[e,e2]
  grind
theorem Alt.units{n:Nat}{φ:Fn→Int}(A:Alt (n+1) φ):∀j,j<n+1→φ (Mx.grow j dl)=sg j*φ dl
 |0,_=>by
  rw[vi,Int.one_mul]
  refine A.cg _ _ fun r c hr hc=>?_
  unfold Mx.grow un dl
  grind
 |j+1,hj=>by
  have ih:=A.units j (by omega)
  have s:=A.swap (i:=0) (j:=j+1) (by omega) hj (by omega) (Mx.grow j dl)
  rw[uW,Int.neg_mul,←ih,←s]
  refine A.cg _ _ fun r c hr hc=>?_
  unfold Mx.grow un dl sw
  grind
theorem Alt.Nf{n i k:Nat}{φ:Fn→Int}(A:Alt n φ)(hi:i<n)(hk:k<n)(hik:i≠k)(M:Fn)(x:Nat→Int)(t:Int):φ (upd M i fun c=>x c+t*M k c)=φ (upd M i x):=by
 rw[A.BC hi,A.Dd hi M t (M k),A.alt i k (upd M i (M k)) hi hk hik fun c _=>by rw[cp,aC (Ne.symm hik)],Int.mul_zero,Int.add_zero]
noncomputable def zr(j m:Nat)(M:Fn):Fn:=fun r c=>if r=0 then dl j c else if r≤m∧c=j then 0 else M r c
theorem Alt.zr{n j:Nat}{φ:Fn→Int}(A:Alt (n+1) φ)(M:Fn):∀m,m≤n→φ (Mx.zr j m M)=φ (upd M 0 (dl j))
 |0,_=>A.cg _ _ fun r c hr hc=>by unfold Mx.zr upd;grind
 |m+1,hm=>by
  rw[←A.zr M m (by omega)]
  have e:=A.Nf (i:=m+1) (k:=0) (by omega) (by omega) (by omega) (Mx.zr j m M) (M (m+1)) (-M (m+1) j)
  have e1:φ (Mx.zr j (m+1) M)=φ (upd (Mx.zr j m M) (m+1) fun c=>M (m+1) c+ -M (m+1) j*Mx.zr j m M 0 c):=A.cg _ _ fun r c hr hc=>by
   unfold upd Mx.zr dl
   by_cases h0:r=m+1
   · subst h0
     by_cases h1:c=j
     · subst h1;simp;omega
     · have:¬j=c:=fun z=>h1 z.symm
       simp[h1,this]
   · rw[if_neg h0]
     grind
  have e2:φ (upd (Mx.zr j m M) (m+1) (M (m+1)))=φ (Mx.zr j m M):=A.cg _ _ fun r c hr hc=>by
   unfold upd Mx.zr
   grind
  rw[e1,e,e2]
theorem A9:∀ {n:Nat} {φ:Fn→Int},Alt n φ→∀M,φ M=φ dl*D n M
 |0,φ,A,M=>by rw[Br,Int.mul_one];exact A.cg _ _ fun r c hr=>by omega
 |n+1,φ,A,M=>by
  have h1:φ M=S (n+1) fun j=>M 0 j*φ (upd M 0 (dl j)):=by
   rw[←A.uE (by omega) M (M 0) dl (n+1)]
   refine A.cg _ _ fun r c hr hc=>?_
   by_cases h0:r=0
   · subst h0
     rw[cp,p9 hc]
   · rw[aC h0]
  have h2:∀j,j<n+1→φ (upd M 0 (dl j))=φ (Mx.grow j fun r c=>M (r+1) (sk j c)):=fun j hj=>by
   rw[←A.zr M n (Nat.le_refl _)]
   refine A.cg _ _ fun r c hr hc=>?_
   unfold Mx.grow Mx.zr
   by_cases h0:r=0
   · rw[if_pos h0,if_pos h0]
   · rw[if_neg h0,if_neg h0]
     by_cases h3:c=j
     · rw[if_pos ⟨by omega,h3⟩,if_pos h3]
     · rw[if_neg (by omega),if_neg h3]
       dsimp only
       rw[Ah h3,show r-1+1=r by omega]
  rw[h1,dv,←fQ]
  refine aP fun j hj=>?_
  have h3:=A9 (A.grow hj) fun r c=>M (r+1) (sk j c)
  have h4:=A.units j hj
  have h5:φ (Mx.grow j fun r c=>M (r+1) (sk j c))=φ (Mx.grow j dl)*D n fun r c=>M (r+1) (sk j c):=h3
  rw[h2 j hj,h5,h4]
  grind
theorem u7:∀n,D n dl=1
 |0=>rfl
 |n+1=>by
  rw[dv,pA (k:=0) (by omega) fun j hj h0=>by rw[eY (Ne.symm h0),Int.mul_zero,Int.zero_mul]]
  have:D n (fun r c=>dl (r+1) (sk 0 c))=D n dl:=de fun r c _ _=>by
   unfold dl sk
   grind
  rw[this,u7 n,eJ];rfl
theorem Fm(n:Nat)(A B:Fn):D n (fun r c=>S n fun k=>A r k*B k c)=D n A*D n B:=by
 have al:Alt n fun A=>D n (fun r c=>S n fun k=>A r k*B k c):=by
  refine⟨fun M M' h=>de fun r c hr hc=>aP fun k hk=>by rw[h r k hr hk],fun i M P Q a b hi h0 h=>(rq n).oK i _ _ _ a b hi (fun c hc=>?_) fun r c hr hc hne=>⟨aP fun k hk=>by rw[(h r k hr hk hne).1],aP fun k hk=>by rw[(h r k hr hk hne).2]⟩,fun i j M hi hj hij h=>(rq n).alt i j _ hi hj hij fun c hc=>aP fun k hk=>by rw[h k hk]⟩
  show(S n fun k=>M i k*B k c)=a*(S n fun k=>P i k*B k c)+b*S n fun k=>Q i k*B k c
  rw[←fQ,←fQ,←jd]
  refine aP fun k hk=>?_
  rw[h0 k hk]
  grind
 have h:=A9 al A
 have e:D n (fun r c=>S n fun k=>dl r k*B k c)=D n B:=de fun r c hr hc=>oz hr fun k=>B k c
 rw[h,e,Int.mul_comm]
theorem Ct:∀ {n:Nat} {M P Q:Fn} {a b:Int} {i:Nat},i<n→(∀r,r<n→M r i=a*P r i+b*Q r i)→(∀r c,r<n→c<n→c≠i→M r c=P r c∧M r c=Q r c)→D n M=a*D n P+b*D n Q
 |0,_,_,_,_,_,_,h,_,_=>by omega
 |n+1,M,P,Q,a,b,i,hi,h0,h=>by
  rw[dv,dv,dv,←fQ,←fQ,←jd]
  refine aP fun j hj=>?_
  by_cases hij:j=i
  · subst hij
    have hs:∀c,sk j c≠j:=fun c=>by unfold sk;split<;>omega
    have e1:D n (fun r c=>M (r+1) (sk j c))=D n (fun r c=>P (r+1) (sk j c)):=de fun r c hr hc=>(h (r+1) (sk j c) (by omega) (jJ hc) (hs c)).1
    have e2:D n (fun r c=>M (r+1) (sk j c))=D n (fun r c=>Q (r+1) (sk j c)):=de fun r c hr hc=>(h (r+1) (sk j c) (by omega) (jJ hc) (hs c)).2
    rw[h0 0 (by omega),←e1,←e2]
    grind
  · have p:=h 0 j (by omega) hj hij
    have hu:sk j (un j i)=i:=Ah (Ne.symm hij)
    have hs:∀c,c≠un j i→sk j c≠i:=fun c hc=>by unfold sk;unfold un at hc;grind
    have hlt:un j i<n:=uJ hj hi (Ne.symm hij)
    have e:=Ct (n:=n) (M:=fun r c=>M (r+1) (sk j c)) (P:=fun r c=>P (r+1) (sk j c)) (Q:=fun r c=>Q (r+1) (sk j c)) (a:=a) (b:=b) (i:=un j i) hlt (fun r hr=>by
     rw[hu]
     exact h0 (r+1) (by omega)) fun r c hr hc hne=>h (r+1) (sk j c) (by omega) (jJ hc) (hs c hne)
    rw[e,←p.1,←p.2]
    grind
theorem BR:∀ {n:Nat} {M:Fn} {i:Nat},i+1<n→(∀r,r<n→M r i=M r (i+1))→D n M=0
 |0,_,_,h,_=>by omega
 |n+1,M,i,hi,h=>by
  rw[dv]
  have key:∀j,j<n+1→j≠i→j≠i+1→D n (fun r c=>M (r+1) (sk j c))=0:=fun j hj h1 h2=>by
   refine BR (i:=un j i) (by unfold un;split<;>omega) fun r hr=>?_
   have e1:sk j (un j i)=i:=Ah (Ne.symm h1)
   have e2:sk j (un j i+1)=i+1:=by unfold sk un;grind
   rw[e1,e2]
   exact h (r+1) (by omega)
  have e:D n (fun r c=>M (r+1) (sk i c))=D n (fun r c=>M (r+1) (sk (i+1) c)):=de fun r c hr hc=>by
   by_cases hc2:c=i
   · subst hc2
     have a1:sk c c=c+1:=by unfold sk;rw[if_neg (by omega)]
     have a2:sk (c+1) c=c:=by unfold sk;rw[if_pos (by omega)]
     rw[a1,a2]
     exact(h (r+1) (by omega)).symm
   · have a1:sk i c=sk (i+1) c:=by unfold sk;grind
     rw[a1]
  have two:∀(m:Nat) (f:Nat→Int),i+1<m→(∀j,j<m→j≠i→j≠i+1→f j=0)→S m f=f i+f (i+1):=fun m=>by
   induction m with
   |zero=>intro f h;omega
   |succ m ih=>
    intro f hm hf
    show S m f+f m=_
    by_cases hmi:m=i+1
    · subst hmi
      rw[pA (k:=i) (by omega) fun j hj hne=>hf j (by omega) hne (by omega)]
    · rw[ih f (by omega) fun j hj h1 h2=>hf j (by omega) h1 h2,hf m (by omega) (by omega) hmi,Int.add_zero]
  rw[two (n+1) _ hi fun j hj h1 h2=>by rw[key j hj h1 h2,Int.mul_zero],e,uW,h 0 (by omega)]
  grind
noncomputable def tr(M:Fn):Fn:=fun r c=>M c r
theorem x5(n:Nat)(M:Fn):D n (tr M)=D n M:=by
 have al:Alt n fun A=>D n (tr A):=t_ (fun M M' h=>de fun r c hr hc=>h c r hc hr)
  (fun i M P Q a b hi h0 h=>Ct hi (fun r hr=>h0 r hr) fun r c hr hc hne=>h c r hc hr hne)
  fun i M hi h=>BR hi fun r hr=>h r hr
 have h:=A9 al M
 have e:D n (tr dl)=D n dl:=de fun r c _ _=>vh c r
 have h2:D n (tr M)=D n (tr dl)*D n M:=h
 rw[h2,e,u7,Int.one_mul]
noncomputable def Pr:Nat→(Nat→Int)→Int
 |0,_=>1
 |n+1,f=>Pr n f*f n
theorem zi:∀(n:Nat) (f:Nat→Int),Pr (n+1) f=f 0*Pr n fun i=>f (i+1)
 |0,f=>by show 1*f 0=f 0*1;omega
 |n+1,f=>by
  have:Pr (n+1+1) f=Pr (n+1) f*f (n+1):=rfl
  rw[this,zi n f]
  have:Pr (n+1) (fun i=>f (i+1))=Pr n (fun i=>f (i+1))*f (n+1):=rfl
  rw[this,Int.mul_assoc]
theorem Fb:∀ {n:Nat} {M:Fn},(∀r c,r<n→c<n→r<c→M r c=0)→D n M=Pr n fun i=>M i i
 |0,_,_=>rfl
 |n+1,M,h=>by
  rw[dv,pA (k:=0) (by omega) fun j hj h0=>by rw[h 0 j (by omega) hj (by omega),Int.mul_zero,Int.zero_mul],zi,vi,Int.one_mul]
  have s:∀c,sk 0 c=c+1:=fun c=>by unfold sk;rw[if_neg (by omega)]
  have e:D n (fun r c=>M (r+1) (sk 0 c))=Pr n fun i=>M (i+1) (i+1):=by
   rw[Fb fun r c hr hc hrc=>by rw[s];exact h (r+1) (c+1) (by omega) (by omega) (by omega)]
   simp only[s]
  rw[e]
theorem MS{n:Nat}{M:Fn}(h:∀r c,r<n→c<n→c<r→M r c=0):D n M=Pr n fun i=>M i i:=by
 rw[←x5 n M,Fb (M:=tr M) fun r c hr hc hrc=>h c r hc hr hrc]
 rfl
theorem yC:∀ {n:Nat} {M:Fn},(∀c,c<n+1→M n c=dl n c)→D (n+1) M=D n M
 |0,M,h=>by
  rw[dv]
  show 0+sg 0*M 0 0*D 0 _=1
  rw[h 0 (by omega),eJ,vi,Br];omega
 |n+1,M,h=>by
  have e1:∀j,j<n+1→D (n+1) (fun r c=>M (r+1) (sk j c))=D n (fun r c=>M (r+1) (sk j c)):=fun j hj=>yC fun c hc=>by
   rw[h (sk j c) (jJ hc)]
   unfold dl sk
   grind
  have e2:D (n+1) (fun r c=>M (r+1) (sk (n+1) c))=0:=(rq (n+1)).HP (i:=n) (by omega) fun c hc=>by
   have s:sk (n+1) c=c:=by unfold sk;rw[if_pos (by omega)]
   rw[s,h c (by omega),eY (by omega)]
  have e3:D (n+1+1) M=(S (n+1) fun j=>sg j*M 0 j*D (n+1) fun r c=>M (r+1) (sk j c))+sg (n+1)*M 0 (n+1)*D (n+1) (fun r c=>M (r+1) (sk (n+1) c)):=dv (n+1) M
  rw[e3,e2,Int.mul_zero,Int.add_zero,dv]
  exact aP fun j hj=>by rw[e1 j hj]
end Mx
namespace Mx
noncomputable def gx(R:Fn)(p:Nat)(x:Nat→Int)(j:Nat):Int:=D (p+1) fun r c=>if r<p then R r (if c<p then c else j)else x (if c<p then c else j)
theorem J3{R:Fn}{p j:Nat}{x:Nat→Int}(h:j<p):gx R p x j=0:=by
 unfold gx
 rw[←x5]
 refine(rq (p+1)).alt j p _ (by omega) (by omega) (by omega) fun c hc=>?_
 unfold tr
 dsimp only
 rw[if_pos h,if_neg (Nat.lt_irrefl p)]
noncomputable def bt(R:Fn)(p:Nat)(x:Nat→Int)(k:Nat):Int:=D (p+1) (upd (fun c r=>if r<p then R r c else x c) p (dl k))
theorem Lb(R:Fn)(p:Nat)(x:Nat→Int)(j:Nat):gx R p x j=D p R*x j+S p fun k=>bt R p x k*R k j:=by
 have e1:gx R p x j=D (p+1) (upd (fun c r=>if r<p then R r c else x c) p fun r=>S (p+1) fun k=>(if k<p then R k j else x j)*dl k r):=by
  unfold gx
  rw[←x5]
  refine de fun c r hc hr=>?_
  unfold tr upd
  by_cases h:c=p
  · subst h
    rw[if_pos rfl]
    dsimp only
    rw[p9 hr,if_neg (Nat.lt_irrefl _)]
  · rw[if_neg h]
    dsimp only
    rw[if_pos (show c<p by omega)]
 rw[e1,(rq (p+1)).uE (by omega)]
 have e2:D (p+1) (upd (fun c r=>if r<p then R r c else x c) p (dl p))=D p R:=by
  rw[yC fun c _=>cp _ _ _ _]
  rw[←x5]
  refine de fun r c hr hc=>?_
  unfold tr
  rw[aC (by omega),if_pos (by omega)]
 have e3:(S (p+1) fun k=>(if k<p then R k j else x j)*D (p+1) (upd (fun c r=>if r<p then R r c else x c) p (dl k)))=(S p fun k=>(if k<p then R k j else x j)*D (p+1) (upd (fun c r=>if r<p then R r c else x c) p (dl k)))+(if p<p then R p j else x j)*D (p+1) (upd (fun c r=>if r<p then R r c else x c) p (dl p)):=rfl
 rw[e3,e2,if_neg (Nat.lt_irrefl p),Int.add_comm,Int.mul_comm]
 congr 1
 refine aP fun k hk=>?_
 rw[if_pos hk,Int.mul_comm]
 rfl
noncomputable def cl(p j1 j2 c:Nat):Nat:=if c<p then c else if c=p then j1 else j2
theorem Fh{n:Nat}{f:Nat→Int}{m:Nat}(h:∀i,i<n→(f i).natAbs≤m):(S n f).natAbs≤n*m:=by
 induction n with
 |zero=>simp[S]
 |succ n ih=>
  have h1:=ih fun i hi=>h i (by omega)
  have h2:=h n (by omega)
  show(S n f+f n).natAbs≤_
  rw[Nat.succ_mul]
  omega
end Mx
namespace Mx
end Mx
namespace Mx
noncomputable def lam(G:Fn)(i j:Nat):Int:=gx G j (G i) j
noncomputable def M3(A:Rows):Fn:=fun i j=>Iq (A.getD i []) (A.getD j [])
end Mx
namespace Mx
noncomputable def Lu(G:Fn)(i:Nat):Row:=(List.range (i+1)).map fun j=>lam G i j
noncomputable def HY(G:Fn)(n:Nat):Rows:=(List.range n).map (Lu G)
end Mx
namespace Mx
noncomputable def RA(A:Rows)(N:Nat):Fn:=fun i j=>if j<N then M3 A i j else(A.getD i []).getD (j-N) 0
noncomputable def ev(A:Rows)(N i k c:Nat):Int:=gx (RA A N) k (RA A N i) (N+c)
theorem AO(n:Nat)(a b:Int)(f g:Nat→Int):S n (fun c=>a*f c-b*g c)=a*S n f-b*S n g:=by
 induction n with
 |zero=>show(0:Int)=a*0-b*0;omega
 |succ n ih=>
  show S n (fun c=>a*f c-b*g c)+(a*f n-b*g n)=a*(S n f+f n)-b*(S n g+g n)
  rw[ih,Int.mul_add,Int.mul_add];omega
section
variable {A:Rows}{N w:Nat}
end
end Mx
namespace Mx
end Mx
namespace Mx
noncomputable def NG(M:Fn)(k j:Nat)(q:Int):Fn:=fun a b=>if a=k then M a b-q*M j b else M a b
noncomputable def NC(M:Fn)(k j:Nat)(q:Int):Fn:=fun a b=>if b=k then M a b-q*M a j else M a b
noncomputable def tk(G:Fn)(k j:Nat)(q:Int):Fn:=NC (NG G k j q) k j q
end Mx
namespace Mx
section
variable {G:Fn}{t:Nat}(sym:∀i j,G i j=G j i)
include sym
end
end Mx
namespace Mx
section
variable {A:Rows}{N w:Nat}
theorem cP(hA:dJ N w A){i:Nat}(hi:i<N):(A.getD i []).length=w:=hA.pR _ (by have:=hA.len;rw[bG (by omega)];exact List.getElem_mem _)
end
end Mx
namespace Mx
noncomputable def bH(A:Rows)(k:Nat)(q:Int)(j:Nat):Rows:=A.set k (fb (A.getD k []) (-q) (A.getD j []))
noncomputable def bC(A:Rows)(k o:Nat):Rows:=(A.set k (A.getD o [])).set o (A.getD k [])
theorem ko{A:Rows}{k i:Nat}{r:Row}(hk:k<A.length):(A.set k r).getD i []=if i=k then r else A.getD i []:=by
 rw[List.getD_eq_getElem?_getD,List.getElem?_set]
 by_cases h:k=i
 · rw[if_pos h,if_pos (by omega),if_pos h.symm];rfl
 · rw[if_neg h,if_neg (Ne.symm h),List.getD_eq_getElem?_getD]
theorem C5{A:Rows}{k j:Nat}{q:Int}:(bH A k q j).length=A.length:=by unfold bH;rw[List.length_set]
theorem sX{A:Rows}{N w k j:Nat}{q:Int}(hA:dJ N w A)(hk:k<N)(hj:j<N):dJ N w (bH A k q j):=by
 refine⟨C5.trans hA.len,fun r hr=>?_⟩
 unfold bH at hr
 rcases List.mem_or_eq_of_mem_set hr with h|rfl
 · exact hA.pR r h
 · rw[kg (by rw[cP hA hk,cP hA hj]),cP hA hk]
end Mx
namespace Mx
structure Tn(A0 A U C:Rows)(N w:Nat):Prop where
 isA:dJ N w A
 eH:dJ N N U
 fV:dJ N N C
 ua:∀i c,i<N→c<w→g A i c=S N fun k=>g U i k*g A0 k c
 ub:∀i j,i<N→j<N→S N (fun k=>g U i k*g C j k)=dl i j
 bu:∀i j,i<N→j<N→S N (fun k=>g C k i*g U k j)=dl i j
theorem fi{A:Rows}{N w k j:Nat}{q:Int}(hA:dJ N w A)(hk:k<N)(hj:j<N)(i c:Nat):g (bH A k q j) i c=if i=k then g A k c-q*g A j c else g A i c:=by
 unfold g bH
 have hl:=hA.len
 rw[ko (by omega)]
 by_cases h:i=k
 · rw[if_pos h,if_pos h,oM (by rw[cP hA hk,cP hA hj]),Int.neg_mul];omega
 · rw[if_neg h,if_neg h]
theorem t9(n:Nat)(a b:Int)(f h:Nat→Int):S n (fun c=>a*f c+b*h c)=a*S n f+b*S n h:=by
 rw[jd,fQ,fQ]
theorem Tn.take{A0 A U C:Rows}{N w k j:Nat}{q:Int}(T:Tn A0 A U C N w)(hk:k<N)(hj:j<N)(hkj:j≠k):Tn A0 (bH A k q j) (bH U k q j) (bH C j (-q) k) N w where
 isA:=sX T.isA hk hj
 eH:=sX T.eH hk hj
 fV:=sX T.fV hj hk
 ua:=fun i c hi hc=>by
  rw[fi T.isA hk hj]
  have e:S N (fun m=>g (bH U k q j) i m*g A0 m c)=S N fun m=>(if i=k then g U k m-q*g U j m else g U i m)*g A0 m c:=aP fun m _=>by rw[fi T.eH hk hj]
  rw[e]
  by_cases h:i=k
  · simp only[if_pos h]
    rw[T.ua k c hk hc,T.ua j c hj hc]
    have e2:S N (fun m=>(g U k m-q*g U j m)*g A0 m c)=S N fun m=>1*(g U k m*g A0 m c)-q*(g U j m*g A0 m c):=aP fun m _=>by grind
    rw[e2,AO];omega
  · simp only[if_neg h]
    exact T.ua i c hi hc
 ub:=fun i l hi hl=>by
  have e:S N (fun m=>g (bH U k q j) i m*g (bH C j (-q) k) l m)=S N fun m=>(if i=k then g U k m-q*g U j m else g U i m)*(if l=j then g C j m- -q*g C k m else g C l m):=aP fun m _=>by rw[fi T.eH hk hj,fi T.fV hj hk]
  rw[e]
  have djk:dl j k=0:=eY hkj
  by_cases h:i=k
  · by_cases h2:l=j
    · simp only[if_pos h,if_pos h2]
      have e2:S N (fun m=>(g U k m-q*g U j m)*(g C j m- -q*g C k m))=S N fun m=>1*(1*(g U k m*g C j m)+q*(g U k m*g C k m))-q*(1*(g U j m*g C j m)+q*(g U j m*g C k m)):=aP fun m _=>by grind
      rw[e2,AO,t9,t9,T.ub k j hk hj,T.ub k k hk hk,T.ub j j hj hj,T.ub j k hj hk,h,h2,eJ,eJ,djk,vh k j,djk]
      omega
    · simp only[if_pos h,if_neg h2]
      have e2:S N (fun m=>(g U k m-q*g U j m)*g C l m)=S N fun m=>1*(g U k m*g C l m)-q*(g U j m*g C l m):=aP fun m _=>by grind
      rw[e2,AO,T.ub k l hk hl,T.ub j l hj hl,h,eY (Ne.symm h2)]
      omega
  · by_cases h2:l=j
    · simp only[if_neg h,if_pos h2]
      have e2:S N (fun m=>g U i m*(g C j m- -q*g C k m))=S N fun m=>1*(g U i m*g C j m)+q*(g U i m*g C k m):=aP fun m _=>by grind
      rw[e2,t9,T.ub i j hi hj,T.ub i k hi hk,h2,eY h]
      omega
    · simp only[if_neg h,if_neg h2]
      exact T.ub i l hi hl
 bu:=fun i l hi hl=>by
  have e:S N (fun m=>g (bH C j (-q) k) m i*g (bH U k q j) m l)=S N fun m=>g C m i*g U m l+((q*(g C k i*g U j l))*dl m j+(-(q*(g C k i*g U j l)))*dl m k):=aP fun m _=>by
   rw[fi T.eH hk hj,fi T.fV hj hk]
   by_cases h1:m=j
   · have h2:m≠k:=by omega
     rw[if_pos h1,if_neg h2,h1,eJ,eY hkj];grind
   · rw[if_neg h1,eY h1]
     by_cases h2:m=k
     · rw[if_pos h2,h2,eJ];grind
     · rw[if_neg h2,eY h2];grind
  rw[e,jd,t9,T.bu i l hi hl]
  have e1:S N (fun c=>dl c j)=1:=by
   rw[pA hj fun i _ h=>eY h,eJ]
  have e2:S N (fun c=>dl c k)=1:=by
   rw[pA hk fun i _ h=>eY h,eJ]
  rw[e1,e2];omega
end Mx
namespace Mx
theorem xj{A:Rows}{k o i:Nat}(hk:k<A.length)(ho:o<A.length):(bC A k o).getD i []=A.getD (sw k o i) []:=by
 unfold bC
 rw[ko (by rw[List.length_set];exact ho),ko hk]
 unfold sw
 by_cases h1:i=k
 · rw[if_pos h1,if_pos h1]
   by_cases h2:i=o
   · rw[if_pos h2,←h1,←h2]
   · rw[if_neg h2]
 · rw[if_neg h1,if_neg h1]
   by_cases h2:i=o
   · rw[if_pos h2,if_pos h2]
   · rw[if_neg h2,if_neg h2]
theorem sL{A:Rows}{N w k o:Nat}(hA:dJ N w A)(hk:k<N)(ho:o<N):dJ N w (bC A k o):=by
 refine⟨by unfold bC;rw[List.length_set,List.length_set];exact hA.len,fun r hr=>?_⟩
 unfold bC at hr
 rcases List.mem_or_eq_of_mem_set hr with h|rfl
 · rcases List.mem_or_eq_of_mem_set h with h|rfl
   · exact hA.pR r h
   · exact cP hA ho
 · exact cP hA hk
theorem jE{A:Rows}{N w k o:Nat}(hA:dJ N w A)(hk:k<N)(ho:o<N)(i c:Nat):g (bC A k o) i c=g A (sw k o i) c:=by
 unfold g
 rw[xj (by have:=hA.len;omega) (by have:=hA.len;omega)]
theorem qv{k o N i:Nat}(hk:k<N)(ho:o<N)(hi:i<N):sw k o i<N:=by unfold sw;split<;>(try split)<;>assumption
theorem Bw(k o x:Nat):sw k o (sw k o x)=x:=by
 unfold sw
 by_cases h1:x=k
 · subst h1
   rw[if_pos rfl]
   by_cases h2:o=x
   · rw[if_pos h2];exact h2
   · rw[if_neg h2,if_pos rfl]
 · rw[if_neg h1]
   by_cases h2:x=o
   · subst h2;rw[if_pos rfl,if_pos rfl]
   · rw[if_neg h2,if_neg h1,if_neg h2]
theorem KD{k o a b:Nat}:dl (sw k o a) (sw k o b)=dl a b:=by
 by_cases h:a=b
 · rw[h,eJ,eJ]
 · rw[eY h,eY fun z=>h (by rw[←Bw k o a,←Bw k o b,z])]
theorem GZ(k x:Nat):sw k k x=x:=by
 unfold sw
 by_cases h:x=k
 · rw[if_pos h,h]
 · rw[if_neg h,if_neg h]
theorem Kv{n i j:Nat}(hi:i<n)(hj:j<n)(f:Nat→Int):S n (fun k=>f (sw i j k))=S n f:=by
 by_cases h:i=j
 · subst h;exact aP fun k _=>by rw[GZ]
 · exact M7 hi hj h f
theorem Tn.EN{A0 A U C:Rows}{N w k o:Nat}(T:Tn A0 A U C N w)(hk:k<N)(ho:o<N):Tn A0 (bC A k o) (bC U k o) (bC C k o) N w where
 isA:=sL T.isA hk ho
 eH:=sL T.eH hk ho
 fV:=sL T.fV hk ho
 ua:=fun i c hi hc=>by
  rw[jE T.isA hk ho,T.ua _ c (qv hk ho hi) hc]
  exact aP fun m _=>by rw[jE T.eH hk ho]
 ub:=fun i j hi hj=>by
  rw[←KD (k:=k) (o:=o),←T.ub _ _ (qv hk ho hi) (qv hk ho hj)]
  exact aP fun m _=>by rw[jE T.eH hk ho,jE T.fV hk ho]
 bu:=fun i j hi hj=>by
  rw[←T.bu i j hi hj,←Kv hk ho fun m=>g C m i*g U m j]
  exact aP fun m _=>by rw[jE T.eH hk ho,jE T.fV hk ho]
noncomputable def gp(A:Rows)(k:Nat):Rows:=A.set k ((A.getD k []).map fun x=> -x)
theorem yp{A:Rows}{N w k:Nat}(hA:dJ N w A)(hk:k<N):dJ N w (gp A k):=by
 refine⟨by unfold gp;rw[List.length_set];exact hA.len,fun r hr=>?_⟩
 unfold gp at hr
 rcases List.mem_or_eq_of_mem_set hr with h|rfl
 · exact hA.pR r h
 · rw[List.length_map];exact cP hA hk
theorem D2(r:Row)(c:Nat):(r.map fun x=> -x).getD c 0= -r.getD c 0:=by
 rw[List.getD_eq_getElem?_getD,List.getD_eq_getElem?_getD,List.getElem?_map]
 cases r[c]?<;>rfl
theorem jN{A:Rows}{N w k:Nat}(hA:dJ N w A)(hk:k<N)(i c:Nat):g (gp A k) i c=if i=k then-g A k c else g A i c:=by
 unfold g gp
 rw[ko (by have:=hA.len;omega)]
 by_cases h:i=k
 · rw[if_pos h,if_pos h,D2]
 · rw[if_neg h,if_neg h]
theorem Tn.neg{A0 A U C:Rows}{N w k:Nat}(T:Tn A0 A U C N w)(hk:k<N):Tn A0 (gp A k) (gp U k) (gp C k) N w where
 isA:=yp T.isA hk
 eH:=yp T.eH hk
 fV:=yp T.fV hk
 ua:=fun i c hi hc=>by
  rw[jN T.isA hk]
  by_cases h:i=k
  · rw[if_pos h,T.ua k c hk hc,←AJ]
    exact aP fun m _=>by rw[jN T.eH hk,if_pos h,Int.neg_mul]
  · rw[if_neg h,T.ua i c hi hc]
    exact aP fun m _=>by rw[jN T.eH hk,if_neg h]
 ub:=fun i j hi hj=>by
  have e:S N (fun m=>g (gp U k) i m*g (gp C k) j m)=S N fun m=>(if i=k then-1 else 1)*(if j=k then-1 else 1)*(g U i m*g C j m):=aP fun m _=>by
   rw[jN T.eH hk,jN T.fV hk]
   by_cases h1:i=k<;>by_cases h2:j=k<;>simp only[h1,h2,if_true,if_false]<;>grind
  rw[e,fQ,T.ub i j hi hj]
  by_cases h1:i=k
  · by_cases h2:j=k
    · simp[h1,h2]
    · rw[eY (by omega)];simp
  · by_cases h2:j=k
    · rw[eY (by omega)];simp
    · simp[h1,h2]
 bu:=fun i j hi hj=>by
  rw[←T.bu i j hi hj]
  exact aP fun m _=>by
   rw[jN T.eH hk,jN T.fV hk]
   by_cases h:m=k
   · subst h;rw[if_pos rfl,if_pos rfl];grind
   · rw[if_neg h,if_neg h]
structure g7(A:Rows)(N top p:Nat)(L:List Nat):Prop where
 mem:∀k,k∈L↔top≤k∧k<N∧g A k p≠0
 ord:L.Pairwise fun i j=>(g A i p).natAbs<(g A j p).natAbs∨((g A i p).natAbs=(g A j p).natAbs∧i<j)
theorem t5{f:Nat→Nat}:∀ {l m:List Nat},(∀k,k∈l↔k∈m)→l.Pairwise (fun i j=>f i<f j∨(f i=f j∧i<j))→m.Pairwise (fun i j=>f i<f j∨(f i=f j∧i<j))→l=m
 | [],[],_,_,_=>rfl
 | [],b::m,h,_,_=>by have:=(h b).mpr (List.mem_cons_self ..);simp at this
 |a::l,[],h,_,_=>by have:=(h a).mp (List.mem_cons_self ..);simp at this
 |a::l,b::m,h,h1,h2=>by
  obtain⟨p1,q1⟩:=List.pairwise_cons.mp h1
  obtain⟨p2,q2⟩:=List.pairwise_cons.mp h2
  have e:a=b:=by
   rcases List.mem_cons.mp ((h a).mp (List.mem_cons_self ..))with z|z
   · exact z
   · rcases List.mem_cons.mp ((h b).mpr (List.mem_cons_self ..))with y|y
     · exact y.symm
     · have x1:=p1 b y
       have x2:=p2 a z
       omega
  subst e
  have na:a∉l:=fun z=>by have:=p1 a z;omega
  have nb:a∉m:=fun z=>by have:=p2 a z;omega
  rw[t5 (l:=l) (m:=m) (fun k=>?_) q1 q2]
  have:=h k
  rw[List.mem_cons,List.mem_cons]at this
  constructor
  · intro z
    rcases this.mp (.inr z)with y|y
    · subst y;exact absurd z na
    · exact y
  · intro z
    rcases this.mpr (.inr z)with y|y
    · subst y;exact absurd z nb
    · exact y
theorem g7.unique{A:Rows}{N top p:Nat}{L M:List Nat}(h:g7 A N top p L)(h':g7 A N top p M):L=M:=
 t5 (f:=fun i=>(g A i p).natAbs) (fun k=>(h.mem k).trans (h'.mem k).symm) h.ord h'.ord
structure B3 where
 A:Rows
 U:Rows
 C:Rows
noncomputable def qn(x y:Int):Int:=(2*x+y).fdiv (2*y)
noncomputable def jS(b:B3)(p k j:Nat):B3:=⟨bH b.A k (qn (g b.A k p) (g b.A j p)) j,bH b.U k (qn (g b.A k p) (g b.A j p)) j,bH b.C j (-(qn (g b.A k p) (g b.A j p))) k⟩
noncomputable def rf(N top p:Nat)(b c:B3):Prop:=∃(L:List Nat) (k j:Nat),g7 b.A N top p (L++[j,k])∧c=jS b p k j
theorem rf.unique{N top p:Nat}{b c d:B3}(h:rf N top p b c)(h':rf N top p b d):c=d:=by
 obtain⟨L,k,j,h1,rfl⟩:=h
 obtain⟨M,k',j',h2,rfl⟩:=h'
 have e:=h1.unique h2
 have e2:=congrArg List.reverse e
 simp only[List.reverse_append,List.reverse_cons,List.reverse_nil,List.nil_append,List.cons_append,List.cons.injEq]at e2
 rw[e2.1,e2.2.1]
inductive fP(N top p:Nat):B3→B3→Prop
 |refl (b:B3):fP N top p b b
 |head {b c d:B3} (h:rf N top p b c) (t:fP N top p c d):fP N top p b d
theorem fP.tail{N top p:Nat}{b c d:B3}(h:fP N top p b c)(t:rf N top p c d):fP N top p b d:=by
 induction h with
 |refl b=>exact .head t (.refl _)
 |head x _ ih=>exact .head x (ih t)
noncomputable def ud(N top p:Nat)(b:B3):Prop:=∃L,g7 b.A N top p L∧L.length≤1
theorem ud.stop{N top p:Nat}{b c:B3}(h:ud N top p b)(s:rf N top p b c):False:=by
 obtain⟨L,h1,h2⟩:=h
 obtain⟨M,k,j,h3,_⟩:=s
 rw[h1.unique h3]at h2
 simp at h2
theorem fP.unique{N top p:Nat}{b c d:B3}(h:fP N top p b c)(hc:ud N top p c)(h':fP N top p b d)(hd:ud N top p d):c=d:=by
 induction h with
 |refl b=>
  cases h' with
  |refl=>rfl
  |head s _=>exact(hc.stop s).elim
 |head s _ ih=>
  cases h' with
  |refl=>exact(hd.stop s).elim
  |head s' t=>
   rw[s'.unique s]at t
   exact ih hc t
noncomputable def i_(X:Rows)(N top m:Nat):Prop:=∀i c,top≤i→i<N→(g X i c).natAbs≤m
noncomputable def PR(f:Nat→Nat):Nat→Nat
 |0=>1
 |n+1=>PR f n*f n
theorem CY{f:Nat→Nat}(h:∀i,1≤f i):∀n,1≤PR f n
 |0=>Nat.le_refl _
 |n+1=>Nat.mul_le_mul (CY h n) (h n)
theorem wR{f f':Nat→Nat}:∀ {n:Nat},(∀i,i<n→f i=f' i)→PR f n=PR f' n
 |0,_=>rfl
 |n+1,h=>by
  show PR f n*f n=PR f' n*f' n
  rw[wR fun i hi=>h i (Nat.lt_succ_of_lt hi),h n (Nat.lt_succ_self n)]
theorem Bz{f f':Nat→Nat}{k:Nat}:∀ {n:Nat},k<n→(∀i,i≠k→f i=f' i)→PR f n*f' k=PR f' n*f k
 |0,hk,_=>absurd hk (Nat.not_lt_zero _)
 |n+1,hk,h=>by
  show PR f n*f n*f' k=PR f' n*f' n*f k
  by_cases e:k=n
  · subst e
    rw[wR (n:=k) fun i hi=>h i (Nat.ne_of_lt hi),Nat.mul_assoc,Nat.mul_comm (f k),Nat.mul_assoc]
  · have:=Bz (n:=n) (by omega) h
    rw[h n (Ne.symm e),Nat.mul_right_comm,this,Nat.mul_right_comm]
theorem Fj{f:Nat→Nat}{m top:Nat}(hm:1≤m):∀ {n:Nat},(∀i,i<n→i<top→f i≤1)→(∀i,i<n→f i≤m)→PR f n≤m^(n-top)
 |0,_,_=>by simp[PR]
 |n+1,h1,h2=>by
  have ih:=Fj hm (n:=n) (fun i hi=>h1 i (Nat.lt_succ_of_lt hi)) fun i hi=>h2 i (Nat.lt_succ_of_lt hi)
  show PR f n*f n≤_
  by_cases ht:n<top
  · have z:n+1-top=n-top:=by omega
    rw[z]
    exact Nat.le_trans (Nat.mul_le_mul ih (h1 n (Nat.lt_succ_self n) ht)) (by rw[Nat.mul_one];exact Nat.le_refl _)
  · have z:n+1-top=(n-top)+1:=by omega
    rw[z,Nat.pow_succ]
    exact Nat.mul_le_mul ih (h2 n (Nat.lt_succ_self n))
noncomputable def wt(A:Rows)(top p i:Nat):Nat:=if top≤i∧g A i p≠0 then 2*(g A i p).natAbs else 1
theorem Bh(A:Rows)(top p i:Nat):1≤wt A top p i:=by
 unfold wt
 split<;>omega
theorem zx{x y:Int}(hy:y≠0):2*(x-qn x y*y).natAbs≤y.natAbs:=by
 unfold qn
 have h1:=Int.mul_fdiv_add_fmod (2*x+y) (2*y)
 have h2:(2*x+y).fmod (2*y)=2*x+y-2*y*(2*x+y).fdiv (2*y):=by omega
 generalize(2*x+y).fdiv (2*y)=q at*
 have e:2*(x-q*y)=(2*x+y).fmod (2*y)-y:=by rw[h2];grind
 rcases Int.lt_or_gt_of_ne hy with h|h
 · have a0:=Int.neg_fmod_neg (2*x+y) (2*y)
   have a1:=Int.fmod_nonneg_of_pos (-(2*x+y)) (show 0< -(2*y) by omega)
   have a2:=Int.fmod_lt_of_pos (-(2*x+y)) (show 0< -(2*y) by omega)
   omega
 · have a1:=Int.fmod_nonneg_of_pos (2*x+y) (show 0<2*y by omega)
   have a2:=Int.fmod_lt_of_pos (2*x+y) (show 0<2*y by omega)
   omega
theorem Hc{x y:Int}(hy:y≠0)(hxy:y.natAbs≤x.natAbs):(1+(qn x y).natAbs)*(if x-qn x y*y≠0 then 2*(x-qn x y*y).natAbs else 1)≤2*x.natAbs:=by
 have h2:=zx (x:=x) hy
 generalize qn x y=q at*
 generalize hr:x-q*y=r at*
 have hx:x=q*y+r:=by omega
 have hq:(q*y).natAbs=q.natAbs*y.natAbs:=Int.natAbs_mul ..
 by_cases h0:r=0
 · rw[if_neg (fun z=>z h0),Nat.mul_one]
   subst h0
   have hxa:x.natAbs=q.natAbs*y.natAbs:=by rw[←hq,hx];simp
   have hy1:1≤y.natAbs:=by omega
   have hq1:1≤q.natAbs:=by
    rcases Nat.eq_zero_or_pos q.natAbs with z|z
    · rw[z,Nat.zero_mul]at hxa;omega
    · exact z
   have:q.natAbs≤q.natAbs*y.natAbs:=Nat.le_mul_of_pos_right _ hy1
   omega
 · rw[if_pos h0]
   have hr1:1≤r.natAbs:=by omega
   have key:(1+q.natAbs)*r.natAbs≤x.natAbs:=by
    rcases Nat.lt_or_ge q.natAbs 2 with hlt|hge
    · rcases Nat.lt_or_ge q.natAbs 1 with h|h
      · have z:q.natAbs=0:=by omega
        have zq:q=0:=by omega
        subst zq
        simp at hx
        subst hx
        simp
      · have z:q.natAbs=1:=by omega
        rw[z]at hq⊢
        have:(q*y).natAbs=y.natAbs:=by omega
        have h3:x.natAbs=y.natAbs+r.natAbs∨x.natAbs+r.natAbs=y.natAbs∨x.natAbs+y.natAbs=r.natAbs:=by omega
        omega
    · have h3:(q*y).natAbs≤x.natAbs+r.natAbs:=by omega
      rw[hq]at h3
      have h4:q.natAbs*(2*r.natAbs)≤q.natAbs*y.natAbs:=Nat.mul_le_mul_left _ h2
      have h5:2*r.natAbs≤q.natAbs*r.natAbs:=Nat.mul_le_mul_right _ hge
      have h6:q.natAbs*(2*r.natAbs)=q.natAbs*r.natAbs+q.natAbs*r.natAbs:=by rw[Nat.mul_left_comm];omega
      rw[Nat.add_mul,Nat.one_mul]
      omega
   have:(1+q.natAbs)*(2*r.natAbs)=2*((1+q.natAbs)*r.natAbs):=by rw[Nat.mul_left_comm]
   omega
structure sx(A0:Rows)(N w top p m:Nat)(b0 b:B3)(gr:Nat):Prop where
 tn:Tn A0 b.A b.U b.C N w
 up:∀i,i<top→b.A.getD i []=b0.A.getD i []∧b.U.getD i []=b0.U.getD i []∧b.C.getD i []=b0.C.getD i []
 lA:i_ b.A N top (m*gr)
 lU:i_ b.U N top (m*gr)
 lC:i_ b.C N top (m*gr)
 zs:∀i c,top≤i→i<N→c<p→g b.A i c=0
 L9:gr*PR (wt b.A top p) N≤PR (wt b0.A top p) N
 pos:1≤gr
 LM:b=b0∨∃j,top≤j∧j<N∧g b.A j p≠0
theorem sN{X:Rows}{N w top k j m gr:Nat}{q:Int}(hX:dJ N w X)(hk:k<N)(hj:j<N)(hkt:top≤k)(hjt:top≤j)(h:i_ X N top (m*gr)):i_ (bH X k q j) N top (m*(gr*(1+q.natAbs))):=fun i c hi hN=>by
 rw[fi hX hk hj]
 have e:m*(gr*(1+q.natAbs))=m*gr+q.natAbs*(m*gr):=by rw[←Nat.mul_assoc,Nat.mul_add,Nat.mul_one,Nat.mul_comm (m*gr) q.natAbs]
 rw[e]
 by_cases hik:i=k
 · rw[if_pos hik]
   have h1:=h k c hkt hk
   have h2:=h j c hjt hj
   have h3:(q*g X j c).natAbs≤q.natAbs*(m*gr):=by rw[Int.natAbs_mul];exact Nat.mul_le_mul_left _ h2
   omega
 · rw[if_neg hik]
   have:=h i c hi hN
   omega
theorem jx{X:Rows}{k j i:Nat}{q:Int}(hk:k<X.length)(h:i≠k):(bH X k q j).getD i []=X.getD i []:=by
 unfold bH
 rw[ko hk,if_neg h]
theorem sx.step{A0:Rows}{N w top p m gr:Nat}{b0 b:B3}{L:List Nat}{k j:Nat}(G:sx A0 N w top p m b0 b gr)(hp:p<w)(hL:g7 b.A N top p (L++[j,k])):
 sx A0 N w top p m b0 (jS b p k j) (gr*(1+(qn (g b.A k p) (g b.A j p)).natAbs))∧(g (jS b p k j).A k p).natAbs<(g b.A k p).natAbs∧(∀i,i≠k→g (jS b p k j).A i p=g b.A i p)∧top≤k∧k<N∧top≤j∧j<N∧j≠k∧g b.A j p≠0:=by
 obtain⟨hk1,hk2,hk3⟩:=(hL.mem k).mp (by simp)
 obtain⟨hj1,hj2,hj3⟩:=(hL.mem j).mp (by simp)
 have hord:=hL.ord
 rw[List.pairwise_append]at hord
 have o2:=(List.pairwise_cons.mp hord.2.1).1 k (by simp)
 have hjk:j≠k:=by intro z;subst z;omega
 have hle:(g b.A j p).natAbs≤(g b.A k p).natAbs:=by omega
 have gk:g (jS b p k j).A k p=g b.A k p-qn (g b.A k p) (g b.A j p)*g b.A j p:=by
  show g (bH b.A k _ j) k p=_
  rw[fi G.tn.isA hk2 hj2,if_pos rfl]
 have gi:∀i,i≠k→g (jS b p k j).A i p=g b.A i p:=fun i hi=>by
  show g (bH b.A k _ j) i p=_
  rw[fi G.tn.isA hk2 hj2,if_neg hi]
 have hrest:=zx (x:=g b.A k p) hj3
 have hgrow:=Hc (x:=g b.A k p) hj3 hle
 refine⟨⟨G.tn.take hk2 hj2 hjk,fun i hi=>?_,sN G.tn.isA hk2 hj2 hk1 hj1 G.lA,sN G.tn.eH hk2 hj2 hk1 hj1 G.lU,?_,fun i c hi hN hc=>?_,?_,?_,.inr ⟨j,hj1,hj2,by rw[gi j hjk];exact hj3⟩⟩,?_,gi,hk1,hk2,hj1,hj2,hjk,hj3⟩
 · obtain⟨a1,a2,a3⟩:=G.up i hi
   refine⟨(jx (by rw[G.tn.isA.len];exact hk2) (by omega)).trans a1,(jx (by rw[G.tn.eH.len];exact hk2) (by omega)).trans a2,(jx (by rw[G.tn.fV.len];exact hj2) (by omega)).trans a3⟩
 · have:=sN (q:= -(qn (g b.A k p) (g b.A j p))) G.tn.fV hj2 hk2 hj1 hk1 G.lC
   rw[Int.natAbs_neg]at this
   exact this
 · show g (bH b.A k _ j) i c=0
   rw[fi G.tn.isA hk2 hj2]
   by_cases h:i=k
   · rw[if_pos h,G.zs k c hk1 hk2 hc,G.zs j c hj1 hj2 hc,Int.mul_zero];rfl
   · rw[if_neg h];exact G.zs i c hi hN hc
 · have e:=Bz (f:=wt (jS b p k j).A top p) (f':=wt b.A top p) (k:=k) hk2 fun i hi=>by unfold wt;rw[gi i hi]
   have w1:wt b.A top p k=2*(g b.A k p).natAbs:=by unfold wt;rw[if_pos ⟨hk1,hk3⟩]
   have w2:(1+(qn (g b.A k p) (g b.A j p)).natAbs)*wt (jS b p k j).A top p k≤wt b.A top p k:=by
    rw[w1]
    unfold wt
    rw[gk]
    by_cases h0:g b.A k p-qn (g b.A k p) (g b.A j p)*g b.A j p=0
    · rw[if_neg (fun z=>z.2 h0)]
      rw[if_neg (fun z=>z h0)]at hgrow
      exact hgrow
    · rw[if_pos ⟨hk1,h0⟩]
      rw[if_pos h0]at hgrow
      exact hgrow
   have hw:0<wt b.A top p k:=Bh _ _ _ _
   refine Nat.le_of_mul_le_mul_right (c:=wt b.A top p k) ?_ hw
   have s1:gr*(1+(qn (g b.A k p) (g b.A j p)).natAbs)*PR (wt (jS b p k j).A top p) N*wt b.A top p k=gr*PR (wt b.A top p) N*((1+(qn (g b.A k p) (g b.A j p)).natAbs)*wt (jS b p k j).A top p k):=by
    rw[Nat.mul_assoc _ (PR _ N),e]
    simp only[Nat.mul_assoc,Nat.mul_left_comm]
   rw[s1]
   exact Nat.mul_le_mul G.L9 w2
 · exact Nat.mul_pos G.pos (by omega)
 · rw[gk];omega
end Mx
namespace Mx
theorem sx.low{A0:Rows}{N w top p e gr:Nat}{b0 b:B3}(G:sx A0 N w top p (2^e) b0 b gr)(h0:i_ b0.A N top (2^e)):2^e*gr≤2^((N-top+1)*(e+1)):=by
 have h1:gr≤PR (wt b0.A top p) N:=Nat.le_trans (Nat.le_mul_of_pos_right _ (CY (Bh _ _ _) N)) G.L9
 have h2:PR (wt b0.A top p) N≤(2^(e+1))^(N-top):=Fj Nat.one_le_two_pow (fun i _ ht=>by unfold wt;rw[if_neg (by omega)];exact Nat.le_refl _) fun i hi=>by
  unfold wt
  split
  · rename_i h
    have:=h0 i p h.1 hi
    rw[Nat.pow_succ];omega
  · exact Nat.one_le_two_pow
 refine Nat.le_trans (Nat.mul_le_mul_left _ (Nat.le_trans h1 h2)) ?_
 rw[←Nat.pow_mul,←Nat.pow_add]
 refine Nat.pow_le_pow_right (by decide) ?_
 have e1:(N-top+1)*(e+1)=(e+1)*(N-top)+(e+1):=by rw[Nat.add_mul,Nat.one_mul,Nat.mul_comm]
 rw[e1]
 omega
structure jw(A0:Rows)(N w:Nat)(b:B3)(top p:Nat)(ld:Nat→Nat)(e u:Nat):Prop where
 tn:Tn A0 b.A b.U b.C N w
 le:top≤N
 lo:i_ b.A N top (2^e)∧i_ b.U N top (2^e)∧i_ b.C N top (2^e)
 hi:∀i c,i<top→(g b.A i c).natAbs≤2^u∧(g b.U i c).natAbs≤2^u∧(g b.C i c).natAbs≤2^u
 zs:∀i c,top≤i→i<N→c<p→g b.A i c=0
 lead:∀i,i<top→ld i<p∧0<g b.A i (ld i)∧∀c,c<ld i→g b.A i c=0
 mono:∀i j,i<j→j<top→ld i<ld j
 red:∀i j,i<j→j<top→0≤g b.A i (ld j)∧g b.A i (ld j)<g b.A j (ld j)
theorem jw.Nq{A0:Rows}{N w top p e u:Nat}{b:B3}{ld:Nat→Nat}(S:jw A0 N w b top p ld e u):sx A0 N w top p (2^e) b b 1:=
 ⟨S.tn,fun _ _=>⟨rfl,rfl,rfl⟩,by rw[Nat.mul_one];exact S.lo.1,by rw[Nat.mul_one];exact S.lo.2.1,by rw[Nat.mul_one];exact S.lo.2.2,S.zs,by rw[Nat.one_mul];exact Nat.le_refl _,Nat.le_refl _,.inl rfl⟩
theorem jw.skip{A0:Rows}{N w top p e u:Nat}{b:B3}{ld:Nat→Nat}(S:jw A0 N w b top p ld e u)(h:g7 b.A N top p []):jw A0 N w b top (p+1) ld e u:=
 ⟨S.tn,S.le,S.lo,S.hi,fun i c h1 h2 h3=>by
  by_cases hc:c=p
  · subst hc
    exact Classical.byContradiction fun z=>absurd ((h.mem i).mpr ⟨h1,h2,z⟩) (by simp)
  · exact S.zs i c h1 h2 (by omega),fun i hi=>⟨Nat.lt_succ_of_lt (S.lead i hi).1,(S.lead i hi).2⟩,S.mono,S.red⟩
noncomputable def setB(b:B3)(p top r:Nat):B3:=
 if g (bC b.A top r) top p<0 then⟨gp (bC b.A top r) top,gp (bC b.U top r) top,gp (bC b.C top r) top⟩else⟨bC b.A top r,bC b.U top r,bC b.C top r⟩
theorem sM{X:Rows}{N w top r m:Nat}(hX:dJ N w X)(ht:top<N)(hr:r<N)(hrt:top≤r)(h:i_ X N top m):i_ (bC X top r) N top m:=fun i c hi hN=>by
 rw[jE hX ht hr]
 refine h _ c ?_ (qv ht hr hN)
 unfold sw
 split
 · exact hrt
 · split
   · exact Nat.le_refl _
   · exact hi
theorem xO{X:Rows}{N w top m:Nat}(hX:dJ N w X)(ht:top<N)(h:i_ X N top m):i_ (gp X top) N top m:=fun i c hi hN=>by
 rw[jN hX ht]
 split
 · rw[Int.natAbs_neg];exact h top c (Nat.le_refl _) ht
 · exact h i c hi hN
theorem sQ{X:Rows}{N w top r i:Nat}(hX:dJ N w X)(ht:top<N)(hr:r<N)(hrt:top≤r)(hi:i<top):(bC X top r).getD i []=X.getD i []:=by
 rw[xj (by have:=hX.len;omega) (by have:=hX.len;omega)]
 unfold sw
 rw[if_neg (by omega),if_neg (by omega)]
theorem xI{X:Rows}{N w top i:Nat}(hX:dJ N w X)(ht:top<N)(hi:i<top):(gp X top).getD i []=X.getD i []:=by
 unfold gp
 rw[ko (by have:=hX.len;omega),if_neg (by omega)]
structure va(A0:Rows)(N w top p m:Nat)(b0 b:B3):Prop where
 tn:Tn A0 b.A b.U b.C N w
 up:∀i,i<top→b.A.getD i []=b0.A.getD i []∧b.U.getD i []=b0.U.getD i []∧b.C.getD i []=b0.C.getD i []
 lo:i_ b.A N top m∧i_ b.U N top m∧i_ b.C N top m
 zs:∀i c,top≤i→i<N→c<p→g b.A i c=0
 tp:0<g b.A top p
 z1:∀i,top<i→i<N→g b.A i p=0
theorem sx.set{A0:Rows}{N w top p m gr r:Nat}{b0 b:B3}(G:sx A0 N w top p m b0 b gr)(hL:g7 b.A N top p [r]):va A0 N w top p (m*gr) b0 (setB b p top r)∧top≤r∧r<N:=by
 obtain⟨hr1,hr2,hr3⟩:=(hL.mem r).mp (by simp)
 have ht:top<N:=by omega
 have z:∀i,top≤i→i<N→i≠r→g b.A i p=0:=fun i h1 h2 h3=>Classical.byContradiction fun y=>h3 (by simpa using(hL.mem i).mpr ⟨h1,h2,y⟩)
 have swg:∀i c,g (bC b.A top r) i c=g b.A (sw top r i) c:=fun i c=>jE G.tn.isA ht hr2 i c
 have gt:g (bC b.A top r) top p=g b.A r p:=by rw[swg];unfold sw;rw[if_pos rfl]
 have T1:=G.tn.EN ht hr2
 have z1:∀i,top<i→i<N→g (bC b.A top r) i p=0:=fun i h1 h2=>by
  rw[swg]
  unfold sw
  rw[if_neg (by omega)]
  by_cases h:i=r
  · rw[if_pos h];exact z top (Nat.le_refl _) ht (by omega)
  · rw[if_neg h];exact z i (by omega) h2 h
 have zs:∀i c,top≤i→i<N→c<p→g (bC b.A top r) i c=0:=fun i c h1 h2 h3=>by
  rw[swg]
  refine G.zs _ c ?_ (qv ht hr2 h2) h3
  unfold sw
  split
  · exact hr1
  · split
    · exact Nat.le_refl _
    · exact h1
 have up:∀i,i<top→(bC b.A top r).getD i []=b0.A.getD i []∧(bC b.U top r).getD i []=b0.U.getD i []∧(bC b.C top r).getD i []=b0.C.getD i []:=fun i hi=>by
  obtain⟨a1,a2,a3⟩:=G.up i hi
  exact⟨(sQ G.tn.isA ht hr2 hr1 hi).trans a1,(sQ G.tn.eH ht hr2 hr1 hi).trans a2,(sQ G.tn.fV ht hr2 hr1 hi).trans a3⟩
 have lo:=And.intro (sM G.tn.isA ht hr2 hr1 G.lA) (And.intro (sM G.tn.eH ht hr2 hr1 G.lU) (sM G.tn.fV ht hr2 hr1 G.lC))
 refine⟨?_,hr1,hr2⟩
 unfold setB
 by_cases hs:g (bC b.A top r) top p<0
 · rw[if_pos hs]
   refine⟨T1.neg ht,fun i hi=>?_,⟨xO T1.isA ht lo.1,xO T1.eH ht lo.2.1,xO T1.fV ht lo.2.2⟩,fun i c h1 h2 h3=>?_,?_,fun i h1 h2=>?_⟩
   · obtain⟨a1,a2,a3⟩:=up i hi
     exact⟨(xI T1.isA ht hi).trans a1,(xI T1.eH ht hi).trans a2,(xI T1.fV ht hi).trans a3⟩
   · show g (gp (bC b.A top r) top) i c=0
     rw[jN T1.isA ht]
     split
     · rw[zs top c (Nat.le_refl _) ht h3];rfl
     · exact zs i c h1 h2 h3
   · show 0<g (gp (bC b.A top r) top) top p
     rw[jN T1.isA ht,if_pos rfl];omega
   · show g (gp (bC b.A top r) top) i p=0
     rw[jN T1.isA ht,if_neg (by omega)];exact z1 i h1 h2
 · rw[if_neg hs]
   exact⟨T1,up,lo,zs,by show 0<g (bC b.A top r) top p;rw[gt]at hs⊢;omega,z1⟩
noncomputable def lJ(p top:Nat):Nat→B3→B3
 |0,b=>b
 |k+1,b=>
  let c:=lJ p top k b
  ⟨bH c.A k ((g c.A k p).fdiv (g c.A top p)) top,bH c.U k ((g c.A k p).fdiv (g c.A top p)) top,bH c.C top (-((g c.A k p).fdiv (g c.A top p))) k⟩
structure oZ(A0:Rows)(N w top p e u:Nat)(b:B3)(k:Nat)(c:B3):Prop where
 tn:Tn A0 c.A c.U c.C N w
 rA:∀i,k≤i→c.A.getD i []=b.A.getD i []∧c.U.getD i []=b.U.getD i []
 rC:∀i,i≠top→c.C.getD i []=b.C.getD i []
 ah:∀i q,i<k→q<p→g c.A i q=g b.A i q
 rd:∀i,i<k→0≤g c.A i p∧g c.A i p<g c.A top p
 sz:∀i q,i<k→(g c.A i q).natAbs≤2^(u+e+1)∧(g c.U i q).natAbs≤2^(u+e+1)
 sC:∀q,(g c.C top q).natAbs≤2^e+k*2^(u+u)
theorem kl(a:Int){b:Int}(hb:0<b):(a.fdiv b).natAbs≤a.natAbs:=by
 have h1:=Int.mul_fdiv_add_fmod a b
 have h2:=Int.fmod_nonneg_of_pos a hb
 have h3:=Int.fmod_lt_of_pos a hb
 generalize a.fdiv b=q at*
 rcases Int.lt_trichotomy q 0 with h|h|h
 · have h4:0≤(b-1)*(-q-1):=Int.mul_nonneg (by omega) (by omega)
   have e:(b-1)*(-q-1)= -(b*q)-b+q+1:=by grind
   omega
 · subst h;simp
 · have:q≤b*q:=by
    have:0≤(b-1)*q:=Int.mul_nonneg (by omega) (by omega)
    grind
   omega
theorem oZ.step{A0:Rows}{N w top p e u k:Nat}{b c:B3}(I:oZ A0 N w top p e u b k c)(hk:k<top)(ht:top<N)(hp:p<w)(htp:0<g b.A top p)(hz:∀q,q<p→g b.A top q=0)
 (hlo:∀q,(g b.A top q).natAbs≤2^e∧(g b.U top q).natAbs≤2^e) (hhi:∀i q,i<top→(g b.A i q).natAbs≤2^u∧(g b.U i q).natAbs≤2^u∧(g b.C i q).natAbs≤2^u):
 oZ A0 N w top p e u b (k+1) ⟨bH c.A k ((g c.A k p).fdiv (g c.A top p)) top,bH c.U k ((g c.A k p).fdiv (g c.A top p)) top,bH c.C top (-((g c.A k p).fdiv (g c.A top p))) k⟩:=by
 have hkN:k<N:=by omega
 have gA:∀i q,k≤i→g c.A i q=g b.A i q:=fun i q hi=>by unfold g;rw[(I.rA i hi).1]
 have gU:∀i q,k≤i→g c.U i q=g b.U i q:=fun i q hi=>by unfold g;rw[(I.rA i hi).2]
 have gC:∀i q,i≠top→g c.C i q=g b.C i q:=fun i q hi=>by unfold g;rw[I.rC i hi]
 have qe:((g c.A k p).fdiv (g c.A top p)).natAbs≤2^u:=by
  rw[gA k p (Nat.le_refl _),gA top p (by omega)]
  exact Nat.le_trans (kl _ htp) (hhi k p hk).1
 have hq:∀x:Int,x.natAbs≤2^e→((g c.A k p).fdiv (g c.A top p)*x).natAbs≤2^(u+e):=fun x hx=>by
  rw[Int.natAbs_mul,Nat.pow_add];exact Nat.mul_le_mul qe hx
 have le1:2^u≤2^(u+e):=Nat.pow_le_pow_right (by decide) (by omega)
 refine⟨I.tn.take hkN ht (by omega),fun i hi=>?_,fun i hi=>?_,fun i q hi hqp=>?_,fun i hi=>?_,fun i q hi=>?_,fun q=>?_⟩
 · exact⟨(jx (by rw[I.tn.isA.len];exact hkN) (by omega)).trans (I.rA i (by omega)).1,(jx (by rw[I.tn.eH.len];exact hkN) (by omega)).trans (I.rA i (by omega)).2⟩
 · exact(jx (by rw[I.tn.fV.len];exact ht) hi).trans (I.rC i hi)
 · show g (bH c.A k _ top) i q=_
   rw[fi I.tn.isA hkN ht]
   split
   · rename_i h
     rw[gA top q (by omega),hz q hqp,Int.mul_zero,gA k q (Nat.le_refl _),h];omega
   · exact I.ah i q (by omega) hqp
 · show 0≤g (bH c.A k _ top) i p∧g (bH c.A k _ top) i p<g (bH c.A k _ top) top p
   rw[fi I.tn.isA hkN ht,fi I.tn.isA hkN ht,if_neg (show¬top=k by omega)]
   split
   · have h1:=Int.mul_fdiv_add_fmod (g c.A k p) (g c.A top p)
     have htp':0<g c.A top p:=by rw[gA top p (by omega)];exact htp
     have h2:=Int.fmod_nonneg_of_pos (g c.A k p) htp'
     have h3:=Int.fmod_lt_of_pos (g c.A k p) htp'
     rw[Int.mul_comm]at h1
     omega
   · exact I.rd i (by omega)
 · show(g (bH c.A k _ top) i q).natAbs≤_∧(g (bH c.U k _ top) i q).natAbs≤_
   rw[fi I.tn.isA hkN ht,fi I.tn.eH hkN ht]
   split
   · have a1:=hq (g c.A top q) (by rw[gA top q (by omega)];exact(hlo q).1)
     have a2:=hq (g c.U top q) (by rw[gU top q (by omega)];exact(hlo q).2)
     rw[gA k q (Nat.le_refl _),gU k q (Nat.le_refl _)]
     have b1:=(hhi k q hk).1
     have b2:=(hhi k q hk).2.1
     rw[Nat.pow_succ]
     omega
   · exact I.sz i q (by omega)
 · show(g (bH c.C top _ k) top q).natAbs≤_
   rw[fi I.tn.fV ht hkN,if_pos rfl,gC k q (by omega),Int.neg_mul]
   have a1:=I.sC q
   have a2:((g c.A k p).fdiv (g c.A top p)*g b.C k q).natAbs≤2^(u+u):=by
    rw[Int.natAbs_mul,Nat.pow_add];exact Nat.mul_le_mul qe (hhi k q hk).2.2
   rw[Nat.add_mul,Nat.one_mul]
   omega
theorem oZ.start{A0:Rows}{N w top p e u:Nat}{b:B3}(T:Tn A0 b.A b.U b.C N w)(h:∀q,(g b.C top q).natAbs≤2^e):oZ A0 N w top p e u b 0 b:=
 ⟨T,fun _ _=>⟨rfl,rfl⟩,fun _ _=>rfl,fun _ _ h=>absurd h (Nat.not_lt_zero _),fun _ h=>absurd h (Nat.not_lt_zero _),fun _ _ h=>absurd h (Nat.not_lt_zero _),fun q=>by rw[Nat.zero_mul];exact h q⟩
theorem va.next{A0:Rows}{N w top p e u e' u':Nat}{b0 b c:B3}{ld:Nat→Nat}(S:jw A0 N w b0 top p ld e u)(s:va A0 N w top p (2^e') b0 b)(ht:top<N)(I:oZ A0 N w top p e' u b top c)(hN:N≤8)
 (h1:u+e'+1≤u') (h2:u+u+4≤u'):jw A0 N w c (top+1) (p+1) (fun i=>if i=top then p else ld i) e' u':=by
 have hup:∀i q,i<top→g b.A i q=g b0.A i q:=fun i q hi=>by unfold g;rw[(s.up i hi).1]
 have hA:∀i q,top≤i→g c.A i q=g b.A i q:=fun i q hi=>by unfold g;rw[(I.rA i hi).1]
 have hU:∀i q,top≤i→g c.U i q=g b.U i q:=fun i q hi=>by unfold g;rw[(I.rA i hi).2]
 have hC:∀i q,i≠top→g c.C i q=g b.C i q:=fun i q hi=>by unfold g;rw[I.rC i hi]
 have le:∀ {a x:Nat},a≤2^x→x≤u'→a≤2^u':=fun h hx=>Nat.le_trans h (Nat.pow_le_pow_right (by decide) hx)
 refine⟨I.tn,ht,⟨fun i q hi hN=>?_,fun i q hi hN=>?_,fun i q hi hN=>?_⟩,fun i q hi=>?_,fun i q hi hN hq=>?_,fun i hi=>?_,fun i j hij hj=>?_,fun i j hij hj=>?_⟩
 · rw[hA i q (by omega)];exact s.lo.1 i q (by omega) hN
 · rw[hU i q (by omega)];exact s.lo.2.1 i q (by omega) hN
 · rw[hC i q (by omega)];exact s.lo.2.2 i q (by omega) hN
 · by_cases h:i=top
   · subst h
     refine⟨?_,?_,?_⟩
     · rw[hA i q (Nat.le_refl _)];exact le (s.lo.1 i q (Nat.le_refl _) ht) (by omega)
     · rw[hU i q (Nat.le_refl _)];exact le (s.lo.2.1 i q (Nat.le_refl _) ht) (by omega)
     · have h3:=I.sC q
       have h4:i*2^(u+u)≤2^(u+u+3):=by rw[Nat.pow_add _ _ 3,Nat.mul_comm];exact Nat.mul_le_mul_left _ (by omega)
       have h5:2^(u+u+3)*2≤2^u':=by rw[←Nat.pow_succ];exact Nat.pow_le_pow_right (by decide) h2
       have h6:2^e'*2≤2^u':=by rw[←Nat.pow_succ];exact Nat.pow_le_pow_right (by decide) (by omega)
       omega
   · have hi':i<top:=by omega
     refine⟨le (I.sz i q hi').1 h1,le (I.sz i q hi').2 h1,?_⟩
     rw[hC i q h]
     have:g b.C i q=g b0.C i q:=by unfold g;rw[(s.up i hi').2.2]
     rw[this]
     exact le (S.hi i q hi').2.2 (by omega)
 · rw[hA i q (by omega)]
   by_cases h:q=p
   · rw[h];exact s.z1 i (by omega) hN
   · exact s.zs i q (by omega) hN (by omega)
 · by_cases h:i=top
   · subst h
     rw[if_pos rfl]
     refine⟨Nat.lt_succ_self p,?_,fun q hq=>?_⟩
     · rw[hA i p (Nat.le_refl _)];exact s.tp
     · rw[hA i q (Nat.le_refl _)];exact s.zs i q (Nat.le_refl _) ht hq
   · have hi':i<top:=by omega
     rw[if_neg h]
     obtain⟨a1,a2,a3⟩:=S.lead i hi'
     refine⟨Nat.lt_succ_of_lt a1,?_,fun q hq=>?_⟩
     · rw[I.ah i _ hi' a1,hup i _ hi'];exact a2
     · rw[I.ah i _ hi' (Nat.lt_trans hq a1),hup i _ hi'];exact a3 q hq
 · by_cases h:j=top
   · rw[if_pos h,if_neg (by omega)];exact(S.lead i (by omega)).1
   · rw[if_neg h,if_neg (by omega)];exact S.mono i j hij (by omega)
 · by_cases h:j=top
   · subst h
     rw[if_pos rfl]
     exact I.rd i hij
   · have hj':j<top:=by omega
     rw[if_neg h]
     have:=S.red i j hij hj'
     have hl:=(S.lead j hj').1
     rw[I.ah i _ (by omega) hl,I.ah j _ hj' hl,hup i _ (by omega),hup j _ hj']
     exact this
theorem Tn.start{A:Rows}{N w:Nat}(hA:dJ N w A):Tn A A (units N) (units N) N w where
 isA:=hA
 eH:=td N
 fV:=td N
 ua:=fun i c hi hc=>by
  rw[←oz hi fun k=>g A k c]
  exact aP fun m hm=>by rw[kq hi hm]
 ub:=fun i j hi hj=>by
  rw[vh i j,←oz hi fun k=>dl j k]
  · exact aP fun m hm=>by rw[kq hi hm,kq hj hm]
 bu:=fun i j hi hj=>by
  rw[←p9 hi fun k=>dl k j]
  exact aP fun m hm=>by rw[kq hm hi,kq hm hj,Int.mul_comm]
theorem jw.start{A:Rows}{N w e:Nat}(hA:dJ N w A)(h:i_ A N 0 (2^e)):jw A N w ⟨A,units N,units N⟩ 0 0 (fun _=>0) e 0:=by
 have hu:i_ (units N) N 0 (2^e):=fun i c _ hi=>by
  by_cases hc:c<N
  · rw[kq hi hc]
    unfold dl
    split
    · exact Nat.one_le_two_pow
    · exact Nat.zero_le _
  · unfold g
    rw[mv (l:=(units N).getD i []) (by rw[cP (td N) hi];omega)]
    exact Nat.zero_le _
 exact⟨Tn.start hA,Nat.zero_le _,⟨h,hu,hu⟩,fun _ _ h=>absurd h (Nat.not_lt_zero _),fun _ _ _ _ h=>absurd h (Nat.not_lt_zero _),fun _ h=>absurd h (Nat.not_lt_zero _),fun _ _ _ h=>absurd h (Nat.not_lt_zero _),fun _ _ _ h=>absurd h (Nat.not_lt_zero _)⟩
end Mx
namespace Mx
noncomputable def SU(f:Nat→Nat):Nat→Nat
 |0=>0
 |n+1=>SU f n+f n
theorem E3{f f':Nat→Nat}:∀ {n:Nat},(∀i,i<n→f' i≤f i)→SU f' n≤SU f n
 |0,_=>Nat.le_refl _
 |n+1,h=>Nat.add_le_add (E3 fun i hi=>h i (Nat.lt_succ_of_lt hi)) (h n (Nat.lt_succ_self n))
theorem FG{f f':Nat→Nat}{k:Nat}(hlt:f' k<f k):∀ {n:Nat},k<n→(∀i,i<n→f' i≤f i)→SU f' n<SU f n
 |0,hk,_=>absurd hk (Nat.not_lt_zero _)
 |n+1,hk,h=>by
  by_cases e:k=n
  · subst e
    exact Nat.add_lt_add_of_le_of_lt (E3 fun i hi=>h i (Nat.lt_succ_of_lt hi)) hlt
  · exact Nat.add_lt_add_of_lt_of_le (FG hlt (by omega) fun i hi=>h i (Nat.lt_succ_of_lt hi)) (h n (Nat.lt_succ_self n))
noncomputable def mu(A:Rows)(N p:Nat):Nat:=SU (fun i=>(g A i p).natAbs) N
inductive zJ(N p:Nat):Nat→B3→Nat→B3→Prop
 |none {top:Nat} {b:B3} (h:g7 b.A N top p []):zJ N p top b top b
 |one {top r:Nat} {b c:B3} (h:fP N top p b c) (l:g7 c.A N top p [r]):zJ N p top b (top+1) (lJ p top top (setB c p top r))
theorem zJ.unique{N p t t1 t2:Nat}{b b1 b2:B3}(h:zJ N p t b t1 b1)(h':zJ N p t b t2 b2):t1=t2∧b1=b2:=by
 have no:∀ {c:B3} {r:Nat},g7 b.A N t p []→fP N t p b c→g7 c.A N t p [r]→False:=fun{c r} h g l=>by
  cases g with
  |refl=>have:=h.unique l;cases this
  |head s _=>exact ud.stop ⟨[],h,by simp⟩ s
 cases h with
 |none h=>
  cases h' with
  |none _=>exact⟨rfl,rfl⟩
  |one g l=>exact(no h g l).elim
 |one g l=>
  cases h' with
  |none h=>exact(no h g l).elim
  |one g' l'=>
   have e:=g.unique ⟨_,l,by simp⟩ g' ⟨_,l',by simp⟩
   subst e
   have e2:=l.unique l'
   cases e2
   exact⟨rfl,rfl⟩
inductive mT(A:Rows)(N:Nat):Nat→Nat→B3→Prop
 |start:mT A N 0 0 ⟨A,units N,units N⟩
 |next {p t t':Nat} {b b':B3} (h:mT A N p t b) (c:zJ N p t b t' b'):mT A N (p+1) t' b'
theorem mT.unique{A:Rows}{N:Nat}:∀ {p t1 t2:Nat} {b1 b2:B3},mT A N p t1 b1→mT A N p t2 b2→t1=t2∧b1=b2
 |0,_,_,_,_,.start,.start=>⟨rfl,rfl⟩
 |p+1,_,_,_,_,.next h c,.next h' c'=>by
  obtain⟨rfl,rfl⟩:=mT.unique h h'
  exact c.unique c'
noncomputable def Ez(N e0:Nat):Nat→Nat
 |0=>e0
 |t+1=>(N-t+1)*(Ez N e0 t+1)
noncomputable def Vz(N e0:Nat):Nat→Nat
 |0=>0
 |t+1=>Vz N e0 t+Vz N e0 t+Ez N e0 (t+1)+5
theorem HE:∀N,N<9→∀t,t<N+1→Ez N 48 t≤50000000∧Vz N 48 t≤60000000:=by decide+kernel
end Mx
namespace Mx
noncomputable def iX(X:Rows)(n w:Nat)(v:Nat→Int):Prop:=∃z:Nat→Int,∀c,c<w→v c=S n fun k=>z k*g X k c
theorem iX.row{X:Rows}{n w k:Nat}(hk:k<n):iX X n w (g X k):=⟨fun i=>dl k i,fun c _=>(oz hk fun i=>g X i c).symm⟩
structure fj(X:Rows)(n w:Nat)(ld:Nat→Nat):Prop where
 lead:∀i,i<n→ld i<w∧0<g X i (ld i)∧∀c,c<ld i→g X i c=0
 mono:∀i j,i<j→j<n→ld i<ld j
theorem fj.inj{X:Rows}{n w:Nat}{ld:Nat→Nat}(s:fj X n w ld){i j:Nat}(hi:i<n)(hj:j<n)(h:ld i=ld j):i=j:=by
 rcases Nat.lt_trichotomy i j with q|q|q
 · exact absurd h (Nat.ne_of_lt (s.mono i j q hj))
 · exact q
 · exact absurd h.symm (Nat.ne_of_lt (s.mono j i q hi))
end Mx
namespace Mx
end Mx
namespace Mx
noncomputable def nl(A:Rows)(N t p:Nat):Nat:=SU (fun i=>if t≤i∧g A i p≠0 then 1 else 0) N
end Mx
namespace Mx
end Mx
namespace Mx
end Mx
namespace Mx
theorem oP{X:Rows}{n i q:Nat}(h:i<n):g (X.take n) i q=g X i q:=by
 unfold g
 rw[List.getD_eq_getElem?_getD (l:=X.take n),List.getD_eq_getElem?_getD (l:=X),List.getElem?_take_of_lt h]
end Mx
namespace Mx
end Mx
namespace Mx
theorem iX.HD{X:Rows}{n w:Nat}{u v:Nat→Int}(x:Int)(hu:iX X n w u)(hv:iX X n w v):iX X n w fun c=>u c+x*v c:=by
 obtain⟨y,hy⟩:=hu
 obtain⟨z,hz⟩:=hv
 refine⟨fun k=>y k+x*z k,fun c hc=>?_⟩
 show u c+x*v c=S n fun k=>(y k+x*z k)*g X k c
 rw[hy c hc,hz c hc,←fQ,←jd]
 exact aP fun k _=>by rw[Int.add_mul,Int.mul_assoc]
theorem iX.eq{X:Rows}{n w:Nat}{u v:Nat→Int}(hu:iX X n w u)(h:∀c,c<w→v c=u c):iX X n w v:=by
 obtain⟨y,hy⟩:=hu
 exact⟨y,fun c hc=>(h c hc).trans (hy c hc)⟩
theorem iX.zero{X:Rows}{n w:Nat}{v:Nat→Int}(h:∀c,c<w→v c=0):iX X n w v:=
 ⟨fun _=>0,fun c hc=>by rw[h c hc,oS fun k _=>Int.zero_mul _]⟩
end Mx
namespace Mx
theorem oQ{X:Rows}{r:Row}{k:Nat}(hk:k≤X.length)(i:Nat):(X.take k++r::X.drop k).getD i []=if i<k then X.getD i []else if i=k then r else X.getD (i-1) []:=by
 have lt:(X.take k).length=k:=by rw[List.length_take];omega
 rw[List.getD_eq_getElem?_getD,List.getD_eq_getElem?_getD,List.getD_eq_getElem?_getD]
 by_cases h:i<k
 · rw[if_pos h,List.getElem?_append_left (by rw[lt];exact h),List.getElem?_take_of_lt h]
 · rw[if_neg h,List.getElem?_append_right (by rw[lt];omega),lt]
   by_cases h2:i=k
   · rw[if_pos h2,h2,Nat.sub_self];rfl
   · rw[if_neg h2]
     have:i-k=(i-1-k)+1:=by omega
     rw[this,List.getElem?_cons_succ,List.getElem?_drop]
     congr 2;omega
end Mx
namespace Mx
end Mx
namespace Mx
end Mx
namespace Mx
structure se(F:Rows)(w:Nat)(ld:Nat→Nat)(row:Nat→Int)(i:Nat)(o:Int)(L:Nat→Int):Prop where
 pos:0<o
 sum:iX F i w fun c=>o*row c-L c
 off:∀k,k<i→L (ld k)=0
 least:∀(m:Int) (v:Nat→Int),iX F i w v→(∀k,k<i→m*row (ld k)=v (ld k))→o∣m
structure wW(F:Rows)(n w:Nat)(ld:Nat→Nat)(row:Nat→Int)(i:Nat)(L:Nat→Int):Prop where
 sum:iX F n w fun c=>row c-L c
 red:∀k,k<i→0≤L (ld k)∧L (ld k)<g F k (ld k)
theorem wW.start{F:Rows}{n w:Nat}{ld:Nat→Nat}{row:Nat→Int}:wW F n w ld row 0 row:=⟨iX.zero fun c _=>Int.sub_self _,fun _ h=>absurd h (Nat.not_lt_zero _)⟩
theorem wW.step{F:Rows}{n w i:Nat}{ld:Nat→Nat}{row L:Nat→Int}(s:fj F n w ld)(hi:i<n)(f:wW F n w ld row i L):wW F n w ld row (i+1) fun c=>L c-(L (ld i)).fdiv (g F i (ld i))*g F i c:=by
 obtain⟨l1,l2,l3⟩:=s.lead i hi
 refine⟨(f.sum.HD ((L (ld i)).fdiv (g F i (ld i))) (iX.row hi)).eq fun c _=>by omega,fun k hk=>?_⟩
 show 0≤L (ld k)-_*g F i (ld k)∧L (ld k)-_*g F i (ld k)<_
 rcases Nat.lt_or_ge k i with h|h
 · rw[l3 _ (s.mono k i h hi),Int.mul_zero,Int.sub_zero]
   exact f.red k h
 · have:k=i:=Nat.le_antisymm (Nat.le_of_lt_succ hk) h
   subst this
   have e:=Int.fmod_add_mul_fdiv (L (ld k)) (g F k (ld k))
   have a:=Int.fmod_nonneg_of_pos (L (ld k)) l2
   have b:=Int.fmod_lt_of_pos (L (ld k)) l2
   rw[Int.mul_comm]at e
   omega
end Mx
namespace Mx
theorem xC{K m:Nat}:∀ {n:Nat} {M:Fn},n≤K→(∀r c,r<n→c<n→(M r c).natAbs≤m)→(D n M).natAbs≤(K*m)^n
 |0,_,_,_=>by simp[D]
 |n+1,M,hn,h=>by
  rw[dv]
  have key:∀j,j<n+1→(sg j*M 0 j*D n fun r c=>M (r+1) (sk j c)).natAbs≤m*(K*m)^n:=fun j hj=>by
   have a:=xC (K:=K) (m:=m) (n:=n) (M:=fun r c=>M (r+1) (sk j c)) (by omega) fun r c hr hc=>h (r+1) (sk j c) (by omega) (jJ hc)
   have b:=h 0 j (by omega) hj
   have s:(sg j).natAbs=1:=by unfold sg;split<;>rfl
   rw[Int.natAbs_mul,Int.natAbs_mul,s,Nat.one_mul]
   exact Nat.mul_le_mul b a
  refine Nat.le_trans (Fh key) ?_
  rw[Nat.pow_succ,Nat.mul_comm ((K*m)^n),Nat.mul_assoc]
  exact Nat.mul_le_mul_right _ hn
theorem pick{t N:Nat}{U B:Fn}(h:∀k l,k<t→l<t→S N (fun i=>U k i*B i l)=dl k l):∃I:Nat→Nat,(∀k,k<t→I k<N)∧D t (fun k l=>B (I k) l)≠0:=by
 apply Classical.byContradiction
 intro no
 have go:∀s,s≤t→∀I:Nat→Nat,(∀k,k<t→s≤k→I k<N)→D t (fun k l=>if k<s then dl k l else B (I k) l)=0:=by
  intro s
  induction s with
  |zero=>
   intro _ I hI
   exact Classical.byContradiction fun z=>no ⟨I,fun k hk=>hI k hk (Nat.zero_le _),z⟩
  |succ s ih=>
   intro hs I hI
   have e:D t (fun k l=>if k<s+1 then dl k l else B (I k) l)=D t (upd (fun k l=>if k<s then dl k l else B (I k) l) s fun l=>S N fun j=>U s j*B j l):=de fun k l hk hl=>by
    unfold upd
    by_cases h1:k=s
    · subst h1
      rw[if_pos rfl,if_pos (Nat.lt_succ_self _)]
      exact(h k l hk hl).symm
    · rw[if_neg h1]
      show _=if k<s then dl k l else B (I k) l
      by_cases h2:k<s
      · rw[if_pos (by omega),if_pos h2]
      · rw[if_neg (by omega),if_neg h2]
   rw[e,(rq t).uE (by omega)]
   refine oS fun j hj=>?_
   have e2:=ih (by omega) (fun k=>if k=s then j else I k) fun k hk hsk=>by
    by_cases h1:k=s
    · rw[if_pos h1];exact hj
    · rw[if_neg h1];exact hI k hk (by omega)
   have e3:D t (upd (fun k l=>if k<s then dl k l else B (I k) l) s (B j))=D t (fun k l=>if k<s then dl k l else B (if k=s then j else I k) l):=de fun k l hk hl=>by
    unfold upd
    by_cases h1:k=s
    · subst h1
      rw[if_pos rfl,if_neg (Nat.lt_irrefl _),if_pos rfl]
    · rw[if_neg h1,if_neg h1]
   rw[e3,e2,Int.mul_zero]
 have z:=go t (Nat.le_refl _) (fun _=>0) fun k h1 h2=>absurd h1 (Nat.not_lt.mpr h2)
 rw[de (M':=dl) fun r c hr hc=>if_pos hr,u7]at z
 exact absurd z (by decide)
theorem yv:∀ {n:Nat} {f:Nat→Int},(∀i,i<n→0<f i)→0<Pr n f
 |0,_,_=>show(0:Int)<1 by decide
 |n+1,f,h=>Int.mul_pos (yv fun i hi=>h i (Nat.lt_succ_of_lt hi)) (h n (Nat.lt_succ_self n))
theorem EV:∀ {n:Nat} {f:Nat→Int},(∀i,i<n→0<f i)→∀k,k<n→f k≤Pr n f
 |n+1,f,h,k,hk=>by
  have p:=yv fun i hi=>h i (Nat.lt_succ_of_lt hi)
  have q:=h n (Nat.lt_succ_self n)
  show f k≤Pr n f*f n
  by_cases e:k=n
  · subst e
    have:=Int.mul_le_mul_of_nonneg_right (show(1:Int)≤Pr k f from p) (Int.le_of_lt q)
    omega
  · have a:=EV (fun i hi=>h i (Nat.lt_succ_of_lt hi)) k (by omega)
    have:=Int.mul_le_mul_of_nonneg_left (show(1:Int)≤f n from q) (Int.le_of_lt p)
    omega
theorem uj{w x:Int}{m:Nat}(hw:w≠0)(h:(w*x).natAbs≤m):x.natAbs≤m:=by
 rw[Int.natAbs_mul]at h
 exact Nat.le_trans (Nat.le_mul_of_pos_left _ (by omega)) h
theorem BM{b i j:Nat}(h:1≤b)(l:i≤j):(9*b)^i≤(9*b)^j:=Nat.pow_le_pow_right (by omega) l
theorem EE{A F U B:Fn}{N w t b:Nat}{ld:Nat→Nat}(t8:t≤8)(b1:1≤b)(hA:∀i c,i<N→c<w→(A i c).natAbs≤b)(hAF:∀i c,i<N→c<w→A i c=S t fun k=>B i k*F k c)(hUB:∀k l,k<t→l<t→S N (fun i=>U k i*B i l)=dl k l)(lead:∀i,i<t→ld i<w∧0<F i (ld i)∧∀c,c<ld i→F i c=0)(mono:∀i j,i<j→j<t→ld i<ld j)(red:∀i j,i<j→j<t→0≤F i (ld j)∧F i (ld j)<F j (ld j)):
 Pr t (fun i=>F i (ld i))≤((9*b)^8:Nat)∧∀k c,k<t→c<w→(F k c).natAbs≤8*((9*b)^9*(9*b)^8):=by
 obtain⟨I,hI,hw⟩:=pick hUB
 have eE:D t (fun k l=>F k (ld l))=Pr t fun i=>F i (ld i):=MS fun r c hr hc h=>(lead r hr).2.2 _ (mono c r h hr)
 have pos:0<Pr t fun i=>F i (ld i):=yv fun i hi=>(lead i hi).2.1
 have eM:D t (fun k l=>A (I k) (ld l))=D t (fun k l=>B (I k) l)*D t fun k l=>F k (ld l):=by
  rw[←Fm]
  exact de fun k l hk hl=>hAF _ _ (hI k hk) (lead l hl).1
 have bM:(D t (fun k l=>A (I k) (ld l))).natAbs≤(9*b)^t:=xC (K:=9) (by omega) fun r c hr hc=>hA _ _ (hI r hr) (lead c hc).1
 rw[eM,eE]at bM
 have bP:(Pr t fun i=>F i (ld i)).natAbs≤(9*b)^8:=Nat.le_trans (uj hw bM) (BM b1 t8)
 refine⟨by omega,fun k c hk hc=>?_⟩
 have bF:∀l,l<t→(F k (ld l)).natAbs≤(9*b)^8:=fun l hl=>by
  have p:=EV (f:=fun i=>F i (ld i)) (fun i hi=>(lead i hi).2.1) l hl
  rcases Nat.lt_trichotomy k l with h|h|h
  · have:=red k l h hl
    have p':F l (ld l)≤Pr t fun i=>F i (ld i):=p
    omega
  · subst h
    have q:=(lead k hk).2.1
    have p':F k (ld k)≤Pr t fun i=>F i (ld i):=p
    omega
  · rw[(lead k hk).2.2 _ (mono l k h hk)];exact Nat.zero_le _
 have e0:=Lb (fun l k=>F k (ld l)) t (fun k=>F k c) k
 rw[J3 hk]at e0
 have eT:D t (fun l k=>F k (ld l))=Pr t fun i=>F i (ld i):=by rw[←eE];exact x5 t fun k l=>F k (ld l)
 rw[eT]at e0
 have bB:∀l,l<t→(D t (fun k l=>B (I k) l)*bt (fun l k=>F k (ld l)) t (fun k=>F k c) l).natAbs≤(9*b)^9:=fun l hl=>by
  have eW:D (t+1) (fun i k=>if i=t then dl t k else if k=t then 0 else B (I i) k)=D t fun k l=>B (I k) l:=by
   rw[yC fun c _=>if_pos rfl]
   exact de fun r c hr hc=>by rw[if_neg (by omega),if_neg (by omega)]
  have eX:D (t+1) (upd (fun i r=>if r<t then A (I i) (ld r)else A (I i) c) t (dl l))=D t (fun k l=>B (I k) l)*bt (fun l k=>F k (ld l)) t (fun k=>F k c) l:=by
   unfold bt
   rw[←eW,←Fm]
   refine de fun i r hi hr=>?_
   by_cases h:i=t
   · subst h
     rw[cp]
     have:(S (i+1) fun k=>(if i=i then dl i k else if k=i then 0 else B (I i) k)*upd (fun c_1 r=>if r<i then F c_1 (ld r)else F c_1 c) i (dl l) k r)=S (i+1) fun k=>dl i k*upd (fun c_1 r=>if r<i then F c_1 (ld r)else F c_1 c) i (dl l) k r:=aP fun k _=>by rw[if_pos rfl]
     rw[this,oz (Nat.lt_succ_self i),cp]
   · have hi':i<t:=by omega
     rw[aC h]
     show _=(S t fun k=>(if i=t then dl t k else if k=t then 0 else B (I i) k)*upd (fun c_1 r=>if r<t then F c_1 (ld r)else F c_1 c) t (dl l) k r)+(if i=t then dl t t else if t=t then 0 else B (I i) t)*upd (fun c_1 r=>if r<t then F c_1 (ld r)else F c_1 c) t (dl l) t r
     have z:(if i=t then dl t t else if t=t then 0 else B (I i) t)*upd (fun c_1 r=>if r<t then F c_1 (ld r)else F c_1 c) t (dl l) t r=0:=by rw[if_neg h,if_pos rfl,Int.zero_mul]
     rw[z,Int.add_zero]
     have e2:∀k,k<t→(if i=t then dl t k else if k=t then 0 else B (I i) k)*upd (fun c_1 r=>if r<t then F c_1 (ld r)else F c_1 c) t (dl l) k r=B (I i) k*(if r<t then F k (ld r)else F k c):=fun k hk=>by
      rw[if_neg h,if_neg (by omega),aC (by omega)]
     rw[aP e2]
     by_cases hrt:r<t
     · rw[if_pos hrt,hAF _ _ (hI i hi') (lead r hrt).1]
       exact aP fun k _=>by rw[if_pos hrt]
     · rw[if_neg hrt,hAF _ _ (hI i hi') hc]
       exact aP fun k _=>by rw[if_neg hrt]
  rw[←eX]
  refine Nat.le_trans (xC (K:=9) (by omega) fun r q hr hq=>?_) (BM b1 (show t+1≤9 by omega))
  by_cases h:r=t
  · subst h
    rw[cp]
    unfold dl
    split<;>omega
  · rw[aC h]
    have hr':r<t:=by omega
    split
    · rename_i hq'
      exact hA _ _ (hI r hr') (lead q hq').1
    · exact hA _ _ (hI r hr') hc
 have e1:D t (fun k l=>B (I k) l)*(Pr t fun i=>F i (ld i))*F k c= -S t fun l=>(D t (fun k l=>B (I k) l)*bt (fun l k=>F k (ld l)) t (fun k=>F k c) l)*F k (ld l):=by
  have:(S t fun l=>(D t (fun k l=>B (I k) l)*bt (fun l k=>F k (ld l)) t (fun k=>F k c) l)*F k (ld l))=D t (fun k l=>B (I k) l)*S t fun l=>bt (fun l k=>F k (ld l)) t (fun k=>F k c) l*F k (ld l):=by
   rw[←fQ]
   exact aP fun l _=>Int.mul_assoc _ _ _
  rw[this,Int.mul_assoc,←Int.mul_neg]
  congr 1
  omega
 refine uj (w:=D t (fun k l=>B (I k) l)*(Pr t fun i=>F i (ld i))) (Int.mul_ne_zero hw (Int.ne_of_gt pos)) ?_
 rw[e1,Int.natAbs_neg]
 refine Nat.le_trans (Fh fun l hl=>?_) (Nat.mul_le_mul_right _ t8)
 rw[Int.natAbs_mul]
 exact Nat.mul_le_mul (bB l hl) (bF l hl)
theorem jw.back{A0:Rows}{N w top e u:Nat}{c:B3}{ld:Nat→Nat}(H:jw A0 N w c top w ld e u){i q:Nat}(hi:i<N)(hq:q<w):g A0 i q=S top fun k=>g c.C k i*g c.A k q:=by
 have T:=H.tn
 have e1:S N (fun k=>g c.C k i*g c.A k q)=g A0 i q:=by
  have:S N (fun k=>g c.C k i*g c.A k q)=S N fun k=>S N fun m=>g c.C k i*g c.U k m*g A0 m q:=aP fun k hk=>by
   rw[T.ua k q hk hq,←fQ]
   exact aP fun m _=>(Int.mul_assoc _ _ _).symm
  rw[this,yE]
  have:(S N fun m=>S N fun k=>g c.C k i*g c.U k m*g A0 m q)=S N fun m=>dl i m*g A0 m q:=aP fun m hm=>by rw[Bp,T.bu i m hi hm]
  rw[this,oz hi]
 have cut:∀n,top≤n→n≤N→S n (fun k=>g c.C k i*g c.A k q)=S top fun k=>g c.C k i*g c.A k q:=fun n=>by
  induction n with
  |zero=>intro h _;rw[Nat.le_zero.mp h]
  |succ n ih=>
   intro h h2
   by_cases e:top=n+1
   · rw[e]
   · show S n _+g c.C n i*g c.A n q=_
     rw[ih (by omega) (by omega),H.zs n q (by omega) (by omega) hq,Int.mul_zero,Int.add_zero]
 rw[←e1,cut N H.le (Nat.le_refl _)]
theorem jw.small{A0:Rows}{N w top e u b:Nat}{c:B3}{ld:Nat→Nat}(H:jw A0 N w c top w ld e u)(hN:N≤8)(b1:1≤b)(hA:∀i c,i<N→c<w→(g A0 i c).natAbs≤b):
 Pr top (fun i=>g c.A i (ld i))≤((9*b)^8:Nat)∧∀k q,k<top→q<w→(g c.A k q).natAbs≤8*((9*b)^9*(9*b)^8):=
 EE (A:=g A0) (F:=g c.A) (U:=g c.U) (B:=fun i k=>g c.C k i) (Nat.le_trans H.le hN) b1 hA (fun i q hi hq=>H.back hi hq) (fun k l hk hl=>H.tn.ub k l (Nat.lt_of_lt_of_le hk H.le) (Nat.lt_of_lt_of_le hl H.le)) H.lead H.mono H.red
end Mx
namespace Mx
noncomputable def cX(F:Rows)(i:Nat):Nat:=(F.getD i []).findIdx (fun x=>x != 0)
theorem tO:∀ {r:Row} {l:Nat},(∀c,c<l→r.getD c 0=0)→r.getD l 0≠0→r.findIdx (fun x=>x != 0)=l
 | [],l,_,h=>(h rfl).elim
 |x::r,0,_,h=>by
  have h':(x != 0)=true:=bne_iff_ne.mpr h
  rw[List.findIdx_cons,h'];rfl
 |x::r,l+1,hz,h=>by
  have x0:(x != 0)=false:=bne_eq_false_iff_eq.mpr (hz 0 (Nat.zero_lt_succ _))
  rw[List.findIdx_cons,x0,tO (r:=r) (l:=l) (fun c hc=>hz (c+1) (Nat.succ_lt_succ hc)) h];rfl
theorem fj.cX{F:Rows}{n w:Nat}{ld:Nat→Nat}(s:fj F n w ld){i:Nat}(hi:i<n):Mx.cX F i=ld i:=by
 obtain⟨_,h2,h3⟩:=s.lead i hi
 exact tO h3 (Int.ne_of_gt h2)
theorem fj.Ny{F:Rows}{n w:Nat}{ld:Nat→Nat}(s:fj F n w ld):fj F n w (Mx.cX F):=
 ⟨fun i hi=>by rw[s.cX hi];exact s.lead i hi,fun i j h hj=>by rw[s.cX hj,s.cX (Nat.lt_trans h hj)];exact s.mono i j h hj⟩
noncomputable def qW(F:Rows)(L:Row)(i:Nat):Int:=(L.getD (cX F i) 0).fdiv (g F i (cX F i))
noncomputable def eh(F:Rows)(r:Row):Nat→Row
 |0=>r
 |i+1=>fb (eh F r i) (-(qW F (eh F r i) i)) (F.getD i [])
noncomputable def pN(F:Rows)(r:Row)(n:Nat):Row:=(List.range n).map fun i=>qW F (eh F r i) i
section
variable {F:Rows}{r:Row}{m w:Nat}(isF:dJ m w F)(lr:r.length=w)
include isF lr
theorem oU:∀ {i:Nat},i≤m→(eh F r i).length=w
 |0,_=>lr
 |i+1,h=>by
  unfold eh
  rw[kg (by rw[oU (by omega),isF.row (by omega)])]
  exact oU (by omega)
theorem yo{i:Nat}(hi:i<m)(c:Nat):(eh F r (i+1)).getD c 0=(eh F r i).getD c 0-qW F (eh F r i) i*g F i c:=by
 conv=>lhs;unfold eh
 rw[oM (by rw[oU isF lr (by omega),isF.row hi]),Int.neg_mul]
 rfl
theorem zh:∀ {i:Nat},i≤m→∀c,r.getD c 0=(eh F r i).getD c 0+S i fun j=>qW F (eh F r j) j*g F j c
 |0,_,c=>(Int.add_zero _).symm
 |i+1,h,c=>by
  have e:=zh (i:=i) (by omega) c
  rw[yo isF lr (by omega)]
  show _=_+(S i _+qW F (eh F r i) i*g F i c)
  omega
theorem zN(s:fj F m w (cX F)):∀ {i:Nat},i≤m→wW F m w (cX F) (fun c=>r.getD c 0) i (fun c=>(eh F r i).getD c 0)
 |0,_=>wW.start
 |i+1,h=>by
  have:=(zN s (i:=i) (by omega)).step s h
  have e:(fun c=>(eh F r (i+1)).getD c 0)=fun c=>(eh F r i).getD c 0-((eh F r i).getD (cX F i) 0).fdiv (g F i (cX F i))*g F i c:=by
   funext c
   rw[yo isF lr h]
   rfl
  rw[e]
  exact this
theorem qZ{f e:Nat}(s:fj F m w (cX F))(hF:∀k c,k<m→c<w→(g F k c).natAbs≤2^f)(hr:∀c,c<w→(r.getD c 0).natAbs≤2^e):∀ {i:Nat},i≤m→∀c,c<w→((eh F r i).getD c 0).natAbs≤2^(e+i*(f+1))
 |0,_,c,hc=>by rw[Nat.zero_mul];exact hr c hc
 |i+1,h,c,hc=>by
  have ih:=qZ s hF hr (i:=i) (by omega)
  obtain⟨l1,l2,_⟩:=s.lead i h
  have q:=Nat.le_trans (kl ((eh F r i).getD (cX F i) 0) l2) (ih _ l1)
  rw[yo isF lr h]
  have p:(qW F (eh F r i) i*g F i c).natAbs≤2^(e+i*(f+1))*2^f:=by
   rw[Int.natAbs_mul]
   exact Nat.mul_le_mul q (hF i c h hc)
  have b:=ih c hc
  have e1:2^(e+(i+1)*(f+1))=2^(e+i*(f+1))*2^f*2:=by
   rw[show e+(i+1)*(f+1)=e+i*(f+1)+f+1 by rw[Nat.succ_mul];omega,Nat.pow_succ,Nat.pow_add]
  have e2:2^(e+i*(f+1))≤2^(e+i*(f+1))*2^f:=Nat.le_mul_of_pos_right _ (Nat.pow_pos (by decide))
  rw[e1]
  omega
end
theorem Dl{A0:Rows}{N w top e u:Nat}{c:B3}{ld:Nat→Nat}(H:jw A0 N w c top w ld e u){r ws:Row}(lw:ws.length=top)(hs:∀q,q<w→r.getD q 0=S top fun j=>ws.getD j 0*g c.A j q){q:Nat}(hq:q<w):(S N fun n=>(fA ws (c.U.take top) (List.replicate N 0)).getD n 0*g A0 n q)=r.getD q 0:=by
 have T:=H.tn
 have hl:(c.U.take top).length=top:=by rw[List.length_take,T.eH.len];exact Nat.min_eq_left H.le
 have e1:∀n,(fA ws (c.U.take top) (List.replicate N 0)).getD n 0=S top fun j=>ws.getD j 0*g c.U j n:=fun n=>by
  rw[yh (n:=N) n (by simp) (fun r hr=>T.eH.pR r (List.mem_of_mem_take hr)) (by rw[hl,lw]),eQ,Int.zero_add,hl]
  refine aP fun j hj=>?_
  unfold g
  rw[bG (l:=c.U.take top) (by omega),List.getElem_take,bG (l:=c.U) (by have:=T.eH.len;have:=H.le;omega)]
 have e2:(S N fun n=>(fA ws (c.U.take top) (List.replicate N 0)).getD n 0*g A0 n q)=S N fun n=>S top fun j=>ws.getD j 0*(g c.U j n*g A0 n q):=aP fun n _=>by
  rw[e1,←Bp]
  exact aP fun j _=>Int.mul_assoc _ _ _
 rw[e2,yE,hs q hq]
 refine aP fun j hj=>?_
 rw[fQ,←T.ua j q (Nat.lt_of_lt_of_le hj H.le) hq]
end Mx
namespace Mx
noncomputable def SQ:Nat→(Nat→Rat)→Rat
 |0,_=>0
 |n+1,f=>SQ n f+f n
theorem o7{n:Nat}{f h:Nat→Rat}(e:∀i,i<n→f i=h i):SQ n f=SQ n h:=by
 induction n with
 |zero=>rfl
 |succ n ih=>unfold SQ;rw[ih fun i hi=>e i (by omega),e n (by omega)]
theorem uV{n:Nat}{f:Nat→Rat}(e:∀i,i<n→f i=0):SQ n f=0:=by
 induction n with
 |zero=>rfl
 |succ n ih=>unfold SQ;rw[ih fun i hi=>e i (by omega),e n (by omega)];grind
theorem Cg(n:Nat)(f h:Nat→Rat):SQ n (fun i=>f i+h i)=SQ n f+SQ n h:=by
 induction n with
 |zero=>unfold SQ;grind
 |succ n ih=>unfold SQ;rw[ih];grind
theorem JJ(n:Nat)(x:Rat)(f:Nat→Rat):SQ n (fun i=>x*f i)=x*SQ n f:=by
 induction n with
 |zero=>unfold SQ;grind
 |succ n ih=>unfold SQ;rw[ih];grind
theorem Cw{n k:Nat}(hk:k<n){f:Nat→Rat}(h:∀i,i<n→i≠k→f i=0):SQ n f=f k:=by
 induction n with
 |zero=>omega
 |succ n ih=>
  unfold SQ
  by_cases e:k=n
  · subst e
    rw[uV fun i hi=>h i (by omega) (by omega)];grind
  · rw[ih (by omega) fun i hi hn=>h i (by omega) hn,h n (by omega) (by omega)];grind
theorem HQ{n k:Nat}(hk:k<n){f h:Nat→Rat}(e:∀i,i<n→i≠k→h i=f i):SQ n h=SQ n f+(h k-f k):=by
 induction n with
 |zero=>omega
 |succ n ih=>
  unfold SQ
  by_cases q:k=n
  · subst q
    rw[o7 (f:=h) (h:=f) fun i hi=>e i (by omega) (by omega)];grind
  · rw[ih (by omega) fun i hi hn=>e i (by omega) hn,e n (by omega) (by omega)];grind
noncomputable def Wh(x:Rat):Prop:=∃z:Int,x=(z:Rat)
theorem Wh.zero:Wh 0:=⟨0,rfl⟩
theorem Wh.add{x y:Rat}(h:Wh x)(k:Wh y):Wh (x+y):=by
 obtain⟨a,rfl⟩:=h
 obtain⟨b,rfl⟩:=k
 exact⟨a+b,(Rat.intCast_add a b).symm⟩
theorem Wh.mul{x:Rat}(h:Wh x)(c:Int):Wh ((c:Rat)*x):=by
 obtain⟨a,rfl⟩:=h
 exact⟨c*a,(Rat.intCast_mul c a).symm⟩
theorem Wh.neg{x:Rat}(h:Wh x):Wh (-x):=by
 obtain⟨a,rfl⟩:=h
 exact⟨-a,(Rat.intCast_neg a).symm⟩
noncomputable def dq(ps:List Rat)(w:Nat)(v:Nat→Int):Rat:=SQ w fun c=>ps.getD c 0*(v c:Rat)
theorem xm(ps:List Rat)(w n:Nat)(x:Nat→Int)(f:Nat→Nat→Int):dq ps w (fun c=>S n fun k=>x k*f k c)=SQ n fun k=>(x k:Rat)*dq ps w (f k):=by
 induction n with
 |zero=>exact uV fun c _=>by show _*((0:Int):Rat)=0;grind
 |succ n ih=>
  have:dq ps w (fun c=>S (n+1) fun k=>x k*f k c)=dq ps w (fun c=>S n fun k=>x k*f k c)+(x n:Rat)*dq ps w (f n):=by
   unfold dq
   rw[←JJ,←Cg]
   refine o7 fun c _=>?_
   show _*(((S n fun k=>x k*f k c)+x n*f n c:Int):Rat)=_
   rw[Rat.intCast_add,Rat.intCast_mul]
   grind
  rw[this,ih]
  rfl
theorem HX(ps:List Rat)(w:Nat)(u v:Nat→Int):dq ps w (fun c=>u c+v c)=dq ps w u+dq ps w v:=by
 unfold dq
 rw[←Cg]
 exact o7 fun c _=>by rw[Rat.intCast_add];grind
theorem sP{ps:List Rat}{w:Nat}{u v:Nat→Int}(h:∀c,c<w→u c=v c):dq ps w u=dq ps w v:=o7 fun c hc=>by rw[h c hc]
theorem Ao{n:Nat}{f:Nat→Rat}(h:∀i,i<n→Wh (f i)):Wh (SQ n f):=by
 induction n with
 |zero=>exact Wh.zero
 |succ n ih=>exact(ih fun i hi=>h i (by omega)).add (h n (by omega))
theorem iC{ps:List Rat}{k:Nat}{x:Rat}(hk:k<ps.length)(c:Nat):(ps.set k x).getD c 0=if c=k then x else ps.getD c 0:=by
 rw[List.getD_eq_getElem?_getD,List.getD_eq_getElem?_getD]
 by_cases h:c=k
 · subst h;rw[List.getElem?_set_self hk,if_pos rfl];rfl
 · rw[List.getElem?_set_ne (Ne.symm h),if_neg h]
theorem HW{ps:List Rat}{w k:Nat}{x:Rat}(lp:ps.length=w)(hk:k<w)(v:Nat→Int):dq (ps.set k x) w v=dq ps w v+(x-ps.getD k 0)*(v k:Rat):=by
 unfold dq
 rw[HQ hk (f:=fun c=>ps.getD c 0*(v c:Rat)) fun c _ hn=>by rw[iC (by omega),if_neg hn]]
 rw[iC (by omega),if_pos rfl]
 grind
noncomputable def C3(F:Rows)(w l:Nat)(ps:List Rat)(k:Nat):List Rat:=if cX F k<l then ps.set (cX F k) ((0-dq ps w (g F k))/(g F k (cX F k):Rat))else ps
noncomputable def lH(F:Rows)(m w l:Nat)(ps:List Rat):Nat→List Rat
 |0=>ps
 |i+1=>C3 F w l (lH F m w l ps i) (m-1-i)
noncomputable def iW(w l:Nat)(b:Int):List Rat:=(List.replicate w 0).set l (Rat.divInt 1 b)
theorem HC(w c:Nat):(List.replicate w (0:Rat)).getD c 0=0:=by
 rw[List.getD_eq_getElem?_getD,List.getElem?_replicate]
 split<;>rfl
structure mY(F:Rows)(m w l:Nat)(p:Rat)(i:Nat)(ps:List Rat):Prop where
 len:ps.length=w
 nil:∀c,c≠l→(∀k,m-i≤k→k<m→cX F k≠c)→ps.getD c 0=0
 hi:∀c,l<c→ps.getD c 0=0
 at_:ps.getD l 0=p
 off:∀k,m-i≤k→k<m→cX F k<l→dq ps w (g F k)=0
theorem mY.start{F:Rows}{m w l:Nat}(b:Int)(hl:l<w):mY F m w l (Rat.divInt 1 b) 0 (iW w l b):=by
 have hw:l<(List.replicate w (0:Rat)).length:=by simpa using hl
 refine⟨by unfold iW;simp,fun c hc _=>?_,fun c hc=>?_,?_,fun k h1 h2=>by omega⟩
 · unfold iW;rw[iC hw,if_neg hc,HC]
 · unfold iW;rw[iC hw,if_neg (by omega),HC]
 · unfold iW;rw[iC hw,if_pos rfl]
theorem mY.step{F:Rows}{m w l i:Nat}{p:Rat}{ps:List Rat}(s:fj F m w (cX F))(hi:i<m)(P:mY F m w l p i ps):mY F m w l p (i+1) (C3 F w l ps (m-1-i)):=by
 generalize hk:m-1-i=k0
 have hk0:k0<m:=by omega
 obtain⟨l1,l2,l3⟩:=s.lead k0 hk0
 unfold C3
 by_cases h:cX F k0<l
 · rw[if_pos h]
   have pz:ps.getD (cX F k0) 0=0:=P.nil _ (by omega) fun k h1 h2 e=>by
    have:=s.mono k0 k (by omega) h2
    omega
   have hne:(g F k0 (cX F k0):Rat)≠0:=fun z=>by
    have:g F k0 (cX F k0)=0:=Rat.intCast_inj.mp z
    omega
   have hlen:cX F k0<ps.length:=by rw[P.len];exact l1
   refine⟨by rw[List.length_set];exact P.len,fun c hc hn=>?_,fun c hc=>?_,?_,fun k h1 h2 h3=>?_⟩
   · rw[iC hlen,if_neg (Ne.symm (hn k0 (by omega) hk0))]
     exact P.nil c hc fun k h1 h2=>hn k (by omega) h2
   · rw[iC hlen,if_neg (by omega)];exact P.hi c hc
   · rw[iC hlen,if_neg (by omega)];exact P.at_
   · rw[HW P.len l1,pz]
     by_cases e:k=k0
     · subst e
       have:(0-dq ps w (g F k))/(g F k (cX F k):Rat)*(g F k (cX F k):Rat)=0-dq ps w (g F k):=Rat.div_mul_cancel hne
       grind
     · have hk':m-i≤k:=by omega
       rw[P.off k hk' h2 h3,(s.lead k h2).2.2 _ (s.mono k0 k (by omega) h2)]
       show _+_*((0:Int):Rat)=0
       grind
 · rw[if_neg h]
   refine⟨P.len,fun c hc hn=>P.nil c hc fun k h1 h2=>hn k (by omega) h2,P.hi,P.at_,fun k h1 h2 h3=>?_⟩
   by_cases e:k=k0
   · subst e;omega
   · exact P.off k (by omega) h2 h3
theorem mY.all{F:Rows}{m w l:Nat}(b:Int)(s:fj F m w (cX F))(hl:l<w):∀ {i:Nat},i≤m→mY F m w l (Rat.divInt 1 b) i (lH F m w l (iW w l b) i)
 |0,_=>mY.start b hl
 |i+1,h=>(mY.all b s hl (i:=i) (by omega)).step s h
noncomputable def sr(F:Rows)(m l:Nat)(x b:Int):Prop:=(∃k,k<m∧cX F k=l∧b=g F k l)∨((∀k,k<m→cX F k≠l)∧b=2*(x.natAbs:Int))
theorem sr.unique{F:Rows}{m w l:Nat}{x b b':Int}(s:fj F m w (cX F))(h:sr F m l x b)(h':sr F m l x b'):b=b':=by
 rcases h with⟨k,hk,e,rfl⟩|⟨n,rfl⟩
 · rcases h' with⟨k',hk',e',rfl⟩|⟨n',rfl⟩
   · rw[s.inj hk hk' (e.trans e'.symm)]
   · exact absurd e (n' k hk)
 · rcases h' with⟨k',hk',e',rfl⟩|⟨n',rfl⟩
   · exact absurd e' (n k' hk')
   · rfl
theorem sr.pos{F:Rows}{m w l:Nat}{x b:Int}(s:fj F m w (cX F))(h:sr F m l x b)(hx:x≠0):0<b:=by
 rcases h with⟨k,hk,e,rfl⟩|⟨n,rfl⟩
 · have:=(s.lead k hk).2.1
   rw[e]at this;exact this
 · omega
theorem wM{b:Int}(hb:b≠0)(x:Int):Rat.divInt 1 b*(x:Rat)=(x:Rat)/(b:Rat):=by
 rw[Rat.divInt_eq_div]
 grind
theorem H_{x b:Int}(h0:0<x.natAbs)(h1:(x.natAbs:Int)<b):¬Wh ((x:Rat)/(b:Rat)):=by
 rintro⟨z,e⟩
 have hb:(b:Rat)≠0:=fun q=>by
  have:b=0:=Rat.intCast_inj.mp q
  omega
 have e2:(x:Rat)=(z:Rat)*(b:Rat):=by rw[←e];exact(Rat.div_mul_cancel hb).symm
 rw[←Rat.intCast_mul]at e2
 have e3:x=z*b:=Rat.intCast_inj.mp e2
 have hz:z≠0:=fun q=>by rw[q,Int.zero_mul]at e3;omega
 have:(z*b).natAbs=z.natAbs*b.natAbs:=Int.natAbs_mul _ _
 have h2:1*b.natAbs≤z.natAbs*b.natAbs:=Nat.mul_le_mul_right _ (by omega)
 rw[e3]at h1
 omega
theorem mY.whole{F:Rows}{m w l:Nat}{R:Row}{b:Int}{ps:List Rat}(s:fj F m w (cX F))(hl:l<w)(hb:sr F m l (R.getD l 0) b)(h0:R.getD l 0≠0)(P:mY F m w l (Rat.divInt 1 b) m ps){k:Nat}(hk:k<m):Wh (dq ps w (g F k)):=by
 obtain⟨l1,l2,l3⟩:=s.lead k hk
 rcases Nat.lt_trichotomy (cX F k) l with h|h|h
 · rw[P.off k (by omega) hk h];exact Wh.zero
 · have e:dq ps w (g F k)=ps.getD l 0*(g F k l:Rat):=Cw hl fun c hc hn=>by
    rcases Nat.lt_or_gt_of_ne hn with q|q
    · rw[l3 c (by omega)];show _*((0:Int):Rat)=0;grind
    · rw[P.hi c q];grind
   have hb':b=g F k l:=by
    rcases hb with⟨k',hk',e',rfl⟩|⟨n,_⟩
    · rw[s.inj hk hk' (h.trans e'.symm)]
    · exact absurd h (n k hk)
   rw[e,P.at_,hb']
   have hp:0<g F k l:=by rw[←h];exact l2
   rw[wM (by omega)]
   have:(g F k l:Rat)≠0:=fun q=>by
    have:g F k l=0:=Rat.intCast_inj.mp q
    omega
   have e1:(g F k l:Rat)/(g F k l:Rat)=1:=by rw[Rat.div_def];exact Rat.mul_inv_cancel _ this
   rw[e1]
   exact⟨1,rfl⟩
 · have e:dq ps w (g F k)=0:=uV fun c hc=>by
    rcases Nat.lt_or_ge l c with q|q
    · rw[P.hi c q];grind
    · rw[l3 c (by omega)];show _*((0:Int):Rat)=0;grind
   rw[e];exact Wh.zero
theorem mY.not{F:Rows}{m w l:Nat}{R:Row}{b:Int}{ps:List Rat}(s:fj F m w (cX F))(hl:l<w)(hb:sr F m l (R.getD l 0) b)(h0:R.getD l 0≠0)(hz:∀c,c<l→R.getD c 0=0)(red:∀k,k<m→0≤R.getD (cX F k) 0∧R.getD (cX F k) 0<g F k (cX F k))(P:mY F m w l (Rat.divInt 1 b) m ps):¬Wh (dq ps w fun c=>R.getD c 0):=by
 have bp:=hb.pos s h0
 have e:dq ps w (fun c=>R.getD c 0)=ps.getD l 0*((R.getD l 0:Int):Rat):=Cw hl fun c hc hn=>by
  rcases Nat.lt_or_gt_of_ne hn with q|q
  · show _*((R.getD c 0:Int):Rat)=0;rw[hz c q];show _*((0:Int):Rat)=0;grind
  · rw[P.hi c q];grind
 rw[e,P.at_,wM (by omega)]
 refine H_ (by omega) ?_
 rcases hb with⟨k,hk,e,rfl⟩|⟨n,rfl⟩
 · have:=red k hk
   rw[e]at this
   omega
 · omega
theorem GB(n:Nat)(f:Nat→Rat):SQ (n+1) f=f 0+SQ n fun i=>f (i+1):=by
 induction n with
 |zero=>unfold SQ SQ;grind
 |succ n ih=>
  have:SQ (n+1+1) f=SQ (n+1) f+f (n+1):=rfl
  rw[this,ih]
  have:SQ (n+1) (fun i=>f (i+1))=SQ n (fun i=>f (i+1))+f (n+1):=rfl
  rw[this]
  grind
noncomputable def iV:Rat→List Rat→Row→Rat
 |t,p::ps,n::r=>iV (t+p*(n:Rat)) ps r
 |t,_,_=>t
theorem B7:∀(ps:List Rat) (r:Row) (t:Rat) {w:Nat},ps.length=w→r.length=w→iV t ps r=t+dq ps w fun c=>r.getD c 0
 | [],[],t,w,h,_=>by
   subst h
   unfold iV
   show t=t+0
   grind
 | [],_::_,t,w,h1,h2=>by subst h1;cases h2
 |_::_,[],t,w,h1,h2=>by subst h2;cases h1
 |p::ps,n::r,t,w,h1,h2=>by
  subst h1
  unfold iV
  rw[B7 ps r _ rfl (Nat.succ.inj h2)]
  unfold dq
  rw[List.length_cons,GB]
  have e:(fun i=>(p::ps).getD (i+1) 0*(((n::r).getD (i+1) 0:Int):Rat))=fun i=>ps.getD i 0*((r.getD i 0:Int):Rat):=by
   funext i
   simp
  rw[e]
  show _=t+(p*(n:Rat)+_)
  grind
noncomputable def wo:Int→Int→List Rat→Row→Int×Int
 |T,B,p::ps,n::r=>wo (T*p.den+p.num*n*B) (B*p.den) ps r
 |T,B,_,_=>(T,B)
theorem FA:∀(ps:List Rat) (r:Row) (T B:Int),0<B→0<(wo T B ps r).2∧((wo T B ps r).1:Rat)/((wo T B ps r).2:Rat)=iV ((T:Rat)/(B:Rat)) ps r
 | [],_,T,B,h=>⟨h,by unfold wo iV;rfl⟩
 |_::_,[],T,B,h=>⟨h,by unfold wo iV;rfl⟩
 |p::ps,n::r,T,B,h=>by
  have hd:0<(p.den:Int):=by have:=p.den_pos;omega
  unfold wo iV
  have ih:=FA ps r (T*p.den+p.num*n*B) (B*p.den) (Int.mul_pos h hd)
  refine⟨ih.1,ih.2.trans ?_⟩
  congr 1
  have hB:(B:Rat)≠0:=fun z=>by have:B=0:=Rat.intCast_inj.mp z;omega
  have hD:((p.den:Int):Rat)≠0:=fun z=>by have:(p.den:Int)=0:=Rat.intCast_inj.mp z;omega
  have hp:p=(p.num:Rat)/((p.den:Int):Rat):=by
   conv=>lhs;rw[←Rat.num_divInt_den p]
   exact Rat.divInt_eq_div _ _
  conv=>rhs;rw[hp]
  rw[Rat.intCast_add,Rat.intCast_mul,Rat.intCast_mul,Rat.intCast_mul,Rat.intCast_mul]
  grind
theorem Hz{T B:Int}(h:0<B):T.fmod B=0↔Wh ((T:Rat)/(B:Rat)):=by
 have hB:(B:Rat)≠0:=fun z=>by have:B=0:=Rat.intCast_inj.mp z;omega
 constructor
 · intro e
   obtain⟨z,rfl⟩:=Int.dvd_of_fmod_eq_zero e
   refine⟨z,?_⟩
   rw[Rat.intCast_mul]
   grind
 · rintro⟨z,e⟩
   have e2:(T:Rat)=(z:Rat)*(B:Rat):=by rw[←e];exact(Rat.div_mul_cancel hB).symm
   rw[←Rat.intCast_mul]at e2
   rw[Rat.intCast_inj.mp e2]
   exact Int.mul_fmod_left z B
structure Sz(q:Rat)(m:Nat):Prop where
 num:q.num.natAbs≤2^m
 den:q.den≤2^m
theorem Sz.mono{q:Rat}{m n:Nat}(h:Sz q m)(l:m≤n):Sz q n:=⟨Nat.le_trans h.num (Nat.pow_le_pow_right (by decide) l),Nat.le_trans h.den (Nat.pow_le_pow_right (by decide) l)⟩
theorem Sz.int{n:Int}{m:Nat}(h:n.natAbs≤2^m):Sz (n:Rat) m:=⟨h,Nat.pow_pos (by decide)⟩
theorem Sz.of{t b:Int}{m:Nat}(hb:b≠0)(h1:t.natAbs≤2^m)(h2:b.natAbs≤2^m):Sz (Rat.divInt t b) m:=by
 have hg:1≤b.gcd t:=by
  have:b.gcd t≠0:=fun z=>hb (Int.gcd_eq_zero_iff.mp z).1
  omega
 constructor
 · rw[Rat.num_divInt]
   have:((b.sign*t)/((b.gcd t:Nat):Int)).natAbs≤(b.sign*t).natAbs:=Int.natAbs_ediv_le_natAbs _ _
   have e:(b.sign*t).natAbs≤t.natAbs:=by
    rw[Int.natAbs_mul]
    have:b.sign.natAbs≤1:=by rw[Int.natAbs_sign];split<;>omega
    calc b.sign.natAbs*t.natAbs≤1*t.natAbs:=Nat.mul_le_mul_right _ this
     _=t.natAbs:=Nat.one_mul _
   omega
 · rw[Rat.den_divInt,if_neg hb]
   exact Nat.le_trans (Nat.div_le_self _ _) h2
theorem d_{x y:Int}{a b:Nat}(hx:x.natAbs≤2^a)(hy:y.natAbs≤2^b):(x*y).natAbs≤2^(a+b):=by
 rw[Int.natAbs_mul,Nat.pow_add]
 exact Nat.mul_le_mul hx hy
theorem den_nz(q:Rat):((q.den:Nat):Int)≠0:=by have:=q.den_nz;omega
theorem nk(q:Rat):q=Rat.divInt q.num ((q.den:Nat):Int):=(Rat.num_divInt_den q).symm
theorem add_eq(p q:Rat):p+q=Rat.divInt (p.num*((q.den:Nat):Int)+q.num*((p.den:Nat):Int)) (((p.den:Nat):Int)*((q.den:Nat):Int)):=by
 conv=>lhs;rw[nk p,nk q]
 rw[Rat.divInt_add_divInt _ _ (den_nz p) (den_nz q)]
theorem sub_eq(p q:Rat):p-q=Rat.divInt (p.num*((q.den:Nat):Int)-q.num*((p.den:Nat):Int)) (((p.den:Nat):Int)*((q.den:Nat):Int)):=by
 conv=>lhs;rw[nk p,nk q]
 rw[Rat.divInt_sub_divInt _ _ (den_nz p) (den_nz q)]
theorem mul_eq(p q:Rat):p*q=Rat.divInt (p.num*q.num) (((p.den:Nat):Int)*((q.den:Nat):Int)):=by
 conv=>lhs;rw[nk p,nk q]
 rw[Rat.divInt_mul_divInt]
theorem div_eq(p q:Rat):p/q=Rat.divInt (p.num*((q.den:Nat):Int)) (((p.den:Nat):Int)*q.num):=by
 rw[Rat.div_def,Rat.inv_def]
 conv=>lhs;rw[nk p]
 rw[Rat.divInt_mul_divInt]
theorem Sz.lK{q:Rat}{m:Nat}(h:Sz q m):(((q.den:Nat):Int)).natAbs≤2^m:=h.den
theorem Sz.add{p q:Rat}{a b:Nat}(hp:Sz p a)(hq:Sz q b):Sz (p+q) (a+b+1):=by
 rw[add_eq]
 have h1:=d_ hp.num hq.lK
 have h2:=d_ hq.num hp.lK
 have h3:=d_ hp.lK hq.lK
 rw[Nat.add_comm b a]at h2
 exact Sz.of (Int.mul_ne_zero (den_nz p) (den_nz q)) (by rw[Nat.pow_succ];omega) (Nat.le_trans h3 (Nat.pow_le_pow_right (by decide) (by omega)))
theorem Sz.neg{q:Rat}{b:Nat}(hq:Sz q b):Sz (0-q) b:=by
 have e:(0:Rat)-q= -q:=by grind
 rw[e]
 exact⟨by rw[show(-q).num= -q.num from rfl,Int.natAbs_neg];exact hq.num,hq.den⟩
theorem Sz.mul{p q:Rat}{a b:Nat}(hp:Sz p a)(hq:Sz q b):Sz (p*q) (a+b):=by
 rw[mul_eq]
 exact Sz.of (Int.mul_ne_zero (den_nz p) (den_nz q)) (d_ hp.num hq.num) (d_ hp.lK hq.lK)
theorem Sz.div{p q:Rat}{a b:Nat}(hp:Sz p a)(hq:Sz q b)(h0:q.num≠0):Sz (p/q) (a+b):=by
 rw[div_eq]
 exact Sz.of (Int.mul_ne_zero (den_nz p) h0) (d_ hp.num hq.lK) (d_ hp.lK hq.num)
noncomputable def Pb:List Rat→Nat→Prop
 | [],_=>True
 |q::qs,t=>∃a b,Sz q a∧Pb qs b∧a+b≤t
theorem Pb.mono:∀ {ps:List Rat} {s t:Nat},Pb ps s→s≤t→Pb ps t
 | [],_,_,_,_=>trivial
 |_::_,_,_,⟨a,b,h1,h2,h3⟩,l=>⟨a,b,h1,h2,Nat.le_trans h3 l⟩
theorem Pb.set{x:Rat}{a:Nat}(hx:Sz x a):∀ {ps:List Rat} {t k:Nat},Pb ps t→Pb (ps.set k x) (t+a)
 | [],_,_,_=>trivial
 |q::qs,t,0,⟨a',b,h1,h2,h3⟩=>⟨a,b,hx,h2,by omega⟩
 |q::qs,t,k+1,⟨a',b,h1,h2,h3⟩=>⟨a',b+a,h1,h2.set hx,by omega⟩
theorem Pb.rep:∀n:Nat,Pb (List.replicate n 0) 0
 |0=>trivial
 |n+1=>⟨0,0,⟨by decide,by decide⟩,Pb.rep n,Nat.le_refl _⟩
theorem Pb.iV:∀ {ps:List Rat} {r:Row} {s e t:Nat} {x:Rat},Sz x s→Pb ps t→(∀n∈r,n.natAbs≤2^e)→Sz (iV x ps r) (s+t+ps.length*(e+1))
 | [],r,s,e,t,x,hx,_,_=>by unfold Mx.iV;exact hx.mono (by omega)
 |_::_,[],s,e,t,x,hx,_,_=>by unfold Mx.iV;exact hx.mono (by omega)
 |p::ps,n::r,s,e,t,x,hx,⟨a,b,h1,h2,h3⟩,hr=>by
  unfold Mx.iV
  have h4:=hx.add (h1.mul (Sz.int (hr n List.mem_cons_self)))
  refine(Pb.iV h4 h2 fun k hk=>hr k (List.mem_cons_of_mem _ hk)).mono ?_
  rw[List.length_cons,Nat.succ_mul]
  omega
end Mx
namespace Prog
open PySem L2 L3
open PySem.Spec hiding items?
open PyProof.Rows hiding St
theorem gW{i j:Int}(h1: -(2^64)<i)(h2:i<2^64):IntMulOk i j:= .of_left (intBits_le_64 h1 h2)
theorem oA{i j:Int}(h1: -(2^64)<j)(h2:j<2^64):IntMulOk i j:= .of_right (intBits_le_64 h1 h2)
noncomputable def isInt:D→Bool
 | .int _=>true
 |_=>false
noncomputable abbrev aA(r:List Int):List D:=r.map D.int
noncomputable abbrev bz(r:List Int):D:= .tup (aA r)
noncomputable abbrev aY(r:List Int):D:= .lst (aA r)
noncomputable abbrev dW(A:List (List Int)):D:= .tup (A.map bz)
noncomputable abbrev LX(A:List (List Int)):D:= .lst (A.map aY)
noncomputable def cx(st:ag):List D→List (List Int)→Prop
 | [],[]=>True
 |d::ds,r::rs=>items? st d=some (aA r)∧cx st ds rs
 |_,_=>False
structure je(st:ag)(d:D)(A:List (List Int)):Prop where
 ex:∃ds,items? st d=some ds∧cx st ds A
theorem cx.len{st:ag}:∀ {ds:List D} {A:List (List Int)},cx st ds A→ds.length=A.length
 | [],[],_=>rfl
 |_::_,_::_,h=>by simp[cx.len h.2]
theorem cx.tup{st:ag}:∀ {A:List (List Int)},cx st (A.map bz) A
 | []=>trivial
 |_::_=>⟨rfl,cx.tup⟩
theorem cx.lst{st:ag}:∀ {A:List (List Int)},cx st (A.map aY) A
 | []=>trivial
 |_::_=>⟨rfl,cx.lst⟩
theorem cx.get{st:ag}:∀ {ds:List D} {A:List (List Int)} {i:Nat} {d:D},cx st ds A→ds[i]?=some d→∃r,A[i]?=some r∧items? st d=some (aA r)
 |_::_,r::_,0,_,h,e=>by simp at e;subst e;exact⟨r,rfl,h.1⟩
 |_::_,_::_,i+1,d,h,e=>by
  obtain⟨r,e1,e2⟩:=cx.get (i:=i) (d:=d) h.2 (by simpa using e)
  exact⟨r,by simpa using e1,e2⟩
theorem zR{st:ag}{A:List (List Int)}:je st (dW A) A:=⟨_,rfl,cx.tup⟩
structure Ext(st st':ag):Prop where
 len:st.length≤st'.length
 same:∀m,m<st.length→st'[m]?=st[m]?
theorem Ext.push{st:ag}{c:List Cell}:Ext st (st++c):=⟨by simp,fun m h=>List.getElem?_append_left h⟩
theorem Ext.set{st:ag}{n:Nat}{c:Cell}{st0:ag}(a:Ext st0 st)(h:st0.length≤n):Ext st0 (st.set n c):=⟨by rw[List.length_set];exact a.len,fun m hm=>by rw[List.getElem?_set_ne (by omega)];exact a.same m hm⟩
theorem Ext.items{st st':ag}{d:D}{xs:List D}(x:Ext st st')(e:items? st d=some xs):items? st' d=some xs:=by
 cases d with
 |ref n=>
  unfold items? at e⊢
  simp only at e⊢
  cases q:st[n]? with
  |none=>rw[q]at e;cases e
  |some c=>
   have hn:=(List.getElem?_eq_some_iff.mp q).1
   rw[x.same n hn]
   exact e
 |_=>exact e
theorem gY{r:List Int}{k:Nat}(h:k<r.length):dM (aA r) (k:Int)=some (.int (r.getD k 0)):=by
 refine kj ?_
 rw[List.getElem?_map,List.getElem?_eq_getElem h,Mx.bG h];rfl
theorem getD_mem{r:List Int}{k:Nat}(h:k<r.length):r.getD k 0∈r:=by rw[Mx.bG h];exact List.getElem_mem _
theorem ints_app{r:List Int}{x:Int}:aA r++[D.int x]=aA (r++[x]):=by simp[aA]
theorem Ey{A:List (List Int)}{r:List Int}:A.map bz++[bz r]=(A++[r]).map bz:=by simp
theorem sV{r s:List Int}{d:D}(h:d∈eA (aA r) (aA s)):∃a b,a∈r∧b∈s∧d= .tup [.int a,.int b]:=by
 obtain⟨n,hn,e⟩:=List.mem_iff_getElem.mp h
 have e':(eA (aA r) (aA s))[n]?=some d:=by rw[List.getElem?_eq_getElem hn,e]
 obtain⟨x,y,ex,ey,rfl⟩:=tK e'
 rw[List.getElem?_map]at ex ey
 cases q1:r[n]? with
 |none=>rw[q1]at ex;cases ex
 |some a=>
  cases q2:s[n]? with
  |none=>rw[q2]at ey;cases ey
  |some b=>
   rw[q1]at ex
   rw[q2]at ey
   cases ex
   cases ey
   exact⟨a,b,List.mem_of_getElem? q1,List.mem_of_getElem? q2,rfl⟩
theorem sZ(n:Nat):(List.replicate n [D.int 0]).flatten=aA (List.replicate n 0):=by
 induction n with
 |zero=>rfl
 |succ n ih=>rw[List.replicate_succ,List.flatten_cons,ih];rfl
theorem C7{x y:D}{xs ys:List D}:eA (x::xs) (y::ys)= .tup [x,y]::eA xs ys:=rfl
theorem oB{n:Nat}{r:List Int}:(aA r).all (pl n)=true:=by
 refine List.all_eq_true.mpr fun d hd=>?_
 obtain⟨i,_,rfl⟩:=List.mem_map.mp hd
 cases n<;>rfl
theorem Es{n:Nat}{A:List (List Int)}:pl (n+2) (LX A)=true:=by
 unfold pl
 refine List.all_eq_true.mpr fun d hd=>?_
 obtain⟨r,_,rfl⟩:=List.mem_map.mp hd
 unfold pl
 exact oB
def aE:Addr:=181
noncomputable abbrev fT(b:Bool):Cell:=Cell.tab 161 ⟨82,32,82,66⟩ "Bench.live_rows.<locals>.<lambda>" b
noncomputable abbrev HY:List (Addr×Pos×Str):=[(161,⟨82,32,82,66⟩,"Bench.live_rows.<locals>.<lambda>")]
noncomputable def s_:cD:=fun ds st K=>∃a b,ds=[.int a,.int b]∧K (.int ((Nat.gcd a.natAbs b.natAbs:Nat):Int)) st
noncomputable def pF:List Str:=["one","other","great","small","rest"]
noncomputable def EH:DS:=(aF (a8 2 (bw mW (af (ae 0) ak)))
 (aF (a8 3 (bw mW (af (ae 1) ak)))
 (aF (qo (a5 (au lS (ae 3) (dC (.int 0)))) (aF (a8 4 (au fC (ae 2) (ae 3)))
 (aF (a8 2 (ae 3))
 (a8 3 (ae 4)))))
 (bD (ae 2)))))
theorem Di{a:Int}{m:Nat}(h:a.natAbs<2^m):Builtin.Int.intBits a≤m:=by
 unfold Builtin.Int.intBits
 by_cases h0:a.natAbs=0
 · have:a=0:=by omega
   subst this
   simp
 · have:=(Nat.log2_lt h0).mpr h
   split<;>omega
theorem c7{a b:Int}{m n:Nat}(ha:a.natAbs≤2^m)(hb:b.natAbs≤2^n)(h:m+n≤130000000):IntMulOk a b:=by
 have q:∀ {x:Int} {k:Nat},x.natAbs≤2^k→Builtin.Int.intBits x≤k+1:=fun{x k} h=>Di (Nat.lt_of_le_of_lt h (Nat.pow_lt_pow_right (by decide) (Nat.lt_succ_self k)))
 have h1:=q ha
 have h2:=q hb
 have e:(2:Nat)^27=134217728:=by decide
 have z:Builtin.Int.intTooBig (Builtin.Int.intBits a+Builtin.Int.intBits b)=false:=by
  unfold Builtin.Int.intTooBig bitsLine
  exact decide_eq_false (by omega)
 unfold IntMulOk
 rw[z]
 simp
theorem xS(a b:Nat):(a:Int).fmod (b:Int)=((a%b:Nat):Int):=by
 rw[Int.fmod_eq_emod_of_nonneg _ (Int.natCast_nonneg b)]
 exact(Int.natCast_emod a b).symm
theorem CU:∀ds st K,s_ ds st K→ds.length=2∧EH {nx:=fun _ st'=>K .aG st',rt:=K} (a7 pF ds) st:=by
 rintro ds st K ⟨a,b,rfl,k⟩
 refine⟨rfl,?_⟩
 refine mM (mM ?_)
 refine⟨fun m σ st'=>∃(g s:Nat) (r:Option D),σ=[some (.int a),some (.int b),some (.int g),some (.int s),r]∧st'=st∧Nat.gcd g s=Nat.gcd a.natAbs b.natAbs∧s=m,⟨b.natAbs,a.natAbs,b.natAbs,none,?_,rfl,rfl,rfl⟩,?_⟩
 · rfl
 · rintro m σ st' ⟨g,s,r,rfl,rfl,hg,rfl⟩
   refine ne2 (fun h=>eB ?_) fun h=>?_
   · refine gn h ⟨g%s,Nat.mod_lt _ (by omega),s,g%s,some (.int ((g%s:Nat):Int)),?_,rfl,?_,rfl⟩
     · rw[xS];rfl
     · rw[Nat.gcd_comm,←Nat.gcd_rec,Nat.gcd_comm];exact hg
   · have:s=0:=by omega
     subst this
     rw[Nat.gcd_zero_right]at hg
     subst hg
     exact k
noncomputable abbrev fH(q:Rat):D:= .tup [.int q.num,.int ((q.den:Nat):Int)]
noncomputable def nh:cD:=fun ds st K=>∃(t b:Int),ds=[.int t,.int b]∧b≠0∧K (fH (Rat.divInt t b)) st
noncomputable def tU:List Str:=["top","bottom","shrink"]
noncomputable def Jb:DS:=(aF (a8 2 (aM s_ (af (ae 0) (af (ae 1) ak))))
 (aF (dz (a5 (au pV (ae 1) (dC (.int 0)))) (a8 2 (nz iZ (ae 2))) cN)
 (bD (gg (af (au i9 (ae 0) (ae 2)) (af (au i9 (ae 1) (ae 2)) ak))))))
theorem qg{g t:Int}(hg:g≠0)(h:g∣t):t.fdiv (-g)=(-1*t).fdiv g:=by
 obtain⟨c,rfl⟩:=h
 have e1:(g*c).fdiv (-g)= -c:=by
  have:g*c=(-g)*(-c):=by rw[Int.neg_mul_neg]
  rw[this,Int.mul_fdiv_cancel_left _ (by omega)]
 have e2:(-1*(g*c)).fdiv g= -c:=by
  have: -1*(g*c)=g*(-c):=by rw[Int.neg_mul,Int.one_mul,Int.mul_neg]
  rw[this,Int.mul_fdiv_cancel_left _ hg]
 rw[e1,e2]
theorem BY(t b:Int):((Nat.gcd t.natAbs b.natAbs:Nat):Int)∣t:=Int.ofNat_dvd_left.mpr (Nat.gcd_dvd_left _ _)
theorem CW(t b:Int):((Nat.gcd t.natAbs b.natAbs:Nat):Int)∣b:=Int.ofNat_dvd_left.mpr (Nat.gcd_dvd_right _ _)
theorem Gm{t b:Int}(hb:b≠0):D.tup [.int (((if b<0 then(-1:Int)else 1)*t).fdiv ((Nat.gcd t.natAbs b.natAbs:Nat):Int)),.int (((if b<0 then(-1:Int)else 1)*b).fdiv ((Nat.gcd t.natAbs b.natAbs:Nat):Int))]=fH (Rat.divInt t b):=by
 unfold fH
 have hg:(b.gcd t:Nat)=Nat.gcd t.natAbs b.natAbs:=by unfold Int.gcd;rw[Nat.gcd_comm]
 have hs:(if b<0 then(-1:Int)else 1)=b.sign:=by
  rcases Int.lt_trichotomy b 0 with h|h|h
  · rw[if_pos h,Int.sign_eq_neg_one_of_neg h]
  · exact absurd h hb
  · rw[if_neg (by omega),Int.sign_eq_one_of_pos h]
 have e1:(Rat.divInt t b).num=((if b<0 then(-1:Int)else 1)*t).fdiv ((Nat.gcd t.natAbs b.natAbs:Nat):Int):=by
  rw[Rat.num_divInt,hs,hg,Int.fdiv_eq_ediv_of_nonneg _ (Int.natCast_nonneg _)]
 have e2:(((Rat.divInt t b).den:Nat):Int)=((if b<0 then(-1:Int)else 1)*b).fdiv ((Nat.gcd t.natAbs b.natAbs:Nat):Int):=by
  rw[Rat.den_divInt,if_neg hb,hs,hg,Int.fdiv_eq_ediv_of_nonneg _ (Int.natCast_nonneg _),Int.natCast_ediv]
  congr 1
  rw[Int.sign_mul_self]
 rw[e1,e2]
theorem GA:∀ds st K,nh ds st K→ds.length=2∧Jb {nx:=fun _ st'=>K .aG st',rt:=K} (a7 tU ds) st:=by
 rintro ds st K ⟨t,b,rfl,hb,k⟩
 refine⟨rfl,?_⟩
 refine⟨t,b,rfl,?_⟩
 have hg0:Nat.gcd t.natAbs b.natAbs≠0:=fun z=>by
  have:=Nat.eq_zero_of_gcd_eq_zero_right z
  omega
 have hne:((Nat.gcd t.natAbs b.natAbs:Nat):Int)≠0:=by omega
 rw[←Gm hb]at k
 refine Kh (fun h=>eB ?_) fun h=>?_
 · rw[if_pos h,←qg hne (BY t b),←qg hne (CW t b)]at k
   exact iq (ir (by omega) (ir (by omega) ⟨Nat.le_of_ble_eq_true rfl,k⟩))
 · rw[if_neg (by omega),Int.one_mul,Int.one_mul]at k
   exact ir hne (ir hne ⟨Nat.le_of_ble_eq_true rfl,k⟩)
structure Fq(st:ag)(d:D)(q:Rat)(m:Nat):Prop where
 aq:items? st d=some [.int q.num,.int ((q.den:Nat):Int)]
 sz:Mx.Sz q m
theorem Fq.b{st:ag}{d:D}{q:Rat}{m:Nat}(h:Fq st d q m):(((q.den:Nat):Int)).natAbs≤2^m:=h.sz.den
theorem Fq.of{st:ag}{q:Rat}{m:Nat}(h:Mx.Sz q m):Fq st (fH q) q m:=⟨rfl,h⟩
noncomputable def yH:cD:=fun ds st K=>∃x y p q a b,ds=[x,y]∧Fq st x p a∧Fq st y q b∧a+b≤130000000∧K (fH (p+q)) st
noncomputable def ui:List Str:=["one","other"]
noncomputable def Ja:DS:=(bD (aM nh (af (au dy (au cK (au aT (ae 0) (dC (.int 0))) (au aT (ae 1) (dC (.int 1)))) (au cK (au aT (ae 1) (dC (.int 0))) (au aT (ae 0) (dC (.int 1))))) (af (au cK (au aT (ae 0) (dC (.int 1))) (au aT (ae 1) (dC (.int 1)))) ak))))
theorem Gg:∀ds st K,yH ds st K→ds.length=2∧Ja {nx:=fun _ st'=>K .aG st',rt:=K} (a7 ui ds) st:=by
 rintro ds st K ⟨x,y,p,q,a,b,rfl,X,Y,h,k⟩
 refine⟨rfl,?_⟩
 have h':b+a≤130000000:=by omega
 rw[Mx.add_eq]at k
 exact az X.aq rfl (az Y.aq rfl (cA (c7 X.sz.num Y.b h) (az Y.aq rfl (az X.aq rfl (cA (c7 Y.sz.num X.b h') (dQ (az X.aq rfl (az Y.aq rfl (cA (c7 X.b Y.b h) ⟨_,_,rfl,Int.mul_ne_zero (Mx.den_nz p) (Mx.den_nz q),k⟩)))))))))
noncomputable def vb:cD:=fun ds st K=>∃x y p q a b,ds=[x,y]∧Fq st x p a∧Fq st y q b∧a+b≤130000000∧K (fH (p-q)) st
noncomputable def rG:List Str:=["one","other"]
noncomputable def Gd:DS:=(bD (aM nh (af (au j_ (au cK (au aT (ae 0) (dC (.int 0))) (au aT (ae 1) (dC (.int 1)))) (au cK (au aT (ae 1) (dC (.int 0))) (au aT (ae 0) (dC (.int 1))))) (af (au cK (au aT (ae 0) (dC (.int 1))) (au aT (ae 1) (dC (.int 1)))) ak))))
theorem Dq:∀ds st K,vb ds st K→ds.length=2∧Gd {nx:=fun _ st'=>K .aG st',rt:=K} (a7 rG ds) st:=by
 rintro ds st K ⟨x,y,p,q,a,b,rfl,X,Y,h,k⟩
 refine⟨rfl,?_⟩
 have h':b+a≤130000000:=by omega
 rw[Mx.sub_eq]at k
 exact az X.aq rfl (az Y.aq rfl (cA (c7 X.sz.num Y.b h) (az Y.aq rfl (az X.aq rfl (cA (c7 Y.sz.num X.b h') (i0 (az X.aq rfl (az Y.aq rfl (cA (c7 X.b Y.b h) ⟨_,_,rfl,Int.mul_ne_zero (Mx.den_nz p) (Mx.den_nz q),k⟩)))))))))
noncomputable def uQ:cD:=fun ds st K=>∃x y p q a b,ds=[x,y]∧Fq st x p a∧Fq st y q b∧a+b≤130000000∧K (fH (p*q)) st
noncomputable def rK:List Str:=["one","other"]
noncomputable def FU:DS:=(bD (aM nh (af (au cK (au aT (ae 0) (dC (.int 0))) (au aT (ae 1) (dC (.int 0)))) (af (au cK (au aT (ae 0) (dC (.int 1))) (au aT (ae 1) (dC (.int 1)))) ak))))
theorem DG:∀ds st K,uQ ds st K→ds.length=2∧FU {nx:=fun _ st'=>K .aG st',rt:=K} (a7 rK ds) st:=by
 rintro ds st K ⟨x,y,p,q,a,b,rfl,X,Y,h,k⟩
 refine⟨rfl,?_⟩
 rw[Mx.mul_eq]at k
 exact az X.aq rfl (az Y.aq rfl (cA (c7 X.sz.num Y.sz.num h) (az X.aq rfl (az Y.aq rfl (cA (c7 X.b Y.b h) ⟨_,_,rfl,Int.mul_ne_zero (Mx.den_nz p) (Mx.den_nz q),k⟩)))))
noncomputable def xg:cD:=fun ds st K=>∃x y p q a b,ds=[x,y]∧Fq st x p a∧Fq st y q b∧a+b≤130000000∧q.num≠0∧K (fH (p/q)) st
noncomputable def uw:List Str:=["one","other"]
noncomputable def JU:DS:=(bD (aM nh (af (au cK (au aT (ae 0) (dC (.int 0))) (au aT (ae 1) (dC (.int 1)))) (af (au cK (au aT (ae 0) (dC (.int 1))) (au aT (ae 1) (dC (.int 0)))) ak))))
theorem FZ:∀ds st K,xg ds st K→ds.length=2∧JU {nx:=fun _ st'=>K .aG st',rt:=K} (a7 uw ds) st:=by
 rintro ds st K ⟨x,y,p,q,a,b,rfl,X,Y,h,hq,k⟩
 refine⟨rfl,?_⟩
 rw[Mx.div_eq]at k
 exact az X.aq rfl (az Y.aq rfl (cA (c7 X.sz.num Y.b h) (az X.aq rfl (az Y.aq rfl (cA (c7 X.b Y.sz.num h) ⟨_,_,rfl,Int.mul_ne_zero (Mx.den_nz p) hq,k⟩)))))
noncomputable def kh:cD:=fun ds st K=>∃n:Int,ds=[.int n]∧K (fH (n:Rat)) st
noncomputable def rP:List Str:=["n"]
noncomputable def GY:DS:=(bD (gg (af (ae 0) (af (dC (.int 1)) ak))))
theorem Ew:∀ds st K,kh ds st K→ds.length=1∧GY {nx:=fun _ st'=>K .aG st',rt:=K} (a7 rP ds) st:=by
 rintro ds st K ⟨n,rfl,k⟩
 exact⟨rfl,Nat.le_of_ble_eq_true rfl,k⟩
noncomputable def nq:cD:=fun ds st K=>∃(d:D) (A:List (List Int)),ds=[d]∧je st d A∧A.length≤1000∧K (dW A) st
noncomputable def nC:List Str:=["rows"]
noncomputable def BD:DS:=(bD (bw dU (af (c5 (dA (ae 0)) [none] (bL 0) cq (bw dU (af (ae 0) ak))) ak)))
theorem iS{tg:fB}{te:DE}{ok:ag→Prop}{σc:cj}{st:ag}{K:List D→ag→Prop}{ds:List D}{A:List (List Int)}(f:List Int→D)(aI:ok st)(hr:cx st ds A)(hx:∀d r,r∈A→items? st d=some (aA r)→∀K',K' (f r) st→∃σ2,tg d σc=some σ2∧te σ2 st K')(k:K (A.map f) st):dk tg cq te ok σc ds [] st K:=by
 refine iz (fun rest acc st'=>∃(A1 A2:List (List Int)),st=st'∧A1++A2=A∧cx st rest A2∧acc=A1.map f) ?_ ?_ _ _ _ ⟨[],A,rfl,rfl,hr,rfl⟩
 · rintro acc st' ⟨A1,A2,rfl,he,h,rfl⟩
   match A2,h with
   | [],_=>
     rw[List.append_nil]at he
     subst he
     exact⟨aI,k⟩
 · rintro d rest acc st' ⟨A1,A2,rfl,he,h,rfl⟩ next
   match A2,h with
   |r::A2,h=>
    obtain⟨σ2,e2,q⟩:=hx d r (by rw[←he];simp) h.1 (fun y st2=>dk tg cq te ok σc rest (A1.map f++[y]) st2 K) (next _ _ ⟨A1++[r],A2,rfl,by rw[←he];simp,h.2,by simp⟩)
    exact⟨aI,σ2,e2,q⟩
theorem AG:∀ds st K,nq ds st K→ds.length=1∧BD {nx:=fun _ st'=>K .aG st',rt:=K} (a7 nC ds) st:=by
 rintro ds st K ⟨d,A,rfl,⟨da,hd,ra⟩,hl,k⟩
 refine⟨rfl,?_⟩
 refine tR hd fun ok aI=>⟨b_ (by rw[ra.len];exact hl),?_⟩
 refine iS bz aI ra (fun e r hr he K' q=>⟨_,rfl,dw he q⟩) ?_
 exact dw rfl k
noncomputable def kB:cD:=fun ds st K=>∃x y t r s,ds=[x,.int t,y]∧items? st x=some (aA r)∧items? st y=some (aA s)∧r.length≤1000∧(∀b∈s,IntMulOk t b)∧K (aY (Mx.fb r t s)) st
noncomputable def rm:List Str:=["row","times","other"]
noncomputable def Hk:DS:=(bD (c5 (pB (af (ae 0) (af (ae 2) ak))) [none,none,some 1] (fz 0 1) cq (au dy (ae 0) (au cK (ae 2) (ae 1)))))
theorem qU{t:Int}:∀(r s:List Int),(eA (aA r) (aA s)).map (fun d=>match d with| .tup [.int a,.int b]=> .int (a+t*b)|_=> .aG)=aA (Mx.fb r t s)
 | [],_=>rfl
 |_::_,[]=>rfl
 |a::r,b::s=>by
  have:=qU (t:=t) r s
  unfold eA Mx.fb at this⊢
  simp only[aA,List.map_cons,List.zip_cons_cons,List.zipWith_cons_cons]at this⊢
  rw[this]
theorem Et:∀ds st K,kB ds st K→ds.length=3∧Hk {nx:=fun _ st'=>K .aG st',rt:=K} (a7 rm ds) st:=by
 rintro ds st K ⟨x,y,t,r,s,rfl,hx,hy,hl,hm,k⟩
 refine⟨rfl,?_⟩
 refine m5 hx hy fun ok aI=>⟨b_ (by rw[mR];simp;omega),?_⟩
 refine comp_map (g:=fun d=>match d with| .tup [.int a,.int b]=> .int (a+t*b)|_=> .aG) (aI st hx hy) _ (fun d hd K' q=>?_) ?_
 · obtain⟨a,b,ha,hb,rfl⟩:=sV hd
   exact⟨_,rfl,cA (hm b hb) (dQ q)⟩
 · rw[qU];exact k
noncomputable def sS:cD:=fun ds st K=>∃(x y:D) (n:Nat) (ws:List Int) (A:List (List Int)),ds=[x,y,.int n]∧items? st x=some (aA ws)∧je st y A∧(∀r∈A,r.length=n)∧n≤1000∧(∀w∈ws,∀r∈A,∀b∈r,IntMulOk w b)∧K (bz (Mx.fA ws A (List.replicate n 0))) st
noncomputable def o6:List Str:=["weights","rows","wide","total","weight","row"]
noncomputable def DX:DS:=(aF (a8 3 (au cK (nc (af (dC (.int 0)) ak)) (ae 2)))
 (aF (iA (pB (af (ae 0) (af (ae 1) ak))) (fz 4 5) (a8 3 (aM kB (af (ae 3) (af (ae 4) (af (ae 5) ak))))))
 (bD (bw dU (af (ae 3) ak)))))
theorem CB:∀ds st K,sS ds st K→ds.length=3∧DX {nx:=fun _ st'=>K .aG st',rt:=K} (a7 o6 ds) st:=by
 rintro ds st K ⟨x,y,n,ws,A,rfl,hx,⟨dr,hy,hr⟩,hw,hn,hm,k⟩
 refine⟨rfl,?_⟩
 refine IG (Nat.le_of_ble_eq_true rfl) (uS ⟨by omega,by omega,b_ (by simp;omega)⟩ ?_)
 rw[Int.toNat_natCast,sZ]
 refine m5 hx hy fun ok aI=>?_
 refine fE (fun rest σ st'=>∃(v4 v5:Option D) (ws':List Int) (ds':List D) (A':List (List Int)) (acc:List Int),st=st'∧rest=eA (aA ws') ds'∧cx st ds' A'∧σ=[some x,some y,some (.int n),some (aY acc),v4,v5]∧acc.length=n∧(∀r∈A',r∈A)∧(∀w∈ws',w∈ws)∧Mx.fA ws' A' acc=Mx.fA ws A (List.replicate n 0)) ?_ ?_ _ _ _
  ⟨none,none,ws,dr,A,List.replicate n 0,rfl,rfl,hr,rfl,by simp,fun _ h=>h,fun _ h=>h,rfl⟩
 · rintro σ st1 ⟨v4,v5,ws',ds',A',acc,rfl,he,hr',rfl,hl,_,_,hs⟩
   refine⟨aI _ hx hy,dw rfl ?_⟩
   have:Mx.fA ws' A' acc=acc:=by
    match ws',ds',A',hr',he with
    | [],_,_,_,_=>unfold Mx.fA;rfl
    |_::_,[],[],_,_=>unfold Mx.fA;rfl
    |_::_,_::_,_::_,_,he=>cases he
   rw[this]at hs
   rw[hs];exact k
 · rintro d rest σ st1 ⟨v4,v5,ws',ds',A',acc,rfl,he,hr',rfl,hl,ha,hw',hs⟩ next
   match ws',ds',A',hr',he with
   |w::ws',e::ds',r::A',hr',he=>
    simp only[aA,List.map_cons,C7,List.cons.injEq]at he
    obtain⟨rfl,rfl⟩:=he
    refine⟨aI _ hx hy,_,rfl,?_⟩
    have hrl:=hw r (ha r List.mem_cons_self)
    refine⟨_,_,_,acc,r,rfl,rfl,hr'.1,by omega,fun b hb=>hm w (hw' w List.mem_cons_self) r (ha r List.mem_cons_self) b hb,?_⟩
    refine next _ _ ⟨_,_,ws',ds',A',Mx.fb acc w r,rfl,rfl,hr'.2,rfl,by rw[Mx.kg (by omega)];exact hl,fun q hq=>ha q (List.mem_cons_of_mem _ hq),fun q hq=>hw' q (List.mem_cons_of_mem _ hq),?_⟩
    rw[←hs];rfl
   | [],_,_,_,he=>cases he
   |_::_,[],[],_,he=>cases he
noncomputable def tF:cD:=fun ds st K=>∃(d:D) (A:List (List Int)) (j:Nat),ds=[d,.int j]∧je st d A∧(∀r∈A,j<r.length)∧A.length≤1000∧K (bz (Mx.u0 A j)) st
noncomputable def pv:List Str:=["rows","place"]
noncomputable def Ep:DS:=(bD (bw dU (af (c5 (dA (ae 0)) [none,some 1] (bL 0) cq (au aT (ae 0) (ae 1))) ak)))
theorem C6{tg:fB}{te:DE}{ok:ag→Prop}{σc:cj}{st:ag}{K:List D→ag→Prop}{ds:List D}{A:List (List Int)}(f:List Int→D)(aI:ok st)(hr:cx st ds A)(hx:∀d r,r∈A→items? st d=some (aA r)→∀K',K' (f r) st→∃σ2,tg d σc=some σ2∧te σ2 st K')(k:K (A.map f) st):dk tg cq te ok σc ds [] st K:=by
 refine iz (fun rest acc st'=>∃(A1 A2:List (List Int)),st=st'∧A1++A2=A∧cx st rest A2∧acc=A1.map f) ?_ ?_ _ _ _ ⟨[],A,rfl,rfl,hr,rfl⟩
 · rintro acc st' ⟨A1,A2,rfl,he,h,rfl⟩
   match A2,h with
   | [],_=>
     rw[List.append_nil]at he
     subst he
     exact⟨aI,k⟩
 · rintro d rest acc st' ⟨A1,A2,rfl,he,h,rfl⟩ next
   match A2,h with
   |r::A2,h=>
    obtain⟨σ2,e2,q⟩:=hx d r (by rw[←he];simp) h.1 (fun y st2=>dk tg cq te ok σc rest (A1.map f++[y]) st2 K) (next _ _ ⟨A1++[r],A2,rfl,by rw[←he];simp,h.2,by simp⟩)
    exact⟨aI,σ2,e2,q⟩
theorem Bm(A:List (List Int))(j:Nat):A.map (fun r=>D.int (r.getD j 0))=aA (Mx.u0 A j):=by unfold Mx.u0 aA;rw[List.map_map];rfl
theorem Bv:∀ds st K,tF ds st K→ds.length=2∧Ep {nx:=fun _ st'=>K .aG st',rt:=K} (a7 pv ds) st:=by
 rintro ds st K ⟨d,A,j,rfl,⟨da,hd,ra⟩,hj,hl,k⟩
 refine⟨rfl,?_⟩
 refine tR hd fun ok aI=>⟨b_ (by rw[ra.len];exact hl),?_⟩
 refine C6 (fun r=> .int (r.getD j 0)) aI ra (fun e r hr he K' q=>⟨_,rfl,az he (gY (hj r hr)) q⟩) ?_
 rw[Bm]
 exact dw rfl k
noncomputable def lM:cD:=fun ds st K=>∃(d:D) (A:List (List Int)) (n:Nat),ds=[d,.int n]∧je st d A∧(∀r∈A,r.length=n)∧A.length≤1000∧n≤1000∧K (dW (Mx.Ft A n)) st
noncomputable def jh:List Str:=["rows","wide"]
noncomputable def wa:DS:=(bD (bw dU (af (c5 (gq (af (ae 1) ak)) [none,some 0] (bL 0) cq (aM tF (af (ae 1) (af (ae 0) ak)))) ak)))
theorem Ea(A:List (List Int))(n:Nat):(List.range n).map (fun j=>bz (Mx.u0 A j))=(Mx.Ft A n).map bz:=by unfold Mx.Ft;rw[List.map_map];rfl
theorem uU:∀ds st K,lM ds st K→ds.length=2∧wa {nx:=fun _ st'=>K .aG st',rt:=K} (a7 jh ds) st:=by
 rintro ds st K ⟨d,A,n,rfl,hd,hw,hl,hn,k⟩
 refine⟨rfl,?_⟩
 refine jz ⟨by omega,by omega⟩ ⟨b_ (by rw[gz];omega),?_⟩
 rw[Int.toNat_natCast]
 refine lZ (fun j=>bz (Mx.u0 A j)) n (fun i hi K' q=>⟨_,rfl,d,A,i,rfl,hd,fun r hr=>by rw[hw r hr];exact hi,hl,q⟩) ?_
 rw[Ea]
 exact dw rfl k
noncomputable def oV:cD:=fun ds st K=>∃(n i:Nat),ds=[.int n,.int i]∧n≤1000∧K (bz (Mx.jt n i)) st
noncomputable def mh:List Str:=["n","place"]
noncomputable def AI:DS:=(bD (bw dU (af (c5 (gq (af (ae 0) ak)) [none,some 1] (bL 0) cq (IA (a5 (au iw (ae 0) (ae 1))) (dC (.int 1)) (dC (.int 0)))) ak)))
theorem yY:∀ds st K,oV ds st K→ds.length=2∧AI {nx:=fun _ st'=>K .aG st',rt:=K} (a7 mh ds) st:=by
 rintro ds st K ⟨n,i,rfl,hn,k⟩
 refine⟨rfl,?_⟩
 refine jz ⟨by omega,by omega⟩ ⟨b_ (by rw[gz];omega),?_⟩
 rw[Int.toNat_natCast]
 refine lZ (fun j=> .int (Mx.dl j i)) n (fun j hj K' q=>⟨_,rfl,?_⟩) ?_
 · refine eq2 (fun h=>eB ?_) fun h=>?_
   · have:j=i:=by omega
     subst this
     rw[Mx.eJ]at q;exact q
   · rw[Mx.eY (by omega)]at q;exact q
 · have:(List.range n).map (fun j=>D.int (Mx.dl j i))=aA (Mx.jt n i):=by unfold Mx.jt aA;rw[List.map_map];rfl
   rw[this]
   exact dw rfl k
noncomputable def kX:cD:=fun ds st K=>∃(n:Nat),ds=[.int n]∧n≤1000∧K (dW (Mx.units n)) st
noncomputable def kY:List Str:=["n"]
noncomputable def yZ:DS:=(bD (bw dU (af (c5 (gq (af (ae 0) ak)) [none,some 0] (bL 0) cq (aM oV (af (ae 1) (af (ae 0) ak)))) ak)))
theorem xt:∀ds st K,kX ds st K→ds.length=1∧yZ {nx:=fun _ st'=>K .aG st',rt:=K} (a7 kY ds) st:=by
 rintro ds st K ⟨n,rfl,hn,k⟩
 refine⟨rfl,?_⟩
 refine jz ⟨by omega,by omega⟩ ⟨b_ (by rw[gz];omega),?_⟩
 rw[Int.toNat_natCast]
 refine lZ (fun i=>bz (Mx.jt n i)) n (fun i hi K' q=>⟨_,rfl,n,i,rfl,hn,q⟩) ?_
 have:(List.range n).map (fun i=>bz (Mx.jt n i))=(Mx.units n).map bz:=by unfold Mx.units;rw[List.map_map];rfl
 rw[this]
 exact dw rfl k
noncomputable def iO:List Int→Nat→Option Nat
 | [],_=>none
 |x::xs,i=>if x=0 then iO xs (i+1)else some i
noncomputable def j7(r:List Int):Option Nat:=iO r 0
noncomputable def iP(r:List Int):D:=match j7 r with
 |some k=> .int (k:Int)
 |none=> .aG
noncomputable def iy:cD:=fun ds st K=>∃(d:D) (r:List Int),ds=[d]∧items? st d=some (aA r)∧K (iP r) st
noncomputable def nI:List Str:=["row","place","number"]
noncomputable def Bj:DS:=(aF (iA (wd (af (ae 0) ak)) (fz 1 2) (dz (a5 (au lS (ae 2) (dC (.int 0)))) (bD (ae 1)) cN))
 (bD (dC .aG)))
theorem Ag:∀ds st K,iy ds st K→ds.length=1∧Bj {nx:=fun _ st'=>K .aG st',rt:=K} (a7 nI ds) st:=by
 rintro ds st K ⟨d,r,rfl,hd,k⟩
 refine⟨rfl,?_⟩
 refine zH hd fun ok aI=>?_
 refine fE (fun rest σ st'=>st'=st∧∃(v1 v2:Option D) (s:List Int) (i:Nat),σ=[some d,v1,v2]∧rest=f7 i (aA s)∧iO r 0=iO s i) ?_ ?_ _ _ _ ⟨rfl,none,none,r,0,rfl,rfl,rfl⟩
 · rintro σ st' ⟨rfl,v1,v2,s,i,rfl,hr,hl⟩
   match s,hr with
   | [],_=>
     refine⟨aI _ hd,?_⟩
     have:iP r= .aG:=by unfold iP j7;rw[hl];rfl
     rw[this]at k;exact k
 · rintro x rest σ st' ⟨rfl,v1,v2,s,i,rfl,hr,hl⟩ next
   match s,hr,hl with
   |y::s,hr,hl=>
    simp only[aA,List.map_cons,f7,List.cons.injEq]at hr
    obtain⟨rfl,rfl⟩:=hr
    refine⟨aI _ hd,_,rfl,?_⟩
    refine ne2 (fun h=>eB ?_) fun h=>?_
    · have:iP r= .int (i:Int):=by unfold iP j7;rw[hl];unfold iO;rw[if_neg h]
      rw[this]at k;exact k
    · refine next _ _ ⟨rfl,_,_,s,i+1,rfl,rfl,?_⟩
      rw[hl];unfold iO;rw[if_pos h];cases s<;>rfl
   | [],hr,_=>cases hr
theorem wN:∀(r:List Int) (i l:Nat),(∀c,c<l→r.getD c 0=0)→r.getD l 0≠0→iO r i=some (i+l)
 | [],_,_,_,h=>(h rfl).elim
 |x::r,i,0,_,h=>by
  unfold iO
  rw[if_neg (show¬x=0 from h)];rfl
 |x::r,i,l+1,hz,h=>by
  unfold iO
  rw[if_pos (show x=0 from hz 0 (Nat.zero_lt_succ _)),wN r (i+1) l (fun c hc=>hz (c+1) (Nat.succ_lt_succ hc)) h,Nat.add_right_comm]
  rfl
theorem uA:∀(r:List Int) (i:Nat),iO r i=none→∀c,r.getD c 0=0
 | [],_,_,_=>rfl
 |x::r,i,h,c=>by
  unfold iO at h
  split at h
  · cases c with
    |zero=>assumption
    |succ c=>exact uA r (i+1) h c
  · cases h
theorem CJ{r:List Int}{l:Nat}(h:∀c,c<l→r.getD c 0=0)(h':r.getD l 0≠0):j7 r=some l:=by
 have:=wN r 0 l h h'
 rw[Nat.zero_add]at this
 exact this
noncomputable def il:cD:=fun ds st K=>∃(t d:Int),ds=[.int t,.int d]∧d≠0∧K (.int (Mx.qn t d)) st
noncomputable def fI:List Str:=["top","bottom"]
noncomputable def qc:DS:=(bD (au i9 (au dy (au cK (dC (.int 2)) (ae 0)) (ae 1)) (au cK (dC (.int 2)) (ae 1))))
theorem pY:∀ds st K,il ds st K→ds.length=2∧qc {nx:=fun _ st'=>K .aG st',rt:=K} (a7 fI ds) st:=by
 rintro ds st K ⟨t,d,rfl,hd,k⟩
 exact⟨rfl,cA (gW (by decide) (by decide)) (dQ (cA (gW (by decide) (by decide)) (ir (by omega) k)))⟩
noncomputable def i4:cD:=fun ds st K=>∃(n k o:Nat) (A:List (List Int)),ds=[.ref n,.int k,.int o]∧st[n]?=some (.lst (A.map aY))∧k<A.length∧o<A.length∧K (.ref st.length) (st++[.lst ((Mx.bC A k o).map aY)])
noncomputable def kJ:List Str:=["rows","k","other","order"]
noncomputable def yQ:DS:=(aF (a8 3 (bw qm (af (ae 0) ak)))
 (aF (eS (ae 3) (ae 1) (au aT (ae 0) (ae 2)))
 (aF (eS (ae 3) (ae 2) (au aT (ae 0) (ae 1)))
 (bD (ae 3)))))
theorem dE{A:List (List Int)}{j:Nat}(h:j<A.length):dM (A.map aY) (j:Int)=some (aY (A.getD j [])):=by
 refine kj ?_
 rw[List.getElem?_map,List.getElem?_eq_getElem h,Mx.bG h];rfl
theorem ll{m k:Nat}(h:k<m):kb m (k:Int)=some k:=by
 have:=Je (i:=(k:Int)) (m:=m) (by omega) (by omega)
 rw[Int.toNat_natCast]at this
 exact this
theorem gZ{A:List (List Int)}{k:Nat}{r:List Int}:(A.map aY).set k (aY r)=(A.set k r).map aY:=by rw[List.map_set]
theorem yj:∀ds st K,i4 ds st K→ds.length=3∧yQ {nx:=fun _ st'=>K .aG st',rt:=K} (a7 kJ ds) st:=by
 rintro ds st K ⟨n,k,o,A,rfl,e,hk,ho,kk⟩
 refine⟨rfl,?_⟩
 have hn:n<st.length:=(List.getElem?_eq_some_iff.mp e).1
 refine DW (aH e) ?_
 have e1:(st++[Cell.lst (A.map aY)])[n]?=some (.lst (A.map aY)):=by rw[List.getElem?_append_left hn];exact e
 have e2:(st++[Cell.lst (A.map aY)])[st.length]?=some (.lst (A.map aY)):=by simp
 refine az (aH e1) (dE ho) (iu e2 (by rw[List.length_map];exact ll hk) ?_)
 rw[gZ]
 have es:(st++[Cell.lst (A.map aY)]).set st.length (.lst ((A.set k (A.getD o [])).map aY))=st++[Cell.lst ((A.set k (A.getD o [])).map aY)]:=by
  rw[List.set_append_right _ _ (Nat.le_refl _),Nat.sub_self];rfl
 rw[es]
 have e3:(st++[Cell.lst ((A.set k (A.getD o [])).map aY)])[n]?=some (.lst (A.map aY)):=by rw[List.getElem?_append_left hn];exact e
 have e4:(st++[Cell.lst ((A.set k (A.getD o [])).map aY)])[st.length]?=some (.lst ((A.set k (A.getD o [])).map aY)):=by simp
 refine az (aH e3) (dE hk) (iu e4 (by rw[List.length_map,List.length_set];exact ll ho) ?_)
 rw[gZ]
 have es2:(st++[Cell.lst ((A.set k (A.getD o [])).map aY)]).set st.length (.lst (((A.set k (A.getD o [])).set o (A.getD k [])).map aY))=st++[Cell.lst ((Mx.bC A k o).map aY)]:=by
  rw[List.set_append_right _ _ (Nat.le_refl _),Nat.sub_self];rfl
 rw[es2]
 exact kk
noncomputable def lq:cD:=fun ds st K=>∃(d:D) (r:List Int),ds=[d]∧items? st d=some (aA r)∧r.length≤1000∧K (aY (r.map fun x=> -x)) st
noncomputable def nB:List Str:=["row"]
noncomputable def CN:DS:=(bD (c5 (dA (ae 0)) [none] (bL 0) cq (nz iZ (ae 0))))
theorem AQ:∀ds st K,lq ds st K→ds.length=1∧CN {nx:=fun _ st'=>K .aG st',rt:=K} (a7 nB ds) st:=by
 rintro ds st K ⟨d,r,rfl,hd,hl,k⟩
 refine⟨rfl,?_⟩
 refine tR hd fun ok aI=>⟨b_ (by unfold aA;rw[List.length_map];exact hl),?_⟩
 refine comp_map (g:=fun x=>match x with| .int a=> .int (-a)|_=> .aG) aI _ (fun x hx K' q=>?_) ?_
 · unfold aA at hx
   obtain⟨a,_,rfl⟩:=List.mem_map.mp hx
   exact⟨_,rfl,iq q⟩
 · have e:(aA r).map (fun x=>match x with| .int a=> .int (-a)|_=> .aG)=aA (r.map fun x=> -x):=by unfold aA;rw[List.map_map,List.map_map];rfl
   rw[e];exact k
structure Bn(st:ag)(b xb xu xc:Nat)(A U C:List (List Int)):Prop where
 eb:st[b]?=some (Cell.ins aE [("body",.ref xb),("turn",.ref xu),("back_columns",.ref xc)])
 e1:st[xb]?=some (Cell.lst (A.map aY))
 e2:st[xu]?=some (Cell.lst (U.map aY))
 e3:st[xc]?=some (Cell.lst (C.map aY))
 n1:xb≠xu
 n2:xb≠xc
 n3:xu≠xc
theorem jK{st:ag}{b x:Nat}{C:Addr}{fs:List (Str×D)}{xs:List D}(h1:st[b]?=some (Cell.ins C fs))(h2:st[x]?=some (Cell.lst xs)):b≠x:=fun z=>by rw[z,h2]at h1;cases h1
noncomputable def jn:cD:=fun ds st K=>∃(b N:Nat) (d:D) (A:List (List Int)),ds=[.ref b,d]∧st[b]?=some (.ins aE [])∧je st d A∧A.length=N∧N≤8∧∀st',Bn st' b st.length (st.length+1) (st.length+2) A (Mx.units N) (Mx.units N)→st'.length=st.length+3→(∀m,m<st.length→m≠b→st'[m]?=st[m]?)→K .aG st'
noncomputable def gD:List Str:=["self","rows"]
noncomputable def tH:DS:=(aF (nu aE "body" (ae 0) (qi (dA (ae 1)) [none] (bL 0) cq (bw hO (af (ae 0) ak))))
 (aF (nu aE "turn" (ae 0) (qi (dA (aM kX (af (bw eR (af (ae 1) ak)) ak))) [none] (bL 0) cq (bw hO (af (ae 0) ak))))
 (nu aE "back_columns" (ae 0) (qi (dA (aM kX (af (bw eR (af (ae 1) ak)) ak))) [none] (bL 0) cq (bw hO (af (ae 0) ak))))))
theorem o8(f:Str)(v:D):∀fs:List (Str×D),(putD f v fs).length≤fs.length+1
 | []=>by simp[putD]
 |(g,x)::r=>by
  unfold putD
  split
  · simp
  · have:=o8 f v r
    simp only[List.length_cons]
    omega
theorem yu{st:ag}{A:List (List Int)}:cx st (A.map bz) A:=cx.tup
theorem vG(n:Nat):(Mx.units n).length=n:=by unfold Mx.units;simp
theorem rV:∀ds st K,jn ds st K→ds.length=2∧tH {nx:=fun _ st'=>K .aG st',rt:=K} (a7 gD ds) st:=by
 rintro ds st K ⟨b,N,d,A,rfl,eb,hA,hl,hN,k⟩
 refine⟨rfl,?_⟩
 have hb:b<st.length:=(List.getElem?_eq_some_iff.mp eb).1
 obtain⟨da,hd,ra⟩:=hA.ex
 have hdl:=ra.len
 have lst:∀(e:D) (r:List Int),True:=fun _ _=>trivial
 refine tR hd fun ok aI=>⟨b_ (by omega),?_⟩
 refine iS aY aI ra (fun e r hr he K' q=>⟨_,rfl,gO he q⟩) ?_
 have eb1:(st++[Cell.lst (A.map aY)])[b]?=some (.ins aE []):=by rw[List.getElem?_append_left hb];exact eb
 refine mw eb1 (by decide) ?_
 generalize hs1:(st++[Cell.lst (A.map aY)]).set b (.ins aE (putD "body" (.ref st.length) []))=st1
 have l1:st1.length=st.length+1:=by rw[←hs1];simp
 have f1:∀m,m<st.length→m≠b→st1[m]?=st[m]?:=fun m hm hmb=>by rw[←hs1,List.getElem?_set_ne (Ne.symm hmb),List.getElem?_append_left hm]
 have b1:st1[b]?=some (.ins aE (putD "body" (.ref st.length) [])):=by rw[←hs1,List.getElem?_set_self (by simp;omega)]
 have x1:st1[st.length]?=some (.lst (A.map aY)):=by rw[←hs1,List.getElem?_set_ne (by omega)];simp
 clear hs1
 have itd:∃da',items? st1 d=some da'∧da'.length=N:=by
  cases d with
  |ref n=>
   by_cases hnb:n=b
   · subst hnb
     unfold items? at hd
     simp only[eb]at hd
     cases hd
   · have hn:n<st.length:=by
      unfold items? at hd
      simp only at hd
      cases q:st[n]? with
      |none=>rw[q]at hd;cases hd
      |some c=>exact(List.getElem?_eq_some_iff.mp q).1
     refine⟨da,?_,by omega⟩
     unfold items? at hd⊢
     simp only at hd⊢
     rw[f1 n hn hnb]
     exact hd
  |_=>exact⟨da,hd,by omega⟩
 obtain⟨da1,hd1,hdl1⟩:=itd
 refine di hd1 ?_
 rw[hdl1]
 refine⟨N,rfl,by omega,?_⟩
 refine e8 ⟨b_ (by rw[List.length_map,vG];omega),?_⟩
 refine iS aY trivial yu (fun e r hr he K' q=>⟨_,rfl,gO he q⟩) ?_
 have b2:(st1++[Cell.lst ((Mx.units N).map aY)])[b]?=some (.ins aE (putD "body" (.ref st.length) [])):=by rw[List.getElem?_append_left (by omega)];exact b1
 refine mw b2 (by have:=o8 "body" (.ref st.length) [];simp only[List.length_nil]at this;omega) ?_
 generalize hs2:(st1++[Cell.lst ((Mx.units N).map aY)]).set b (.ins aE (putD "turn" (.ref st1.length) (putD "body" (.ref st.length) [])))=st2
 have l2:st2.length=st.length+2:=by rw[←hs2];simp;omega
 have f2:∀m,m<st1.length→m≠b→st2[m]?=st1[m]?:=fun m hm hmb=>by rw[←hs2,List.getElem?_set_ne (Ne.symm hmb),List.getElem?_append_left hm]
 have b2':st2[b]?=some (.ins aE (putD "turn" (.ref st1.length) (putD "body" (.ref st.length) []))):=by rw[←hs2,List.getElem?_set_self (by simp;omega)]
 have x2:st2[st1.length]?=some (.lst ((Mx.units N).map aY)):=by rw[←hs2,List.getElem?_set_ne (by omega)];simp
 clear hs2
 have itd2:items? st2 d=some da1:=by
  cases d with
  |ref n=>
   by_cases hnb:n=b
   · subst hnb
     unfold items? at hd1
     simp only[b1]at hd1
     cases hd1
   · have hn:n<st1.length:=by
      unfold items? at hd1
      simp only at hd1
      cases q:st1[n]? with
      |none=>rw[q]at hd1;cases hd1
      |some c=>exact(List.getElem?_eq_some_iff.mp q).1
     unfold items? at hd1⊢
     simp only at hd1⊢
     rw[f2 n hn hnb]
     exact hd1
  |_=>exact hd1
 refine di itd2 ?_
 rw[hdl1]
 refine⟨N,rfl,by omega,?_⟩
 refine e8 ⟨b_ (by rw[List.length_map,vG];omega),?_⟩
 refine iS aY trivial yu (fun e r hr he K' q=>⟨_,rfl,gO he q⟩) ?_
 have b3:(st2++[Cell.lst ((Mx.units N).map aY)])[b]?=some (.ins aE (putD "turn" (.ref st1.length) (putD "body" (.ref st.length) []))):=by rw[List.getElem?_append_left (by omega)];exact b2'
 refine mw b3 (by have h1:=o8 "body" (.ref st.length) [];have h2:=o8 "turn" (.ref st1.length) (putD "body" (.ref st.length) []);simp only[List.length_nil]at h1;omega) ?_
 refine k _ ⟨?_,?_,?_,?_,by omega,by omega,by omega⟩ (by simp;omega) fun m hm hmb=>?_
 · rw[List.getElem?_set_self (by simp;omega),l1,l2];rfl
 · rw[List.getElem?_set_ne (by omega),List.getElem?_append_left (by omega),f2 _ (by omega) (by omega)];exact x1
 · rw[List.getElem?_set_ne (by omega),List.getElem?_append_left (by omega)]
   rw[l1]at x2
   exact x2
 · rw[List.getElem?_set_ne (by omega)]
   rw[show st.length+2=st2.length by omega]
   simp
 · rw[List.getElem?_set_ne (Ne.symm hmb),List.getElem?_append_left (by omega),f2 m (by omega) hmb,f1 m hm hmb]
noncomputable def jO:cD:=fun ds st K=>∃(b xb xu xc N w k j:Nat) (A U C:List (List Int)) (q:Int),ds=[.ref b,.int k,.int q,.int j]∧Bn st b xb xu xc A U C∧Mx.dJ N w A∧Mx.dJ N N U∧Mx.dJ N N C∧k<N∧j<N∧N≤8∧w≤9∧(∀x∈A.getD j [],IntMulOk (-q) x)∧(∀x∈U.getD j [],IntMulOk (-q) x)∧(∀x∈C.getD k [],IntMulOk q x)∧
 ∀st',Bn st' b xb xu xc (Mx.bH A k q j) (Mx.bH U k q j) (Mx.bH C j (-q) k)→st'.length=st.length→(∀m,m≠xb→m≠xu→m≠xc→st'[m]?=st[m]?)→K .aG st'
noncomputable def j9:List Str:=["self","k","times","other"]
noncomputable def yf:DS:=(aF (eS (dP aE "body" (ae 0)) (ae 1) (aM kB (af (au aT (dP aE "body" (ae 0)) (ae 1)) (af (nz iZ (ae 2)) (af (au aT (dP aE "body" (ae 0)) (ae 3)) ak)))))
 (aF (eS (dP aE "turn" (ae 0)) (ae 1) (aM kB (af (au aT (dP aE "turn" (ae 0)) (ae 1)) (af (nz iZ (ae 2)) (af (au aT (dP aE "turn" (ae 0)) (ae 3)) ak)))))
 (eS (dP aE "back_columns" (ae 0)) (ae 3) (aM kB (af (au aT (dP aE "back_columns" (ae 0)) (ae 3)) (af (ae 2) (af (au aT (dP aE "back_columns" (ae 0)) (ae 1)) ak)))))))
theorem v8:∀ds st K,jO ds st K→ds.length=4∧yf {nx:=fun _ st'=>K .aG st',rt:=K} (a7 j9 ds) st:=by
 rintro ds st K ⟨b,xb,xu,xc,N,w,k,j,A,U,C,q,rfl,B,hA,hU,hC,hk,hj,hN,hw,mA,mU,mC,kk⟩
 refine⟨rfl,?_⟩
 have lA:=hA.len
 have lU:=hU.len
 have lC:=hC.len
 have rA:=Mx.cP hA hk
 have rU:=Mx.cP hU hk
 have rC:=Mx.cP hC hj
 have bx1:=jK B.eb B.e1
 have bx2:=jK B.eb B.e2
 have bx3:=jK B.eb B.e3
 have n1:=B.n1
 have n2:=B.n2
 have n3:=B.n3
 refine cF B.eb rfl (az (aH B.e1) (dE (by omega)) (iq (cF B.eb rfl (az (aH B.e1) (dE (by omega)) ?_))))
 refine⟨_,_,-q,A.getD k [],A.getD j [],rfl,rfl,rfl,by omega,mA,?_⟩
 refine cF B.eb rfl (iu B.e1 (by rw[List.length_map,lA];exact ll hk) ?_)
 rw[gZ]
 have g1:∀m,m≠xb→(st.set xb (.lst ((A.set k (Mx.fb (A.getD k []) (-q) (A.getD j []))).map aY)))[m]?=st[m]?:=fun m hm=>List.getElem?_set_ne (Ne.symm hm)
 have h1:(st.set xb (.lst ((A.set k (Mx.fb (A.getD k []) (-q) (A.getD j []))).map aY)))[xb]?=some (.lst ((Mx.bH A k q j).map aY)):=List.getElem?_set_self (List.getElem?_eq_some_iff.mp B.e1).1
 have z1:(st.set xb (.lst ((A.set k (Mx.fb (A.getD k []) (-q) (A.getD j []))).map aY))).length=st.length:=List.length_set
 generalize st.set xb (.lst ((A.set k (Mx.fb (A.getD k []) (-q) (A.getD j []))).map aY))=st1 at g1 h1 z1⊢
 have eb1:=(g1 b bx1).trans B.eb
 have e21:=(g1 xu (Ne.symm n1)).trans B.e2
 have e31:=(g1 xc (Ne.symm n2)).trans B.e3
 refine cF eb1 rfl (az (aH e21) (dE (by omega)) (iq (cF eb1 rfl (az (aH e21) (dE (by omega)) ?_))))
 refine⟨_,_,-q,U.getD k [],U.getD j [],rfl,rfl,rfl,by omega,mU,?_⟩
 refine cF eb1 rfl (iu e21 (by rw[List.length_map,lU];exact ll hk) ?_)
 rw[gZ]
 have g2:∀m,m≠xu→(st1.set xu (.lst ((U.set k (Mx.fb (U.getD k []) (-q) (U.getD j []))).map aY)))[m]?=st1[m]?:=fun m hm=>List.getElem?_set_ne (Ne.symm hm)
 have h2:(st1.set xu (.lst ((U.set k (Mx.fb (U.getD k []) (-q) (U.getD j []))).map aY)))[xu]?=some (.lst ((Mx.bH U k q j).map aY)):=List.getElem?_set_self (List.getElem?_eq_some_iff.mp e21).1
 have z2:(st1.set xu (.lst ((U.set k (Mx.fb (U.getD k []) (-q) (U.getD j []))).map aY))).length=st1.length:=List.length_set
 generalize st1.set xu (.lst ((U.set k (Mx.fb (U.getD k []) (-q) (U.getD j []))).map aY))=st2 at g2 h2 z2⊢
 have eb2:=(g2 b bx2).trans eb1
 have e32:=(g2 xc (Ne.symm n3)).trans e31
 refine cF eb2 rfl (az (aH e32) (dE (by omega)) (cF eb2 rfl (az (aH e32) (dE (by omega)) ?_)))
 refine⟨_,_,q,C.getD j [],C.getD k [],rfl,rfl,rfl,by omega,mC,?_⟩
 refine cF eb2 rfl (iu e32 (by rw[List.length_map,lC];exact ll hj) ?_)
 rw[gZ]
 have hc:C.set j (Mx.fb (C.getD j []) q (C.getD k []))=Mx.bH C j (-q) k:=by unfold Mx.bH;rw[Int.neg_neg]
 rw[hc]
 refine kk _ ⟨?_,?_,?_,?_,n1,n2,n3⟩ (by rw[List.length_set];omega) fun m m1 m2 m3=>?_
 · rw[List.getElem?_set_ne (Ne.symm bx3)];exact eb2
 · rw[List.getElem?_set_ne (Ne.symm n2),g2 _ n1];exact h1
 · rw[List.getElem?_set_ne (Ne.symm n3)];exact h2
 · exact List.getElem?_set_self (List.getElem?_eq_some_iff.mp e32).1
 · rw[List.getElem?_set_ne (Ne.symm m3),g2 m m2,g1 m m1]
noncomputable def jl:cD:=fun ds st K=>∃(b xb xu xc N w k o:Nat) (A U C:List (List Int)),ds=[.ref b,.int k,.int o]∧Bn st b xb xu xc A U C∧Mx.dJ N w A∧Mx.dJ N N U∧Mx.dJ N N C∧k<N∧o<N∧
 ∀st',Bn st' b st.length (st.length+1) (st.length+2) (Mx.bC A k o) (Mx.bC U k o) (Mx.bC C k o)→st'.length=st.length+3→(∀m,m<st.length→m≠b→st'[m]?=st[m]?)→K .aG st'
noncomputable def gJ:List Str:=["self","k","other"]
noncomputable def sJ:DS:=(aF (nu aE "body" (ae 0) (aM i4 (af (dP aE "body" (ae 0)) (af (ae 1) (af (ae 2) ak)))))
 (aF (nu aE "turn" (ae 0) (aM i4 (af (dP aE "turn" (ae 0)) (af (ae 1) (af (ae 2) ak)))))
 (nu aE "back_columns" (ae 0) (aM i4 (af (dP aE "back_columns" (ae 0)) (af (ae 1) (af (ae 2) ak)))))))
theorem rX:∀ds st K,jl ds st K→ds.length=3∧sJ {nx:=fun _ st'=>K .aG st',rt:=K} (a7 gJ ds) st:=by
 rintro ds st K ⟨b,xb,xu,xc,N,w,k,o,A,U,C,rfl,B,hA,hU,hC,hk,ho,kk⟩
 refine⟨rfl,?_⟩
 have lA:=hA.len
 have lU:=hU.len
 have lC:=hC.len
 have bx1:=jK B.eb B.e1
 have bx2:=jK B.eb B.e2
 have bx3:=jK B.eb B.e3
 have hb:b<st.length:=(List.getElem?_eq_some_iff.mp B.eb).1
 have hu:xu<st.length:=(List.getElem?_eq_some_iff.mp B.e2).1
 have hc:xc<st.length:=(List.getElem?_eq_some_iff.mp B.e3).1
 refine cF B.eb rfl ?_
 refine⟨xb,k,o,A,rfl,B.e1,by omega,by omega,?_⟩
 have eb1:(st++[Cell.lst ((Mx.bC A k o).map aY)])[b]?=some (.ins aE [("body",.ref xb),("turn",.ref xu),("back_columns",.ref xc)]):=by rw[List.getElem?_append_left hb];exact B.eb
 refine mw eb1 (by simp) ?_
 have pb:putD "body" (.ref st.length) [("body",.ref xb),("turn",.ref xu),("back_columns",.ref xc)]=([("body",.ref st.length),("turn",.ref xu),("back_columns",.ref xc)]:List (Str×D)):=rfl
 rw[pb]
 generalize hs1:(st++[Cell.lst ((Mx.bC A k o).map aY)]).set b (.ins aE [("body",.ref st.length),("turn",.ref xu),("back_columns",.ref xc)])=st1
 have l1:st1.length=st.length+1:=by rw[←hs1];simp
 have f1:∀m,m<st.length→m≠b→st1[m]?=st[m]?:=fun m hm hmb=>by rw[←hs1,List.getElem?_set_ne (Ne.symm hmb),List.getElem?_append_left hm]
 have b1:st1[b]?=some (.ins aE [("body",.ref st.length),("turn",.ref xu),("back_columns",.ref xc)]):=by rw[←hs1,List.getElem?_set_self (by simp;omega)]
 have x1:st1[st.length]?=some (.lst ((Mx.bC A k o).map aY)):=by rw[←hs1,List.getElem?_set_ne (by omega)];simp
 clear hs1 eb1
 refine cF b1 rfl ?_
 refine⟨xu,k,o,U,rfl,(f1 xu hu (Ne.symm bx2)).trans B.e2,by omega,by omega,?_⟩
 have eb1:(st1++[Cell.lst ((Mx.bC U k o).map aY)])[b]?=some (.ins aE [("body",.ref st.length),("turn",.ref xu),("back_columns",.ref xc)]):=by rw[List.getElem?_append_left (by omega)];exact b1
 refine mw eb1 (by simp) ?_
 have pb:putD "turn" (.ref st1.length) [("body",.ref st.length),("turn",.ref xu),("back_columns",.ref xc)]=([("body",.ref st.length),("turn",.ref st1.length),("back_columns",.ref xc)]:List (Str×D)):=rfl
 rw[pb]
 generalize hs2:(st1++[Cell.lst ((Mx.bC U k o).map aY)]).set b (.ins aE [("body",.ref st.length),("turn",.ref st1.length),("back_columns",.ref xc)])=st2
 have l2:st2.length=st.length+2:=by rw[←hs2];simp;omega
 have f2:∀m,m<st1.length→m≠b→st2[m]?=st1[m]?:=fun m hm hmb=>by rw[←hs2,List.getElem?_set_ne (Ne.symm hmb),List.getElem?_append_left hm]
 have b2:st2[b]?=some (.ins aE [("body",.ref st.length),("turn",.ref st1.length),("back_columns",.ref xc)]):=by rw[←hs2,List.getElem?_set_self (by simp;omega)]
 have x2:st2[st1.length]?=some (.lst ((Mx.bC U k o).map aY)):=by rw[←hs2,List.getElem?_set_ne (by omega)];simp
 clear hs2 eb1
 refine cF b2 rfl ?_
 refine⟨xc,k,o,C,rfl,((f2 xc (by omega) (Ne.symm bx3)).trans (f1 xc hc (Ne.symm bx3))).trans B.e3,by omega,by omega,?_⟩
 have eb1:(st2++[Cell.lst ((Mx.bC C k o).map aY)])[b]?=some (.ins aE [("body",.ref st.length),("turn",.ref st1.length),("back_columns",.ref xc)]):=by rw[List.getElem?_append_left (by omega)];exact b2
 refine mw eb1 (by simp) ?_
 have pb:putD "back_columns" (.ref st2.length) [("body",.ref st.length),("turn",.ref st1.length),("back_columns",.ref xc)]=([("body",.ref st.length),("turn",.ref st1.length),("back_columns",.ref st2.length)]:List (Str×D)):=rfl
 rw[pb]
 refine kk _ ⟨?_,?_,?_,?_,by omega,by omega,by omega⟩ (by simp;omega) fun m hm hmb=>?_
 · rw[List.getElem?_set_self (by simp;omega),l1,l2]
 · rw[List.getElem?_set_ne (by omega),List.getElem?_append_left (by omega),f2 _ (by omega) (by omega)];exact x1
 · rw[List.getElem?_set_ne (by omega),List.getElem?_append_left (by omega)]
   rw[l1]at x2
   exact x2
 · rw[List.getElem?_set_ne (by omega)]
   rw[show st.length+2=st2.length by omega]
   simp
 · rw[List.getElem?_set_ne (Ne.symm hmb),List.getElem?_append_left (by omega),f2 m (by omega) hmb,f1 m hm hmb]
noncomputable def g8:cD:=fun ds st K=>∃(b xb xu xc N w k:Nat) (A U C:List (List Int)),ds=[.ref b,.int k]∧Bn st b xb xu xc A U C∧Mx.dJ N w A∧Mx.dJ N N U∧Mx.dJ N N C∧k<N∧N≤8∧w≤9∧
 ∀st',Bn st' b xb xu xc (Mx.gp A k) (Mx.gp U k) (Mx.gp C k)→st'.length=st.length→(∀m,m≠xb→m≠xu→m≠xc→st'[m]?=st[m]?)→K .aG st'
noncomputable def fw:List Str:=["self","k"]
noncomputable def p8:DS:=(aF (eS (dP aE "body" (ae 0)) (ae 1) (aM lq (af (au aT (dP aE "body" (ae 0)) (ae 1)) ak)))
 (aF (eS (dP aE "turn" (ae 0)) (ae 1) (aM lq (af (au aT (dP aE "turn" (ae 0)) (ae 1)) ak)))
 (eS (dP aE "back_columns" (ae 0)) (ae 1) (aM lq (af (au aT (dP aE "back_columns" (ae 0)) (ae 1)) ak)))))
theorem pw:∀ds st K,g8 ds st K→ds.length=2∧p8 {nx:=fun _ st'=>K .aG st',rt:=K} (a7 fw ds) st:=by
 rintro ds st K ⟨b,xb,xu,xc,N,w,k,A,U,C,rfl,B,hA,hU,hC,hk,hN,hw,kk⟩
 refine⟨rfl,?_⟩
 have lA:=hA.len
 have lU:=hU.len
 have lC:=hC.len
 have rA:=Mx.cP hA hk
 have rU:=Mx.cP hU hk
 have rC:=Mx.cP hC hk
 have bx1:=jK B.eb B.e1
 have bx2:=jK B.eb B.e2
 have bx3:=jK B.eb B.e3
 have n1:=B.n1
 have n2:=B.n2
 have n3:=B.n3
 refine cF B.eb rfl (az (aH B.e1) (dE (by omega)) ?_)
 refine⟨_,A.getD k [],rfl,rfl,by omega,?_⟩
 refine cF B.eb rfl (iu B.e1 (by rw[List.length_map,lA];exact ll hk) ?_)
 rw[gZ]
 have g1:∀m,m≠xb→(st.set xb (.lst ((A.set k ((A.getD k []).map fun x=> -x)).map aY)))[m]?=st[m]?:=fun m hm=>List.getElem?_set_ne (Ne.symm hm)
 have h1:(st.set xb (.lst ((A.set k ((A.getD k []).map fun x=> -x)).map aY)))[xb]?=some (.lst ((Mx.gp A k).map aY)):=List.getElem?_set_self (List.getElem?_eq_some_iff.mp B.e1).1
 have z1:(st.set xb (.lst ((A.set k ((A.getD k []).map fun x=> -x)).map aY))).length=st.length:=List.length_set
 generalize st.set xb (.lst ((A.set k ((A.getD k []).map fun x=> -x)).map aY))=st1 at g1 h1 z1⊢
 have eb1:=(g1 b bx1).trans B.eb
 have e21:=(g1 xu (Ne.symm n1)).trans B.e2
 have e31:=(g1 xc (Ne.symm n2)).trans B.e3
 refine cF eb1 rfl (az (aH e21) (dE (by omega)) ?_)
 refine⟨_,U.getD k [],rfl,rfl,by omega,?_⟩
 refine cF eb1 rfl (iu e21 (by rw[List.length_map,lU];exact ll hk) ?_)
 rw[gZ]
 have g2:∀m,m≠xu→(st1.set xu (.lst ((U.set k ((U.getD k []).map fun x=> -x)).map aY)))[m]?=st1[m]?:=fun m hm=>List.getElem?_set_ne (Ne.symm hm)
 have h2:(st1.set xu (.lst ((U.set k ((U.getD k []).map fun x=> -x)).map aY)))[xu]?=some (.lst ((Mx.gp U k).map aY)):=List.getElem?_set_self (List.getElem?_eq_some_iff.mp e21).1
 have z2:(st1.set xu (.lst ((U.set k ((U.getD k []).map fun x=> -x)).map aY))).length=st1.length:=List.length_set
 generalize st1.set xu (.lst ((U.set k ((U.getD k []).map fun x=> -x)).map aY))=st2 at g2 h2 z2⊢
 have eb2:=(g2 b bx2).trans eb1
 have e32:=(g2 xc (Ne.symm n3)).trans e31
 refine cF eb2 rfl (az (aH e32) (dE (by omega)) ?_)
 refine⟨_,C.getD k [],rfl,rfl,by omega,?_⟩
 refine cF eb2 rfl (iu e32 (by rw[List.length_map,lC];exact ll hk) ?_)
 rw[gZ]
 refine kk _ ⟨?_,?_,?_,?_,n1,n2,n3⟩ (by rw[List.length_set];omega) fun m m1 m2 m3=>?_
 · rw[List.getElem?_set_ne (Ne.symm bx3)];exact eb2
 · rw[List.getElem?_set_ne (Ne.symm n2),g2 _ n1];exact h1
 · rw[List.getElem?_set_ne (Ne.symm n3)];exact h2
 · exact List.getElem?_set_self (List.getElem?_eq_some_iff.mp e32).1
 · rw[List.getElem?_set_ne (Ne.symm m3),g2 m m2,g1 m m1]
noncomputable def fX:cD:=fun ds st K=>∃(b xb xu xc N w top p:Nat) (A U C:List (List Int)) (f:Bool),ds=[.ref b,.int top,.int p]∧Bn st b xb xu xc A U C∧Mx.dJ N w A∧top≤N∧N≤8∧p<w∧w≤9∧st[0]?=some (fT f)∧
 ∀L,Mx.g7 A N top p L→K (.lst (L.map fun(k:Nat)=> .int (k:Int))) (st.set 0 (fT true))
noncomputable def fZ:List Str:=["self","top","place","live"]
noncomputable def rS:DS:=(aF (a8 3 (c5 (rp (af (ae 1) (af (bw eR (af (dP aE "body" (ae 0)) ak)) ak))) [none,some 0,some 2] (bL 0) (a5 (au lS (au aT (au aT (dP aE "body" (ae 1)) (ae 0)) (ae 2)) (dC (.int 0)))) (ae 0)))
 (bD (yd 0 161 ⟨82,32,82,66⟩ "Bench.live_rows.<locals>.<lambda>" [none,some 0,some 2] (bw mW (af (au aT (au aT (dP aE "body" (ae 1)) (ae 0)) (ae 2)) ak)) (ae 3))))
theorem uC{a b:Prop}(h:b):if false=true then a else b:=h
theorem He{st:ag}{b:Nat}{C:Addr}{fs:List (Str×D)}{f:Bool}(h1:st[b]?=some (Cell.ins C fs))(h2:st[0]?=some (fT f)):b≠0:=fun z=>by rw[z,h2]at h1;cases h1
theorem rj{st:ag}{b:Nat}{xs:List D}{f:Bool}(h1:st[b]?=some (Cell.lst xs))(h2:st[0]?=some (fT f)):b≠0:=fun z=>by rw[z,h2]at h1;cases h1
theorem Bn.keep{st st':ag}{b xb xu xc:Nat}{A U C:List (List Int)}(B:Bn st b xb xu xc A U C)(h:∀m,m=b∨m=xb∨m=xu∨m=xc→st'[m]?=st[m]?):Bn st' b xb xu xc A U C:=
 ⟨(h b (.inl rfl)).trans B.eb,(h xb (.inr (.inl rfl))).trans B.e1,(h xu (.inr (.inr (.inl rfl)))).trans B.e2,(h xc (.inr (.inr (.inr rfl)))).trans B.e3,B.n1,B.n2,B.n3⟩
theorem Bn.tab{st:ag}{b xb xu xc:Nat}{A U C:List (List Int)}{f:Bool}(B:Bn st b xb xu xc A U C)(h:st[0]?=some (fT f))(c:Cell):Bn (st.set 0 c) b xb xu xc A U C:=
 B.keep fun m hm=>List.getElem?_set_ne fun z=>by
  subst z
  rcases hm with rfl|rfl|rfl|rfl
  · exact He B.eb h rfl
  · exact rj B.e1 h rfl
  · exact rj B.e2 h rfl
  · exact rj B.e3 h rfl
theorem m4{r:List Int}{k:Nat}(h:k<r.length):dM (aA r) (k:Int)=some (.int (r.getD k 0)):=by
 refine kj ?_
 unfold aA
 rw[List.getElem?_map,List.getElem?_eq_getElem h,Mx.bG h];rfl
noncomputable def fN(A:List (List Int))(N top p:Nat):List Nat:=(List.range (N-top)).filterMap fun i=>if Mx.g A (top+i) p≠0 then some (top+i)else none
theorem vH{A:List (List Int)}{N top p k:Nat}:k∈fN A N top p↔top≤k∧k<N∧Mx.g A k p≠0:=by
 unfold fN
 rw[List.mem_filterMap]
 constructor
 · rintro⟨i,hi,e⟩
   rw[List.mem_range]at hi
   split at e
   · rename_i h;cases e;exact⟨by omega,by omega,h⟩
   · cases e
 · rintro⟨h1,h2,h3⟩
   refine⟨k-top,List.mem_range.mpr (by omega),?_⟩
   rw[show top+(k-top)=k by omega,if_pos h3]
theorem pw_filterMap{f:Nat→Option Nat}(h:∀i j a b,i<j→f i=some a→f j=some b→a<b):∀ {l:List Nat},l.Pairwise (· < ·)→(l.filterMap f).Pairwise (· < ·)
 | [],_=>by simp
 |x::l,hl=>by
  obtain⟨h1,h2⟩:=List.pairwise_cons.mp hl
  rw[List.filterMap_cons]
  split
  · exact pw_filterMap h h2
  · rename_i a e
    refine List.pairwise_cons.mpr ⟨fun b hb=>?_,pw_filterMap h h2⟩
    obtain⟨j,hj,ej⟩:=List.mem_filterMap.mp hb
    exact h x j a b (h1 j hj) e ej
theorem pw_liveR{A:List (List Int)}{N top p:Nat}:(fN A N top p).Pairwise (· < ·):=by
 unfold fN
 refine pw_filterMap (fun i j a b hij ha hb=>?_) List.pairwise_lt_range
 split at ha
 · split at hb
   · cases ha;cases hb;omega
   · cases hb
 · cases ha
theorem v_{f:Nat→Option Nat}(l:List Nat):(l.filterMap f).length≤l.length:=List.length_filterMap_le ..
theorem Hq{A:List (List Int)}{N top p:Nat}{os:List (Int×Int)}(hp:os.Perm (((fN A N top p).map fun(k:Nat)=>(((Mx.g A k p).natAbs:Nat):Int)).zip ((fN A N top p).map fun(k:Nat)=>(k:Int))))(hs:os.Pairwise slt):
 Mx.g7 A N top p (os.map fun q=>q.2.toNat)∧os.map (fun q=>D.int q.2)=(os.map fun q=>q.2.toNat).map fun(k:Nat)=>D.int (k:Int):=by
 have hz:((fN A N top p).map fun(k:Nat)=>(((Mx.g A k p).natAbs:Nat):Int)).zip ((fN A N top p).map fun(k:Nat)=>(k:Int))=(fN A N top p).map fun k=>((((Mx.g A k p).natAbs:Nat):Int),(k:Int)):=by
  exact List.zip_map' ..
 rw[hz]at hp
 have hm:∀q∈os,∃k,k∈fN A N top p∧q=((((Mx.g A k p).natAbs:Nat):Int),(k:Int)):=fun q hq=>by
  obtain⟨k,h1,h2⟩:=List.mem_map.mp (hp.mem_iff.mp hq)
  exact⟨k,h1,h2.symm⟩
 refine⟨⟨fun k=>?_,?_⟩,?_⟩
 · rw[←vH]
   constructor
   · intro h
     obtain⟨q,hq,e⟩:=List.mem_map.mp h
     obtain⟨j,h1,rfl⟩:=hm q hq
     simp only[Int.toNat_natCast]at e
     rw[←e];exact h1
   · intro h
     exact List.mem_map.mpr ⟨((((Mx.g A k p).natAbs:Nat):Int),(k:Int)),hp.mem_iff.mpr (List.mem_map.mpr ⟨k,h,rfl⟩),by simp⟩
 · rw[List.pairwise_map]
   refine hs.imp_of_mem fun{x y} hx hy h=>?_
   obtain⟨j,_,rfl⟩:=hm x hx
   obtain⟨k,_,rfl⟩:=hm y hy
   unfold slt at h
   simp only[Int.toNat_natCast]
   omega
 · rw[List.map_map]
   refine List.map_congr_left fun q hq=>?_
   obtain⟨j,_,rfl⟩:=hm q hq
   simp
theorem qf:∀ds st K,fX ds st K→ds.length=3∧rS {nx:=fun _ st'=>K .aG st',rt:=K} (a7 fZ ds) st:=by
 rintro ds st K ⟨b,xb,xu,xc,N,w,top,p,A,U,C,f,rfl,B,hA,ht,hN,hp,hw,h0,k⟩
 refine⟨rfl,?_⟩
 have lA:=hA.len
 have rowA:∀i,i<N→(A.getD i []).length=w:=fun i hi=>Mx.cP hA hi
 refine cF B.eb rfl (di (aH B.e1) ?_)
 rw[List.length_map,lA]
 refine Gv ⟨by omega,by omega,by omega,by omega⟩ ⟨b_ (by unfold d5;simp;omega),?_⟩
 have er:((N:Int)-(top:Int)).toNat=N-top:=by omega
 rw[er]
 refine iz (fun rest acc st'=>∃i:Nat,i≤N-top∧st'=st∧rest=(List.range (N-top-i)).map (fun j=>D.int ((top+i+j:Nat):Int))∧acc=((List.range i).filterMap fun i=>if Mx.g A (top+i) p≠0 then some (top+i)else none).map fun(k:Nat)=>D.int (k:Int)) ?_ ?_ _ _ _ ⟨0,Nat.zero_le _,rfl,by unfold d5;simp,by simp⟩
 · rintro acc st' ⟨i,hi,rfl,hr,rfl⟩
   have hi':i=N-top:=by
    rcases Nat.lt_or_ge i (N-top)with z|z
    · rw[show N-top-i=(N-top-i-1)+1 by omega,List.range_succ_eq_map]at hr;cases hr
    · omega
   subst hi'
   refine⟨trivial,?_⟩
   have e1:((fN A N top p).map fun(k:Nat)=>D.int (k:Int))=((fN A N top p).map fun(k:Nat)=>(k:Int)).map D.int:=by rw[List.map_map];rfl
   refine⟨(fN A N top p).map fun(k:Nat)=>(k:Int),(fN A N top p).map fun(k:Nat)=>(((Mx.g A k p).natAbs:Nat):Int),f,congrArg D.lst e1,?_,?_,by rw[List.length_map,List.length_map],h0,fun i n q hn hq=>?_,fun os hp' hs=>?_⟩
   · rw[List.length_map]
     have:=v_ (f:=fun i=>if Mx.g A (top+i) p≠0 then some (top+i)else none) (List.range (N-top))
     rw[List.length_range]at this
     show(fN A N top p).length<64
     unfold fN
     omega
   · rw[List.pairwise_map]
     exact pw_liveR.imp fun h=>by omega
   · rw[List.getElem?_map]at hn hq
     cases z:(fN A N top p)[i]? with
     |none=>rw[z]at hn;cases hn
     |some j=>
      rw[z]at hn hq
      cases hn;cases hq
      obtain⟨j1,j2,j3⟩:=vH.mp (List.mem_of_getElem? z)
      have B1:=B.tab h0 (fT true)
      refine cF B1.eb rfl (az (aH B1.e1) (dE (by omega)) (az rfl (m4 (by rw[rowA j j2];exact hp)) (mM ⟨rfl,rfl⟩)))
   · obtain⟨h1,h2⟩:=Hq hp' hs
     rw[h2]
     exact k _ h1
 · rintro d rest acc st' ⟨i,hi,rfl,hr,rfl⟩ next
   have hlt:i<N-top:=by
    rcases Nat.lt_or_ge i (N-top)with z|z
    · exact z
    · rw[show N-top-i=0 by omega]at hr;cases hr
   rw[show N-top-i=(N-top-i-1)+1 by omega,List.range_succ_eq_map,List.map_cons,List.map_map]at hr
   obtain⟨rfl,rfl⟩:=List.cons.inj hr
   refine⟨trivial,_,rfl,?_⟩
   refine cF B.eb rfl (az (aH B.e1) (dE (j:=top+i+0) (by omega)) (az rfl (m4 (by rw[rowA _ (by omega)];exact hp)) ?_))
   have e2:List.range (i+1)=List.range i++[i]:=List.range_succ
   have e3:((List.range (N-top-i-1)).map ((fun j=>D.int ((top+i+j:Nat):Int))∘Nat.succ))=(List.range (N-top-(i+1))).map fun j=>D.int ((top+(i+1)+j:Nat):Int):=by
    rw[show N-top-i-1=N-top-(i+1) by omega]
    refine List.map_congr_left fun j _=>?_
    show D.int ((top+i+(j+1):Nat):Int)=_
    rw[show top+i+(j+1)=top+(i+1)+j by omega]
   refine ne2 (fun h=>?_) fun h=>?_
   · refine(next _ _ ⟨i+1,by omega,rfl,e3,?_⟩)
     rw[e2,List.filterMap_append,List.map_append]
     have:Mx.g A (top+i) p≠0:=h
     simp[this]
   · refine(next _ _ ⟨i+1,by omega,rfl,e3,?_⟩)
     rw[e2,List.filterMap_append,List.map_append]
     have:Mx.g A (top+i) p=0:=h
     simp[this]
structure Bo(n0:Nat)(st st':ag)(b xb xu xc:Nat):Prop where
 lo:1≤n0∧n0≤b∧n0≤xb∧n0≤xu∧n0≤xc
 fr:∀m,m<n0→m≠0→st'[m]?=st[m]?
 tb:∃f,st'[0]?=some (fT f)
noncomputable def kD:cD:=fun ds st K=>∃(n0 b xb xu xc N w top p e u:Nat) (A0 A U C:List (List Int)) (ld:Nat→Nat),ds=[.ref b,.int top,.int p]∧Bn st b xb xu xc A U C∧Bo n0 st st b xb xu xc∧Mx.jw A0 N w ⟨A,U,C⟩ top p ld e u∧N≤8∧w≤9∧p<w∧(N-top+1)*(e+1)≤60000000∧
 (∀st',Bn st' b xb xu xc A U C→Bo n0 st st' b xb xu xc→Mx.g7 A N top p []→K (.bl false) st')∧
 ∀st' xb' xu' xc' (c:Mx.B3) (r:Nat),Bn st' b xb' xu' xc' (Mx.setB c p top r).A (Mx.setB c p top r).U (Mx.setB c p top r).C→Bo n0 st st' b xb' xu' xc'→Mx.fP N top p ⟨A,U,C⟩ c→Mx.g7 c.A N top p [r]→top<N→
  Mx.va A0 N w top p (2^((N-top+1)*(e+1))) ⟨A,U,C⟩ (Mx.setB c p top r)→K (.bl true) st'
noncomputable def iM:List Str:=["self","top","place","live","great","small"]
noncomputable def u6:DS:=(aF (a8 3 (ja aE "live_rows" fX (ae 0) (af (ae 1) (af (ae 2) ak))))
 (aF (qo (a5 (au kc (bw eR (af (ae 3) ak)) (dC (.int 1)))) (aF (a8 4 (au aT (ae 3) (nz iZ (dC (.int 1)))))
 (aF (a8 5 (au aT (ae 3) (nz iZ (dC (.int 2)))))
 (aF (iQ (ja aE "take" jO (ae 0) (af (ae 4) (af (aM il (af (au aT (au aT (dP aE "body" (ae 0)) (ae 4)) (ae 2)) (af (au aT (au aT (dP aE "body" (ae 0)) (ae 5)) (ae 2)) ak))) (af (ae 5) ak)))))
 (a8 3 (ja aE "live_rows" fX (ae 0) (af (ae 1) (af (ae 2) ak))))))))
 (aF (dz (a5 (au iw (bw eR (af (ae 3) ak)) (dC (.int 0)))) (bD (dC (.bl false))) cN)
 (aF (iQ (ja aE "exchange" jl (ae 0) (af (ae 1) (af (au aT (ae 3) (dC (.int 0))) ak))))
 (aF (dz (a5 (au pV (au aT (au aT (dP aE "body" (ae 0)) (ae 1)) (ae 2)) (dC (.int 0)))) (iQ (ja aE "change_sign" g8 (ae 0) (af (ae 1) ak))) cN)
 (bD (dC (.bl true))))))))
theorem Bo.IP{n0:Nat}{st st':ag}{b xb xu xc:Nat}(h:Bo n0 st st' b xb xu xc):Bo n0 st (st'.set 0 (fT true)) b xb xu xc:=
 ⟨h.lo,fun m hm h0=>by rw[List.getElem?_set_ne (Ne.symm h0)];exact h.fr m hm h0,true,by
  obtain⟨f,e⟩:=h.tb
  exact List.getElem?_set_self (List.getElem?_eq_some_iff.mp e).1⟩
theorem Bo.low{n0:Nat}{st st1 st2:ag}{b xb xu xc:Nat}(h:Bo n0 st st1 b xb xu xc)(f:∀m,m≠xb→m≠xu→m≠xc→st2[m]?=st1[m]?):Bo n0 st st2 b xb xu xc:=by
 obtain⟨l1,l2,l3,l4,l5⟩:=h.lo
 refine⟨h.lo,fun m hm h0=>?_,?_⟩
 · rw[f m (by omega) (by omega) (by omega)];exact h.fr m hm h0
 · obtain⟨z,e⟩:=h.tb
   exact⟨z,by rw[f 0 (by omega) (by omega) (by omega)];exact e⟩
theorem vc{X:List (List Int)}{N w top m i:Nat}(hX:Mx.dJ N w X)(h:Mx.i_ X N top m)(hi:top≤i)(hN:i<N):∀x∈X.getD i [],x.natAbs≤m:=fun x hx=>by
 obtain⟨c,hc,rfl⟩:=List.mem_iff_getElem.mp hx
 have:=h i c hi hN
 unfold Mx.g at this
 rwa [Mx.bG hc]at this
theorem w4{n j:Nat}(h:1≤j)(h2:j≤n):kb n (-(j:Int))=some (n-j):=by
 unfold kb
 rw[if_neg (by omega),if_pos (by omega)]
 congr 1
 omega
theorem LW{L:List Nat}{j k:Nat}:dM ((L++[j,k]).map fun(k:Nat)=>D.int (k:Int)) (-1)=some (.int (k:Int)):=by
 unfold dM
 have:=w4 (n:=((L++[j,k]).map fun(k:Nat)=>D.int (k:Int)).length) (j:=1) (by decide) (by simp)
 rw[show(-((1:Nat):Int))= -1 from rfl]at this
 rw[this]
 simp
theorem Ll{L:List Nat}{j k:Nat}:dM ((L++[j,k]).map fun(k:Nat)=>D.int (k:Int)) (-2)=some (.int (j:Int)):=by
 unfold dM
 have:=w4 (n:=((L++[j,k]).map fun(k:Nat)=>D.int (k:Int)).length) (j:=2) (by decide) (by simp)
 rw[show(-((2:Nat):Int))= -2 from rfl]at this
 rw[this]
 simp
theorem Ds:∀ {L:List Nat},1<L.length→∃M j k,L=M++[j,k]:=fun{L} h=>by
 refine⟨L.take (L.length-2),L[L.length-2]'(by omega),L[L.length-1]'(by omega),?_⟩
 have e1:L=L.take (L.length-2)++L.drop (L.length-2):=(List.take_append_drop _ _).symm
 have e2:L.drop (L.length-2)=[L[L.length-2]'(by omega),L[L.length-1]'(by omega)]:=by
  rw[List.drop_eq_getElem_cons (by omega),List.drop_eq_getElem_cons (by omega),List.drop_eq_nil_of_le (by omega)]
  congr 2
  congr 1
  omega
 rw[←e2];exact e1
theorem tQ:∀ds st K,kD ds st K→ds.length=3∧u6 {nx:=fun _ st'=>K .aG st',rt:=K} (a7 iM ds) st:=by
 rintro ds st K ⟨n0,b,xb,xu,xc,N,w,top,p,e,u,A0,A,U,C,ld,rfl,B,O,S,hN,hw,hp,hz,kf,kt⟩
 refine⟨rfl,?_⟩
 have hle:=S.le
 obtain⟨f,h0⟩:=O.tb
 refine ju B.eb rfl ?_
 refine⟨b,xb,xu,xc,N,w,top,p,A,U,C,f,rfl,B,S.tn.isA,hle,hN,hp,hw,h0,fun L hL=>?_⟩
 have B1:=B.tab h0 (fT true)
 have O1:=O.IP
 try dsimp only[ak]
 refine fD (fun σ st'=>∃(L:List Nat) (v4 v5:Option D) (c:Mx.B3) (gr:Nat),σ=[some (.ref b),some (.int top),some (.int p),some (.lst (L.map fun(k:Nat)=> .int (k:Int))),v4,v5]∧L.length≤1∧Bn st' b xb xu xc c.A c.U c.C∧Bo n0 st st' b xb xu xc∧Mx.fP N top p ⟨A,U,C⟩ c∧Mx.sx A0 N w top p (2^e) ⟨A,U,C⟩ c gr∧Mx.g7 c.A N top p L) (fun nx hnx=>?_) ?_
 · refine⟨fun m σ st'=>∃(L:List Nat) (v4 v5:Option D) (c:Mx.B3) (gr:Nat),σ=[some (.ref b),some (.int top),some (.int p),some (.lst (L.map fun(k:Nat)=> .int (k:Int))),v4,v5]∧Bn st' b xb xu xc c.A c.U c.C∧Bo n0 st st' b xb xu xc∧Mx.fP N top p ⟨A,U,C⟩ c∧Mx.sx A0 N w top p (2^e) ⟨A,U,C⟩ c gr∧Mx.g7 c.A N top p L∧m=Mx.mu c.A N p,⟨_,L,none,none,⟨A,U,C⟩,1,rfl,B1,O1,.refl _,S.Nq,hL,rfl⟩,?_⟩
   rintro m σ st1 ⟨L,v4,v5,c,gr,rfl,B,O,hR,hG,hL,rfl⟩
   refine di rfl ?_
   rw[List.length_map]
   refine Jj (fun h=>eB ?_) fun h=>uC (hnx _ _ ⟨L,v4,v5,c,gr,rfl,by omega,B,O,hR,hG,hL⟩)
   obtain⟨M,j,k,rfl⟩:=Ds (L:=L) (by omega)
   refine iq (az rfl LW (iq (az rfl Ll ?_)))
   obtain⟨G2,hlt,hoth,k1,k2,j1,j2,hjk,hj0⟩:=hG.step hp hL
   have T:=hG.tn
   have lA:=T.isA.len
   have hlow:=G2.low S.lo.1
   refine ju B.eb rfl (cF B.eb rfl (az (aH B.e1) (dE (by omega)) (az rfl (m4 (by rw[Mx.cP T.isA k2];exact hp)) (cF B.eb rfl (az (aH B.e1) (dE (by omega)) (az rfl (m4 (by rw[Mx.cP T.isA j2];exact hp)) ?_))))))
   refine⟨_,_,rfl,hj0,?_⟩
   have hq:(Mx.qn (Mx.g c.A k p) (Mx.g c.A j p)).natAbs≤2^((N-top+1)*(e+1)):=by
    refine Nat.le_trans ?_ hlow
    have a1:=hG.pos
    have a2:1≤2^e:=Nat.one_le_two_pow
    have a3:1*(Mx.qn (Mx.g c.A k p) (Mx.g c.A j p)).natAbs≤gr*(1+(Mx.qn (Mx.g c.A k p) (Mx.g c.A j p)).natAbs):=Nat.mul_le_mul a1 (by omega)
    have a4:=Nat.mul_le_mul a2 a3
    omega
   have hx:2^e*gr≤2^((N-top+1)*(e+1)):=hG.low S.lo.1
   have hm:∀ {x:Int},x.natAbs≤2^e*gr→IntMulOk (Mx.qn (Mx.g c.A k p) (Mx.g c.A j p)) x∧IntMulOk (-(Mx.qn (Mx.g c.A k p) (Mx.g c.A j p))) x:=fun{x} h=>
    ⟨c7 hq (Nat.le_trans h hx) (by omega),c7 (by rw[Int.natAbs_neg];exact hq) (Nat.le_trans h hx) (by omega)⟩
   refine⟨b,xb,xu,xc,N,w,k,j,c.A,c.U,c.C,_,rfl,B,T.isA,T.eH,T.fV,k2,j2,hN,hw,fun x hx=>(hm (vc T.isA hG.lA j1 j2 x hx)).2,fun x hx=>(hm (vc T.eH hG.lU j1 j2 x hx)).2,fun x hx=>(hm (vc T.fV hG.lC k1 k2 x hx)).1,fun st2 B2 l2 f2=>?_⟩
   have O2:=O.low f2
   obtain⟨f',h0'⟩:=O2.tb
   refine ju B2.eb rfl ?_
   refine⟨b,xb,xu,xc,N,w,top,p,_,_,_,f',rfl,B2,G2.tn.isA,hle,hN,hp,hw,h0',fun L2 hL2=>?_⟩
   refine⟨_,?_,L2,_,_,Mx.jS c p k j,_,rfl,B2.tab h0' (fT true),O2.IP,hR.tail ⟨M,k,j,hL,rfl⟩,G2,hL2,rfl⟩
   unfold Mx.mu
   refine Mx.FG (k:=k) hlt k2 fun i hi=>?_
   by_cases h:i=k
   · rw[h];exact Nat.le_of_lt hlt
   · rw[hoth i h];exact Nat.le_refl _
 · rintro σ st1 ⟨L,v4,v5,c,gr,rfl,hl,B,O,hR,hG,hL⟩
   refine di rfl ?_
   rw[List.length_map]
   match L,hl,hL with
   | [],_,hL=>
     refine eq2 (fun h=>eB ?_) fun h=>absurd rfl h
     have e0:c=⟨A,U,C⟩:=by
      rcases hG.LM with z|⟨j,h1,h2,h3⟩
      · exact z
      · exact absurd ((hL.mem j).mpr ⟨h1,h2,h3⟩) (by simp)
     subst e0
     exact kf st1 B O hL
   | [r],_,hL=>
     refine eq2 (fun h=>absurd h (by simp)) fun h=>uC ?_
     obtain⟨s1,hr1,hr2⟩:=hG.set hL
     have ht:top<N:=by omega
     have T:=hG.tn
     have s2:Mx.va A0 N w top p (2^((N-top+1)*(e+1))) ⟨A,U,C⟩ (Mx.setB c p top r):=by
      have hlow:=hG.low S.lo.1
      exact⟨s1.tn,s1.up,⟨fun i q h1 h2=>Nat.le_trans (s1.lo.1 i q h1 h2) hlow,fun i q h1 h2=>Nat.le_trans (s1.lo.2.1 i q h1 h2) hlow,fun i q h1 h2=>Nat.le_trans (s1.lo.2.2 i q h1 h2) hlow⟩,s1.zs,s1.tp,s1.z1⟩
     refine ju B.eb rfl (az rfl (show dM ([r].map fun(k:Nat)=>D.int (k:Int)) 0=some (.int (r:Int))from rfl) ?_)
     refine⟨b,xb,xu,xc,N,w,top,r,c.A,c.U,c.C,rfl,B,T.isA,T.eH,T.fV,ht,hr2,fun st2 B2 l2 f2=>?_⟩
     obtain⟨l1,l2',l3,l4,l5⟩:=O.lo
     have hst:n0≤st1.length:=by
      have:=(List.getElem?_eq_some_iff.mp B.eb).1
      omega
     have O2:Bo n0 st st2 b st1.length (st1.length+1) (st1.length+2):=by
      refine⟨⟨l1,l2',by omega,by omega,by omega⟩,fun m hm h0=>?_,?_⟩
      · rw[f2 m (by omega) (by omega)];exact O.fr m hm h0
      · obtain⟨z,e⟩:=O.tb
        exact⟨z,by rw[f2 0 (by omega) (by omega)];exact e⟩
     have T1:=T.EN ht hr2
     refine cF B2.eb rfl (az (aH B2.e1) (dE (by have:=T1.isA.len;omega)) (az rfl (m4 (by rw[Mx.cP T1.isA ht];exact hp)) ?_))
     refine Kh (fun h=>eB ?_) fun h=>uC ?_
     · have es:Mx.setB c p top r=⟨Mx.gp (Mx.bC c.A top r) top,Mx.gp (Mx.bC c.U top r) top,Mx.gp (Mx.bC c.C top r) top⟩:=if_pos h
       refine ju B2.eb rfl ?_
       refine⟨b,_,_,_,N,w,top,_,_,_,rfl,B2,T1.isA,T1.eH,T1.fV,ht,hN,hw,fun st3 B3 l3 f3=>?_⟩
       exact kt st3 _ _ _ c r (by rw[es];exact B3) (O2.low f3) hR hL ht s2
     · have es:Mx.setB c p top r=⟨Mx.bC c.A top r,Mx.bC c.U top r,Mx.bC c.C top r⟩:=if_neg (fun z=>by unfold Mx.g at z;omega)
       exact kt st2 _ _ _ c r (by rw[es];exact B2) O2 hR hL ht s2
noncomputable def g_:cD:=fun ds st K=>∃(b xb xu xc N w top p e u:Nat) (A0 A U C:List (List Int)),ds=[.ref b,.int top,.int p]∧Bn st b xb xu xc A U C∧Mx.Tn A0 A U C N w∧N≤8∧w≤9∧p<w∧top<N∧0<Mx.g A top p∧(∀q,q<p→Mx.g A top q=0)∧
 (∀q,(Mx.g A top q).natAbs≤2^e∧(Mx.g U top q).natAbs≤2^e∧(Mx.g C top q).natAbs≤2^e)∧(∀i q,i<top→(Mx.g A i q).natAbs≤2^u∧(Mx.g U i q).natAbs≤2^u∧(Mx.g C i q).natAbs≤2^u)∧e≤60000000∧u≤60000000∧
 ∀st',Bn st' b xb xu xc (Mx.lJ p top top ⟨A,U,C⟩).A (Mx.lJ p top top ⟨A,U,C⟩).U (Mx.lJ p top top ⟨A,U,C⟩).C→(∀m,m≠xb→m≠xu→m≠xc→st'[m]?=st[m]?)→Mx.oZ A0 N w top p e u ⟨A,U,C⟩ top (Mx.lJ p top top ⟨A,U,C⟩)→K .aG st'
noncomputable def fx:List Str:=["self","top","place","k"]
noncomputable def p7:DS:=(iA (gq (af (ae 1) ak)) (bL 3) (iQ (ja aE "take" jO (ae 0) (af (ae 3) (af (au i9 (au aT (au aT (dP aE "body" (ae 0)) (ae 3)) (ae 2)) (au aT (au aT (dP aE "body" (ae 0)) (ae 1)) (ae 2))) (af (ae 1) ak))))))
theorem z9{X:List (List Int)}{i:Nat}{x:Int}(hx:x∈X.getD i []):∃q,x=Mx.g X i q:=by
 obtain⟨c,hc,rfl⟩:=List.mem_iff_getElem.mp hx
 exact⟨c,by unfold Mx.g;rw[Mx.bG hc]⟩
theorem oY:∀ds st K,g_ ds st K→ds.length=3∧p7 {nx:=fun _ st'=>K .aG st',rt:=K} (a7 fx ds) st:=by
 rintro ds st K ⟨b,xb,xu,xc,N,w,top,p,e,u,A0,A,U,C,rfl,B,T,hN,hw,hp,ht,htp,hz,hlo,hhi,he,hu,kk⟩
 refine⟨rfl,?_⟩
 refine jz ⟨by omega,by omega⟩ ?_
 rw[Int.toNat_natCast]
 refine nJ top (fun k σ st'=>∃v3:Option D,σ=[some (.ref b),some (.int top),some (.int p),v3]∧Bn st' b xb xu xc (Mx.lJ p top k ⟨A,U,C⟩).A (Mx.lJ p top k ⟨A,U,C⟩).U (Mx.lJ p top k ⟨A,U,C⟩).C∧(∀m,m≠xb→m≠xu→m≠xc→st'[m]?=st[m]?)∧Mx.oZ A0 N w top p e u ⟨A,U,C⟩ k (Mx.lJ p top k ⟨A,U,C⟩)) ?_ ?_ ⟨none,rfl,B,fun _ _ _ _=>rfl,Mx.oZ.start T fun q=>(hlo q).2.2⟩
 · rintro σ st' ⟨v3,rfl,B',f,I⟩
   exact kk st' B' f I
 · rintro k σ st' rest hk ⟨v3,rfl,B',f,I⟩ next
   refine⟨_,rfl,?_⟩
   have hs:=I.step hk ht hp htp hz (fun q=>⟨(hlo q).1,(hlo q).2.1⟩) hhi
   generalize hc:Mx.lJ p top k ⟨A,U,C⟩=c at*
   have lA:=I.tn.isA.len
   have kN:k<N:=by omega
   have gA:∀i q,k≤i→Mx.g c.A i q=Mx.g A i q:=fun i q hi=>by unfold Mx.g;rw[(I.rA i hi).1]
   have gU:∀i q,k≤i→Mx.g c.U i q=Mx.g U i q:=fun i q hi=>by unfold Mx.g;rw[(I.rA i hi).2]
   have gC:∀i q,i≠top→Mx.g c.C i q=Mx.g C i q:=fun i q hi=>by unfold Mx.g;rw[I.rC i hi]
   have hq:((Mx.g c.A k p).fdiv (Mx.g c.A top p)).natAbs≤2^u:=by
    rw[gA k p (Nat.le_refl _),gA top p (by omega)]
    exact Nat.le_trans (Mx.kl _ htp) (hhi k p hk).1
   have htp':Mx.g c.A top p≠0:=by rw[gA top p (by omega)];omega
   refine ju B'.eb rfl (cF B'.eb rfl (az (aH B'.e1) (dE (by omega)) (az rfl (m4 (by rw[Mx.cP I.tn.isA kN];exact hp)) (cF B'.eb rfl (az (aH B'.e1) (dE (by omega)) (az rfl (m4 (by rw[Mx.cP I.tn.isA ht];exact hp)) (ir htp' ?_)))))))
   refine⟨b,xb,xu,xc,N,w,k,top,c.A,c.U,c.C,_,rfl,B',I.tn.isA,I.tn.eH,I.tn.fV,kN,ht,hN,hw,fun x hx=>?_,fun x hx=>?_,fun x hx=>?_,fun st2 B2 l2 f2=>?_⟩
   · obtain⟨q,rfl⟩:=z9 hx
     rw[gA top q (by omega)]
     exact c7 (by rw[Int.natAbs_neg];exact hq) (hlo q).1 (by omega)
   · obtain⟨q,rfl⟩:=z9 hx
     rw[gU top q (by omega)]
     exact c7 (by rw[Int.natAbs_neg];exact hq) (hlo q).2.1 (by omega)
   · obtain⟨q,rfl⟩:=z9 hx
     rw[gC k q (by omega)]
     exact c7 hq (hhi k q hk).2.2 (by omega)
   · have el:Mx.lJ p top (k+1) ⟨A,U,C⟩=⟨Mx.bH c.A k ((Mx.g c.A k p).fdiv (Mx.g c.A top p)) top,Mx.bH c.U k ((Mx.g c.A k p).fdiv (Mx.g c.A top p)) top,Mx.bH c.C top (-((Mx.g c.A k p).fdiv (Mx.g c.A top p))) k⟩:=by rw[←hc];rfl
     refine next _ _ ⟨_,rfl,?_,fun m h1 h2 h3=>(f2 m h1 h2 h3).trans (f m h1 h2 h3),?_⟩
     · rw[el];exact B2
     · rw[el];exact hs
structure Bk(st st':ag):Prop where
 le:st.length≤st'.length
 fr:∀m,m<st.length→m≠0→st'[m]?=st[m]?
 tb:∃f,st'[0]?=some (fT f)
noncomputable def o3:cD:=fun ds st K=>∃(d:D) (N w e0:Nat) (A:List (List Int)) (f:Bool),ds=[d]∧je st d A∧Mx.dJ N w A∧1≤N∧N≤8∧w≤9∧Mx.i_ A N 0 (2^e0)∧(∀t,t≤N→Mx.Ez N e0 t≤50000000∧Mx.Vz N e0 t≤60000000)∧st[0]?=some (fT f)∧
 ∀st' (top:Nat) (c:Mx.B3) (ld:Nat→Nat),Mx.mT A N w top c→Mx.jw A N w c top w ld (Mx.Ez N e0 top) (Mx.Vz N e0 top)→Bk st st'→K (.tup [dW (c.A.take top),dW c.U,dW (Mx.Ft c.C N)]) st'
noncomputable def lV:List Str:=["rows","bench","top","place","back"]
noncomputable def Aa:DS:=(aF (a8 1 (Ac aE jn (af (ae 0) ak)))
 (aF (a8 2 (dC (.int 0)))
 (aF (iA (gq (af (bw eR (af (au aT (ae 0) (dC (.int 0))) ak)) ak)) (bL 3) (dz (a5 (ja aE "gather" kD (ae 1) (af (ae 2) (af (ae 3) ak)))) (aF (iQ (ja aE "lower_above" g_ (ae 1) (af (ae 2) (af (ae 3) ak))))
 (Al 2 (yb (fun i j=>i+j)) (dC (.int 1)))) cN))
 (aF (a8 4 (aM lM (af (dP aE "back_columns" (ae 1)) (af (bw eR (af (ae 0) ak)) ak))))
 (bD (gg (af (aM nq (af (ni (dP aE "body" (ae 1)) kE (o4 (ae 2))) ak)) (af (aM nq (af (dP aE "turn" (ae 1)) ak)) (af (ae 4) ak)))))))))
theorem nM{st st':ag}{f:Bool}(h0:st[0]?=some (fT f))(fr:∀m,m<st.length→m≠0→st'[m]?=st[m]?){d:D}{xs:List D}(h:items? st d=some xs):items? st' d=some xs:=by
 cases d with
 |ref n=>
  have e:=qL h
  have n0:n≠0:=rj e h0
  rw[aH ((fr n (List.getElem?_eq_some_iff.mp e).1 n0).trans e)]
 |_=>exact h
theorem vp{st st':ag}{f:Bool}(h0:st[0]?=some (fT f))(fr:∀m,m<st.length→m≠0→st'[m]?=st[m]?):∀ {ds:List D} {A:List (List Int)},cx st ds A→cx st' ds A
 | [],[],_=>trivial
 |_::_,_::_,h=>⟨nM h0 fr h.1,vp h0 fr h.2⟩
theorem uH{st st':ag}{f:Bool}(h0:st[0]?=some (fT f))(fr:∀m,m<st.length→m≠0→st'[m]?=st[m]?){d:D}{A:List (List Int)}(h:je st d A):je st' d A:=by
 obtain⟨ds,h1,h2⟩:=h.ex
 exact⟨ds,nM h0 fr h1,vp h0 fr h2⟩
theorem yJ{xs:List D}{j:Nat}:L3.cutD xs none (some (j:Int))=xs.take j:=by
 unfold L3.cutD
 rw[HT.zK,HT.x9,List.drop_zero,Nat.sub_zero]
 by_cases h:j≤xs.length
 · rw[Nat.min_eq_left h]
 · rw[Nat.min_eq_right (by omega),List.take_length,List.take_of_length_le (by omega)]
theorem yS:∀ds st K,o3 ds st K→ds.length=1∧Aa {nx:=fun _ st'=>K .aG st',rt:=K} (a7 lV ds) st:=by
 rintro ds st K ⟨d,N,w,e0,A,f,rfl,hd,hA,hN1,hN,hw,hlo,hsz,h0,kk⟩
 refine⟨rfl,?_⟩
 have lA:=hA.len
 have h0l:0<st.length:=(List.getElem?_eq_some_iff.mp h0).1
 have hd1:je (st++[Cell.ins aE []]) d A:=uH h0 (fun m hm _=>List.getElem?_append_left hm) hd
 refine⟨st.length,N,d,A,rfl,by simp,hd1,lA,hN,fun st1 B1 l1 f1=>⟨rfl,?_⟩⟩
 have hl1:(st++[Cell.ins aE []]).length=st.length+1:=by simp
 have fr1:∀m,m<st.length→st1[m]?=st[m]?:=fun m hm=>by rw[f1 m (by omega) (by omega),List.getElem?_append_left hm]
 have O1:Bo st.length st st1 st.length (st.length+1) (st.length+1+1) (st.length+1+2):=⟨⟨h0l,by omega,by omega,by omega,by omega⟩,fun m hm _=>fr1 m hm,f,(fr1 0 h0l).trans h0⟩
 rw[hl1]at B1
 have hdk:∀ {st':ag},(∀m,m<st.length→m≠0→st'[m]?=st[m]?)→je st' d A:=fun h=>uH h0 h hd
 obtain⟨da,hda,hra⟩:=(hdk O1.fr).ex
 have hdl:=hra.len
 have hrow0:∃d0,da[0]?=some d0∧items? st1 d0=some (aA (A.getD 0 [])):=by
  have hi:0<da.length:=by omega
  obtain⟨r,e1,e2⟩:=cx.get hra (List.getElem?_eq_getElem hi)
  refine⟨da[0],List.getElem?_eq_getElem hi,?_⟩
  have:A.getD 0 []=r:=by rw[List.getD_eq_getElem?_getD,e1];rfl
  rw[this];exact e2
 obtain⟨d0,hd0,hi0⟩:=hrow0
 have er:(aA (A.getD 0 [])).length=w:=by unfold aA;rw[List.length_map];exact Mx.cP hA (by omega)
 try dsimp only[ak]
 refine fD (A:=a8 2 _) (fun σ st'=>σ=[some d,some (.ref st.length),some (.int 0),none,none]∧st'=st1) (fun nx h=>h _ _ ⟨rfl,rfl⟩) ?_
 rintro _ _ ⟨rfl,rfl⟩
 refine fD (A:=iA _ _ _) (fun σ st'=>∃(top xb xu xc:Nat) (v3:Option D) (c:Mx.B3) (ld:Nat→Nat),σ=[some d,some (.ref st.length),some (.int top),v3,none]∧Bn st' st.length xb xu xc c.A c.U c.C∧Bo st.length st st' st.length xb xu xc∧Mx.mT A N w top c∧Mx.jw A N w c top w ld (Mx.Ez N e0 top) (Mx.Vz N e0 top)) (fun nx hnx=>?_) ?_
 · refine az hda (show dM da 0=some d0 from kj (j:=0) hd0) (di hi0 ?_)
   rw[er]
   refine jz ⟨by omega,by omega⟩ ?_
   rw[Int.toNat_natCast]
   refine nJ w (fun p σ st'=>∃(top xb xu xc:Nat) (v3:Option D) (c:Mx.B3) (ld:Nat→Nat),σ=[some d,some (.ref st.length),some (.int top),v3,none]∧Bn st' st.length xb xu xc c.A c.U c.C∧Bo st.length st st' st.length xb xu xc∧Mx.mT A N p top c∧Mx.jw A N w c top p ld (Mx.Ez N e0 top) (Mx.Vz N e0 top)) ?_ ?_ ⟨0,_,_,_,none,⟨A,Mx.units N,Mx.units N⟩,fun _=>0,rfl,B1,O1,.start,Mx.jw.start hA hlo⟩
   · rintro σ st' ⟨top,xb,xu,xc,v3,c,ld,rfl,B,O,hC,S⟩
     exact hnx _ _ ⟨top,xb,xu,xc,v3,c,ld,rfl,B,O,hC,S⟩
   · rintro p σ st' rest hp ⟨top,xb,xu,xc,v3,c,ld,rfl,B,O,hC,S⟩ next
     refine⟨_,rfl,?_⟩
     have hle:=S.le
     have hz1:(N-top+1)*(Mx.Ez N e0 top+1)≤60000000:=by
      by_cases ht:top<N
      · exact Nat.le_trans (hsz (top+1) ht).1 (by decide)
      · have e:N-top=0:=by omega
        rw[e]
        have:=(hsz top hle).1
        omega
     refine ju B.eb rfl ?_
     refine⟨st.length,st.length,xb,xu,xc,N,w,top,p,_,_,A,c.A,c.U,c.C,ld,rfl,B,⟨O.lo,fun _ _ _=>rfl,O.tb⟩,S,hN,hw,hp,hz1,fun st2 B2 O2 hL=>?_,fun st2 xb2 xu2 xc2 c2 r B2 O2 hR hL ht s1=>?_⟩
     · exact uC (next _ _ ⟨top,xb,xu,xc,_,c,ld,rfl,B2,⟨O2.lo,fun m h1 h2=>(O2.fr m h1 h2).trans (O.fr m h1 h2),O2.tb⟩,.next hC (.none hL),S.skip hL⟩)
     · refine eB ?_
       have O2':Bo st.length st st2 st.length xb2 xu2 xc2:=⟨O2.lo,fun m h1 h2=>(O2.fr m h1 h2).trans (O.fr m h1 h2),O2.tb⟩
       have hup:∀i q,i<top→Mx.g (Mx.setB c2 p top r).A i q=Mx.g c.A i q∧Mx.g (Mx.setB c2 p top r).U i q=Mx.g c.U i q∧Mx.g (Mx.setB c2 p top r).C i q=Mx.g c.C i q:=fun i q hi=>by
        obtain⟨a1,a2,a3⟩:=s1.up i hi
        unfold Mx.g
        rw[a1,a2,a3]
        exact⟨rfl,rfl,rfl⟩
       refine ju B2.eb rfl ?_
       refine⟨st.length,xb2,xu2,xc2,N,w,top,p,Mx.Ez N e0 (top+1),Mx.Vz N e0 top,A,_,_,_,rfl,B2,s1.tn,hN,hw,hp,ht,s1.tp,fun q hq=>s1.zs top q (Nat.le_refl _) ht hq,fun q=>⟨s1.lo.1 top q (Nat.le_refl _) ht,s1.lo.2.1 top q (Nat.le_refl _) ht,s1.lo.2.2 top q (Nat.le_refl _) ht⟩,fun i q hi=>?_,Nat.le_trans (hsz (top+1) ht).1 (by decide),Nat.le_trans (hsz top hle).2 (by decide),fun st3 B3 f3 I=>?_⟩
       · obtain⟨a1,a2,a3⟩:=hup i q hi
         rw[a1,a2,a3]
         exact S.hi i q hi
       · have hS:=Mx.va.next (e':=Mx.Ez N e0 (top+1)) (u':=Mx.Vz N e0 (top+1)) S s1 ht I hN (by show _≤Mx.Vz N e0 top+Mx.Vz N e0 top+Mx.Ez N e0 (top+1)+5;omega) (by show _≤Mx.Vz N e0 top+Mx.Vz N e0 top+Mx.Ez N e0 (top+1)+5;omega)
         exact next _ _ ⟨top+1,xb2,xu2,xc2,_,_,_,rfl,B3,O2'.low f3,.next hC (.one hR hL),hS⟩
 · rintro σ st2 ⟨top,xb,xu,xc,v3,c,ld,rfl,B,O,hC,S⟩
   have T:=S.tn
   have lN:=T.isA.len
   refine cF B.eb rfl ?_
   obtain⟨da2,hda2,hra2⟩:=(hdk O.fr).ex
   refine di hda2 ?_
   rw[hra2.len,lA]
   refine⟨_,c.C,N,rfl,⟨_,aH B.e3,cx.lst⟩,T.fV.pR,by rw[T.fV.len];omega,by omega,?_⟩
   refine cF B.eb rfl (BV B.e1 ?_)
   rw[yJ,←List.map_take]
   refine⟨_,c.A.take top,rfl,⟨_,rfl,cx.lst⟩,by rw[List.length_take];omega,?_⟩
   refine cF B.eb rfl ?_
   refine⟨_,c.U,rfl,⟨_,aH B.e2,cx.lst⟩,by rw[T.eH.len];omega,?_⟩
   refine⟨by show 3≤sizeLine;decide,?_⟩
   refine kk st2 top c ld hC S ⟨?_,O.fr,O.tb⟩
   have:=(List.getElem?_eq_some_iff.mp B.eb).1
   omega
structure Wf(F:List (List Int))(m w:Nat):Prop where
 is:Mx.dJ m w F
 st:Mx.fj F m w (Mx.cX F)
 m8:m≤8
 w8:w≤8
 sm:∀k c,k<m→c<w→(Mx.g F k c).natAbs≤2^887
theorem Wf.lead{F:List (List Int)}{m w i:Nat}(h:Wf F m w)(hi:i<m):Mx.cX F i<w∧0<Mx.g F i (Mx.cX F i)∧(F.getD i []).length=w∧iP (F.getD i [])= .int ((Mx.cX F i:Nat):Int):=by
 obtain⟨l1,l2,l3⟩:=h.st.lead i hi
 refine⟨l1,l2,h.is.row hi,?_⟩
 unfold iP
 rw[CJ l3 (Int.ne_of_gt l2)]
theorem Wf.row{F:List (List Int)}{m w i:Nat}(h:Wf F m w)(hi:i<m):∀x∈F.getD i [],x.natAbs≤2^887:=fun x hx=>by
 obtain⟨c,hc,rfl⟩:=List.mem_iff_getElem.mp hx
 have hw:=h.is.row hi
 have:=h.sm i c hi (by omega)
 unfold Mx.g at this
 rwa [Mx.bG hc]at this
theorem GO{x:Int}(h:x.natAbs≤2^887)(h0:x≠0):x.natAbs.log2<9000:=
 (Nat.log2_lt (by omega)).mpr (Nat.lt_of_le_of_lt h (Nat.pow_lt_pow_right (by decide) (by decide)))
theorem drop_cons{F:List (List Int)}{i:Nat}{d:D}{rest:List D}(hr:d::rest=(F.map bz).drop i):i<F.length∧d=bz (F.getD i [])∧rest=(F.map bz).drop (i+1):=by
 have hi:i<F.length:=by
  rcases Nat.lt_or_ge i F.length with h|h
  · exact h
  · rw[List.drop_eq_nil_of_le (by rw[List.length_map];exact h)]at hr;cases hr
 rw[List.drop_eq_getElem_cons (by rw[List.length_map];exact hi),List.getElem_map]at hr
 obtain⟨h1,h2⟩:=List.cons.inj hr
 exact⟨hi,by rw[Mx.bG hi];exact h1,h2⟩
theorem drop_nil{F:List (List Int)}{i:Nat}(hr: []=(F.map bz).drop i):F.length≤i:=by
 have:=congrArg List.length hr
 rw[List.length_drop,List.length_map,List.length_nil]at this
 omega
theorem xq{i:Nat}{σ:cj}{st:ag}{K:DK}{d:D}(h:σ[i]?=some (some d))(k:K d st):ae i σ st K:=by
 unfold ae
 simp only[h]
 exact k
noncomputable def ql:cD:=fun ds st K=>∃(dr:D) (F:List (List Int)) (r:List Int) (m w e:Nat),ds=[dW F,dr]∧Wf F m w∧items? st dr=some (aA r)∧r.length=w∧(∀c,c<w→(r.getD c 0).natAbs≤2^e)∧e≤10000∧∀st',Ext st st'→K (.tup [bz (Mx.pN F r m),bz (Mx.eh F r m)]) st'
noncomputable def nt:List Str:=["form","row","weights","left","each","lead","weight"]
noncomputable def Cf:DS:=(aF (a8 2 (uY ak))
 (aF (a8 3 (bw hO (af (ae 1) ak)))
 (aF (iA (dA (ae 0)) (bL 4) (aF (a8 5 (aM iy (af (ae 4) ak)))
 (aF (a8 6 (au ma (au aT (ae 3) (ae 5)) (au aT (ae 4) (ae 5))))
 (aF (iQ (iU (ae 2) (ae 6)))
 (a8 3 (aM kB (af (ae 3) (af (nz iZ (ae 6)) (af (ae 4) ak)))))))))
 (bD (gg (af (bw dU (af (ae 2) ak)) (af (bw dU (af (ae 3) ak)) ak)))))))
theorem Ar:∀ds st K,ql ds st K→ds.length=2∧Cf {nx:=fun _ st'=>K .aG st',rt:=K} (a7 nt ds) st:=by
 rintro ds st K ⟨dr,F,r,m,w,e,rfl,hW,hr,lr,br,he,k⟩
 refine⟨rfl,?_⟩
 have lF:=hW.is.len
 have m8:=hW.m8
 have w8:=hW.w8
 refine⟨Nat.le_of_ble_eq_true rfl,?_⟩
 have X0:Ext st (st++[.lst []]):=Ext.push
 have e0:(st++[Cell.lst []])[st.length]?=some (.lst (aA [])):=by simp
 refine gO (X0.items hr) (e8 ?_)
 refine fE (fun rest σ st'=>∃(i:Nat) (v4 v5 v6:Option D),i≤m∧rest=(F.map bz).drop i∧σ=[some (dW F),some dr,some (.ref st.length),some (aY (Mx.eh F r i)),v4,v5,v6]∧Ext st st'∧st'[st.length]?=some (.lst (aA (Mx.pN F r i)))) ?_ ?_ _ _ _ ⟨0,none,none,none,Nat.zero_le _,rfl,rfl,X0,e0⟩
 · rintro σ st' ⟨i,v4,v5,v6,hi,hrest,rfl,X,ew⟩
   have e1:i=m:=Nat.le_antisymm hi (by rw[←lF];exact drop_nil hrest)
   subst e1
   exact⟨trivial,dw (aH ew) (dw rfl ⟨Nat.le_of_ble_eq_true rfl,k st' X⟩)⟩
 · rintro x rest σ st' ⟨i,v4,v5,v6,hi,hrest,rfl,X,ew⟩ next
   obtain⟨hiF,rfl,rfl⟩:=drop_cons hrest
   have him:i<m:=by rw[←lF];exact hiF
   obtain⟨l1,l2,wF,eld⟩:=hW.lead him
   have lL:=Mx.oU hW.is lr (i:=i) (Nat.le_of_lt him)
   refine⟨trivial,_,rfl,_,F.getD i [],rfl,rfl,?_⟩
   rw[eld]
   have at1:dM (aA (F.getD i [])) ((Mx.cX F i:Nat):Int)=some (.int (Mx.g F i (Mx.cX F i))):=gY (by omega)
   have at2:dM (aA (Mx.eh F r i)) ((Mx.cX F i:Nat):Int)=some (.int ((Mx.eh F r i).getD (Mx.cX F i) 0)):=gY (by omega)
   refine az rfl at2 (az rfl at1 (rB (by omega) (GO (hW.sm i _ him l1) (by omega)) ?_))
   have bx:=Mx.qZ hW.is lr hW.st hW.sm br (Nat.le_of_lt him) _ l1
   have bq:(Mx.qW F (Mx.eh F r i) i).natAbs≤2^(e+i*(887+1)):=Nat.le_trans (Mx.kl _ l2) bx
   show aF _ _ _ [_,_,_,_,_,_,some (.int (Mx.qW F (Mx.eh F r i) i))] _
   have lW:(Mx.pN F r i).length=i:=by unfold Mx.pN;simp
   refine qO (by rfl) ew (xq rfl (u9 ew (by rw[sizeLine_eq,List.length_map,lW];omega) ?_))
   have hlt:=(List.getElem?_eq_some_iff.mp ew).1
   refine iq ?_
   refine⟨_,_,_,Mx.eh F r i,F.getD i [],rfl,rfl,rfl,by omega,fun b hb=>c7 (by rw[Int.natAbs_neg];exact bq) (hW.row him b hb) (by omega),?_⟩
   refine next _ _ ⟨i+1,_,_,_,him,rfl,rfl,X.set (Nat.le_refl _),?_⟩
   rw[List.getElem?_set_self hlt,ints_app]
   congr 3
   unfold Mx.pN
   rw[List.range_succ,List.map_append]
   rfl
noncomputable def qr(st:ag):List D→List Rat→Prop
 | [],[]=>True
 |d::ds,q::qs=>items? st d=some [.int q.num,.int ((q.den:Nat):Int)]∧qr st ds qs
 |_,_=>False
theorem qr.of{st:ag}:∀ {ps:List Rat},qr st (ps.map fH) ps
 | []=>trivial
 |_::_=>⟨rfl,qr.of⟩
noncomputable def oi:cD:=fun ds st K=>∃(dp dr:D) (xs:List D) (ps:List Rat) (r:List Int) (t e:Nat),ds=[dp,dr]∧items? st dp=some xs∧qr st xs ps∧items? st dr=some (aA r)∧Mx.Pb ps t∧(∀x∈r,x.natAbs≤2^e)∧t+ps.length*(e+1)≤60000000∧K (fH (Mx.iV 0 ps r)) st
noncomputable def kZ:List Str:=["parts","row","total","one","number"]
noncomputable def y6:DS:=(aF (a8 2 (aM kh (af (dC (.int 0)) ak)))
 (aF (iA (pB (af (ae 0) (af (ae 1) ak))) (fz 3 4) (a8 2 (aM yH (af (ae 2) (af (aM uQ (af (ae 3) (af (aM kh (af (ae 4) ak)) ak))) ak)))))
 (bD (ae 2))))
theorem x6:∀ds st K,oi ds st K→ds.length=2∧y6 {nx:=fun _ st'=>K .aG st',rt:=K} (a7 kZ ds) st:=by
 rintro ds st K ⟨dp,dr,xs,ps,r,t,e,rfl,hp,hx,hr,hP,hsm,hB,k⟩
 refine⟨rfl,?_⟩
 refine⟨_,rfl,?_⟩
 refine m5 hp hr fun ok aI=>?_
 refine fE (fun rest σ st'=>st'=st∧∃(xs':List D) (ps':List Rat) (r':List Int) (tot:Rat) (T C:Nat) (v3 v4:Option D),rest=eA xs' (aA r')∧qr st xs' ps'∧σ=[some dp,some dr,some (fH tot),v3,v4]∧Mx.Sz tot T∧Mx.Pb ps' C∧(∀x∈r',x∈r)∧Mx.iV tot ps' r'=Mx.iV 0 ps r∧T+C+ps'.length*(e+1)≤60000000) ?_ ?_ _ _ _ ⟨rfl,xs,ps,r,0,0,t,none,none,rfl,hx,rfl,⟨by decide,by decide⟩,hP,fun _ h=>h,rfl,by omega⟩
 · rintro σ st' ⟨rfl,xs',ps',r',tot,T,C,v3,v4,he,hx',rfl,hT,hC,_,hd,hle⟩
   refine⟨aI _ hp hr,?_⟩
   have:Mx.iV tot ps' r'=tot:=by
    match xs',ps',r',hx',he with
    | [],[],_,_,_=>unfold Mx.iV;rfl
    |_::_,_::_,[],_,_=>unfold Mx.iV;rfl
    |_::_,_::_,_::_,_,he=>cases he
   rw[←hd,this]at k
   exact k
 · rintro x rest σ st' ⟨rfl,xs',ps',r',tot,T,C,v3,v4,he,hx',rfl,hT,hC,hm,hd,hle⟩ next
   match xs',ps',r',he,hx',hC,hm,hd,hle with
   | [],[],_,he,_,_,_,_,_=>cases he
   |_::_,_::_,[],he,_,_,_,_,_=>cases he
   |d::xs',p::ps',n::r',he,hx',⟨a,C',ha,hC',hbC⟩,hm,hd,hle=>
    have hz:eA (d::xs') (aA (n::r'))= .tup [d,.int n]::eA xs' (aA r'):=rfl
    rw[hz,List.cons.injEq]at he
    obtain⟨rfl,rfl⟩:=he
    have hn:=hsm n (hm n List.mem_cons_self)
    rw[List.length_cons,Nat.succ_mul]at hle
    have s1:=Mx.Sz.int hn
    refine⟨aI _ hp hr,_,rfl,?_⟩
    refine⟨_,rfl,d,_,p,(n:Rat),a,e,rfl,⟨hx'.1,ha⟩,Fq.of s1,by omega,?_⟩
    refine⟨_,_,tot,p*(n:Rat),T,a+e,rfl,Fq.of hT,Fq.of (ha.mul s1),by omega,?_⟩
    exact next _ _ ⟨rfl,xs',ps',r',_,_,C',_,_,rfl,hx'.2,rfl,hT.add (ha.mul s1),hC',fun x hx=>hm x (List.mem_cons_of_mem _ hx),hd,by omega⟩
noncomputable def nW:cD:=fun ds st K=>∃(F:List (List Int)) (R:List Int) (m w l:Nat),ds=[dW F,bz R,.int l]∧Wf F m w∧R.length=w∧l<w∧∀b:Int,Mx.sr F m l (R.getD l 0) b→K (.int b) st
noncomputable def kP:List Str:=["form","rest","place","row"]
noncomputable def yX:DS:=(aF (iA (dA (ae 0)) (bL 3) (dz (a5 (au iw (aM iy (af (ae 3) ak)) (ae 2))) (bD (au aT (ae 3) (ae 2))) cN))
 (bD (au cK (dC (.int 2)) (bw mW (af (au aT (ae 1) (ae 2)) ak)))))
theorem xF:∀ds st K,nW ds st K→ds.length=3∧yX {nx:=fun _ st'=>K .aG st',rt:=K} (a7 kP ds) st:=by
 rintro ds st K ⟨F,R,m,w,l,rfl,hW,lR,hl,k⟩
 refine⟨rfl,?_⟩
 have lF:=hW.is.len
 refine e8 ?_
 refine fE (fun rest σ st'=>st'=st∧∃(i:Nat) (v3:Option D),i≤m∧rest=(F.map bz).drop i∧σ=[some (dW F),some (bz R),some (.int l),v3]∧∀k,k<i→Mx.cX F k≠l) ?_ ?_ _ _ _ ⟨rfl,0,none,Nat.zero_le _,rfl,rfl,fun k h=>absurd h (Nat.not_lt_zero _)⟩
 · rintro σ st' ⟨rfl,i,v3,hi,hrest,rfl,hn⟩
   have:=drop_nil hrest
   exact⟨trivial,az rfl (gY (by omega)) (mM (cA (gW (by decide) (by decide)) (k _ (.inr ⟨fun k hk=>hn k (by omega),rfl⟩))))⟩
 · rintro x rest σ st' ⟨rfl,i,v3,hi,hrest,rfl,hn⟩ next
   obtain⟨hiF,rfl,rfl⟩:=drop_cons hrest
   have him:i<m:=by rw[←lF];exact hiF
   obtain⟨l1,l2,wF,eld⟩:=hW.lead him
   refine⟨trivial,_,rfl,_,F.getD i [],rfl,rfl,?_⟩
   rw[eld]
   refine eq2 (fun h=>eB ?_) fun h=>next _ _ ⟨rfl,i+1,_,him,rfl,rfl,fun k hk=>?_⟩
   · have hh:Mx.cX F i=l:=by omega
     exact az rfl (gY (by omega)) (k _ (.inl ⟨i,him,hh,rfl⟩))
   · by_cases q:k=i
     · subst q;omega
     · exact hn k (by omega)
theorem vM:∀(r:List Int) (i l:Nat),iO r i=some l→∃k,l=i+k∧k<r.length∧r.getD k 0≠0∧∀c,c<k→r.getD c 0=0
 | [],_,_,h=>by cases h
 |x::r,i,l,h=>by
  unfold iO at h
  split at h
  · rename_i hx
    obtain⟨k,e,hk,hr,hz⟩:=vM r (i+1) l h
    refine⟨k+1,by omega,Nat.succ_lt_succ hk,hr,fun c hc=>?_⟩
    cases c with
    |zero=>exact hx
    |succ c=>exact hz c (Nat.lt_of_succ_lt_succ hc)
  · cases h
    exact⟨0,rfl,Nat.succ_pos _,by assumption,fun c hc=>absurd hc (Nat.not_lt_zero _)⟩
theorem si{r:List Int}{l:Nat}(h:j7 r=some l):l<r.length∧r.getD l 0≠0∧∀c,c<l→r.getD c 0=0:=by
 obtain⟨k,e,h1,h2,h3⟩:=vM r 0 l h
 rw[Nat.zero_add]at e
 subst e
 exact⟨h1,h2,h3⟩
noncomputable def jP:cD:=fun ds st K=>∃(F:List (List Int)) (R:List Int) (m w e l:Nat),ds=[dW F,bz R]∧Wf F m w∧R.length=w∧j7 R=some l∧(∀c,c<w→(R.getD c 0).natAbs≤2^e)∧e≤10000∧∀st' b,Ext st st'→Mx.sr F m l (R.getD l 0) b→Mx.Pb (Mx.lH F m w l (Mx.iW w l b) m) 10000000→K (.tup ((Mx.lH F m w l (Mx.iW w l b) m).map fH)) st'
noncomputable def ia:List Str:=["form","rest","place","parts","k","lead","owed"]
noncomputable def t7:DS:=(aF (a8 2 (aM iy (af (ae 1) ak)))
 (aF (a8 3 (au ux (nc (af (aM kh (af (dC (.int 0)) ak)) ak)) (bw eR (af (ae 1) ak))))
 (aF (eS (ae 3) (ae 2) (aM nh (af (dC (.int 1)) (af (aM nW (af (ae 0) (af (ae 1) (af (ae 2) ak)))) ak))))
 (aF (iA (uO (af (au j_ (bw eR (af (ae 0) ak)) (dC (.int 1))) (af (nz iZ (dC (.int 1))) (af (nz iZ (dC (.int 1))) ak)))) (bL 4) (aF (a8 5 (aM iy (af (au aT (ae 0) (ae 4)) ak)))
 (dz (a5 (au pV (ae 5) (ae 2))) (aF (a8 6 (aM vb (af (aM kh (af (dC (.int 0)) ak)) (af (aM oi (af (ae 3) (af (au aT (ae 0) (ae 4)) ak))) ak))))
 (eS (ae 3) (ae 5) (aM xg (af (ae 6) (af (aM kh (af (au aT (au aT (ae 0) (ae 4)) (ae 5)) ak)) ak))))) cN)))
 (bD (bw dU (af (ae 3) ak)))))))
theorem lG(a:Int)(n:Nat):(gK a n).length=n:=by unfold gK;simp
theorem CZ{m i:Nat}{d:D}{rest:List D}(hr:d::rest=(gK ((m:Int)-1) m).drop i):i<m∧d= .int ((m-1-i:Nat):Int)∧rest=(gK ((m:Int)-1) m).drop (i+1):=by
 have hi:i<m:=by
  rcases Nat.lt_or_ge i m with h|h
  · exact h
  · rw[List.drop_eq_nil_of_le (by rw[lG];exact h)]at hr;cases hr
 have hl:i<(gK ((m:Int)-1) m).length:=by rw[lG];exact hi
 rw[List.drop_eq_getElem_cons hl]at hr
 obtain⟨h1,h2⟩:=List.cons.inj hr
 refine⟨hi,?_,h2⟩
 have h3:(gK ((m:Int)-1) m)[i]=D.int ((m:Int)-1+(i:Nat)*(-1)):=by simp[gK]
 rw[h1,h3]
 congr 1
 omega
theorem zT{A:List (List Int)}{k:Nat}(h:k<A.length):dM (A.map bz) (k:Int)=some (bz (A.getD k [])):=by
 refine kj ?_
 rw[List.getElem?_map,List.getElem?_eq_getElem h,Mx.bG h];rfl
theorem xM{α:Type}(d:α):∀n:Nat,(List.replicate n [d]).flatten=List.replicate n d
 |0=>rfl
 |n+1=>by rw[List.replicate_succ,List.flatten_cons,xM d n,List.replicate_succ];rfl
theorem Ko{ps:List Rat}{r:List Int}{w:Nat}(h1:ps.length=w)(h2:r.length=w):Mx.iV 0 ps r=Mx.dq ps w fun c=>r.getD c 0:=by
 rw[Mx.B7 ps r 0 h1 h2]
 grind
theorem sW:∀ds st K,jP ds st K→ds.length=2∧t7 {nx:=fun _ st'=>K .aG st',rt:=K} (a7 ia ds) st:=by
 rintro ds st K ⟨F,R,m,w,e,l,rfl,hW,lR,el,bR,he,k⟩
 refine⟨rfl,?_⟩
 have lF:=hW.is.len
 have m8:=hW.m8
 have w8:=hW.w8
 obtain⟨hl,hne,_⟩:=si el
 rw[lR]at hl
 have el':iP R= .int (l:Int):=by unfold iP;rw[el]
 refine⟨_,R,rfl,rfl,?_⟩
 rw[el']
 refine⟨_,rfl,Nat.le_of_ble_eq_true rfl,di rfl (FV ⟨by omega,by rw[List.length_map];omega,b_ (by simp;omega)⟩ ?_)⟩
 rw[List.length_map,lR,Int.toNat_natCast,xM]
 have er:List.replicate w (fH ((0:Int):Rat))=(List.replicate w (0:Rat)).map fH:=by rw[List.map_replicate];rfl
 rw[er]
 have X0:Ext st (st++[.lst ((List.replicate w (0:Rat)).map fH)]):=Ext.push
 have e0:(st++[Cell.lst ((List.replicate w (0:Rat)).map fH)])[st.length]?=some (.lst ((List.replicate w (0:Rat)).map fH)):=by simp
 generalize st++[Cell.lst ((List.replicate w (0:Rat)).map fH)]=st1 at X0 e0⊢
 refine⟨F,R,m,w,l,rfl,hW,lR,hl,fun b hb=>?_⟩
 have b0:=hb.pos hW.st hne
 have bb:b.natAbs≤2^(e+888):=by
  rcases hb with⟨k,hk,_,rfl⟩|⟨_,rfl⟩
  · exact Nat.le_trans (hW.sm k l hk hl) (Nat.pow_le_pow_right (by decide) (by omega))
  · have:=bR l hl
    rw[show e+888=e+887+1 by omega,Nat.pow_succ]
    have p:2^e≤2^(e+887):=Nat.pow_le_pow_right (by decide) (by omega)
    omega
 refine⟨_,_,rfl,by omega,?_⟩
 have hix:∀ {n i:Nat},i<n→kb n (i:Int)=some i:=fun{n i} h=>by
  unfold kb
  simp only[Int.natCast_nonneg,Int.toNat_natCast]
  simp[h]
 refine iu e0 (hix (by simpa using hl)) ?_
 have hlt:=(List.getElem?_eq_some_iff.mp e0).1
 refine di rfl (i0 (iq (iq ?_)))
 rw[List.length_map,lF]
 refine F2 ⟨by omega,by omega,by decide,by decide⟩ ?_
 rw[show((m:Int)-1- -1).toNat=m by omega]
 have p0:Mx.Pb (Mx.iW w l b) (e+888):=by
  have:=(Mx.Pb.rep w).set (k:=l) (Mx.Sz.of (t:=1) (by omega) (show(1:Int).natAbs≤2^(e+888)from Nat.pow_pos (by decide)) bb)
  rwa [Nat.zero_add]at this
 refine fE (fun rest σ st'=>∃(i t:Nat) (v4 v5 v6:Option D),i≤m∧rest=(gK ((m:Int)-1) m).drop i∧σ=[some (dW F),some (bz R),some (.int l),some (.ref st.length),v4,v5,v6]∧Ext st st'∧st'[st.length]?=some (.lst ((Mx.lH F m w l (Mx.iW w l b) i).map fH))∧Mx.Pb (Mx.lH F m w l (Mx.iW w l b) i) t∧t+8000≤2^i*(e+8888)) ?_ ?_ _ _ _ ⟨0,e+888,none,none,none,Nat.zero_le _,rfl,rfl,X0.set (Nat.le_refl _),by rw[List.getElem?_set_self hlt,←List.map_set];rfl,p0,by omega⟩
 · rintro σ st' ⟨i,t,v4,v5,v6,hi,hrest,rfl,X,ep,hP,ht⟩
   have e1:i=m:=by
    have:=congrArg List.length hrest
    rw[List.length_drop,lG,List.length_nil]at this
    omega
   subst e1
   have h2i:2^i≤256:=Nat.le_trans (Nat.pow_le_pow_right (by decide) m8) (by decide)
   have:=Nat.mul_le_mul h2i (show e+8888≤18888 by omega)
   exact⟨trivial,dw (aH ep) (k st' b X hb (hP.mono (by omega)))⟩
 · rintro x rest σ st' ⟨i,t,v4,v5,v6,hi,hrest,rfl,X,ep,hP,ht⟩ next
   obtain⟨him,rfl,rfl⟩:=CZ hrest
   have P:=Mx.mY.all b hW.st hl (i:=i) hi
   have hstep:Mx.lH F m w l (Mx.iW w l b) (i+1)=Mx.C3 F w l (Mx.lH F m w l (Mx.iW w l b) i) (m-1-i):=rfl
   generalize Mx.lH F m w l (Mx.iW w l b) i=ps at P hP ep hstep
   generalize hj:m-1-i=j at hstep
   have hjm:j<m:=by omega
   obtain⟨l1,l2,wF,eld⟩:=hW.lead hjm
   have lp:=P.len
   have hat:dM (F.map bz) (j:Int)=some (bz (F.getD j [])):=zT (by omega)
   refine⟨trivial,_,rfl,az rfl hat ⟨_,F.getD j [],rfl,rfl,?_⟩⟩
   rw[eld]
   have h2i:2^i≤128:=Nat.le_trans (Nat.pow_le_pow_right (by decide) (show i≤7 by omega)) (by decide)
   have ht2:=Nat.mul_le_mul h2i (show e+8888≤18888 by omega)
   have e2:2^(i+1)*(e+8888)=2^i*(e+8888)+2^i*(e+8888):=by rw[Nat.pow_succ,Nat.mul_two,Nat.add_mul]
   unfold Mx.C3 at hstep
   refine Kh (fun hlp=>eB ?_) fun hlp=>?_
   · rw[if_pos (by omega)]at hstep
     have hpl:ps.length*(887+1)≤8*888:=Nat.mul_le_mul (by omega) (by decide)
     refine⟨_,rfl,az rfl hat ⟨_,_,_,ps,F.getD j [],t,887,rfl,aH ep,qr.of,rfl,hP,hW.row hjm,by omega,?_⟩⟩
     have sd:=Mx.Pb.iV (r:=F.getD j []) (x:=0) (s:=0) ⟨by decide,by decide⟩ hP (hW.row hjm)
     rw[Ko lp wF]at sd⊢
     refine⟨_,_,0,_,0,_,rfl,Fq.of ⟨by decide,by decide⟩,Fq.of sd,by omega,?_⟩
     have hnum:(((Mx.g F j (Mx.cX F j):Int)):Rat).num≠0:=by
      show Mx.g F j (Mx.cX F j)≠0
      omega
     have sg:=Mx.Sz.int (hW.sm j _ hjm l1)
     refine az rfl hat (az rfl (gY (by omega)) ⟨_,rfl,_,_,_,_,_,_,rfl,Fq.of sd.neg,Fq.of sg,by omega,hnum,?_⟩)
     refine iu ep (hix (by rw[List.length_map];omega)) ?_
     have hlt2:=(List.getElem?_eq_some_iff.mp ep).1
     refine next _ _ ⟨i+1,t+(0+t+ps.length*(887+1)+887),_,_,_,him,rfl,rfl,X.set (Nat.le_refl _),?_,?_,?_⟩
     · rw[List.getElem?_set_self hlt2,←List.map_set,hstep]
       rfl
     · rw[hstep]
       exact hP.set (sd.neg.div sg hnum)
     · omega
   · rw[if_neg (by omega)]at hstep
     refine next _ _ ⟨i+1,t,_,_,_,him,rfl,rfl,X,?_,?_,?_⟩
     · rw[hstep];exact ep
     · rw[hstep];exact hP
     · omega
structure E7(F U:List (List Int))(m N w:Nat)(r:List Int)(x:D):Prop where
 st:Mx.fj F m w (Mx.cX F)
 or:(j7 (Mx.eh F r m)=none∧x= .tup [.str "told",bz (Mx.fA (Mx.pN F r m) (U.take m) (List.replicate N 0))])∨∃l b,j7 (Mx.eh F r m)=some l∧Mx.sr F m l ((Mx.eh F r m).getD l 0) b∧x= .tup [.str "none",.tup ((Mx.lH F m w l (Mx.iW w l b) m).map fH)]
structure Fp(A:List (List Int))(N w:Nat)(r:List Int)(x:D):Prop where
 ex:∃top c,Mx.mT A N w top c∧E7 (c.A.take top) c.U top N w r x
theorem E7.unique{F U:List (List Int)}{m N w:Nat}{r:List Int}{x y:D}(h:E7 F U m N w r x)(h':E7 F U m N w r y):x=y:=by
 rcases h.or with⟨e,rfl⟩|⟨l,b,e,hb,rfl⟩
 · rcases h'.or with⟨e',rfl⟩|⟨l',b',e',hb',rfl⟩
   · rfl
   · rw[e]at e';cases e'
 · rcases h'.or with⟨e',rfl⟩|⟨l',b',e',hb',rfl⟩
   · rw[e]at e';cases e'
   · rw[e]at e'
     cases e'
     rw[hb.unique h.st hb']
theorem Fp.unique{A:List (List Int)}{N w:Nat}{r:List Int}{x y:D}(h:Fp A N w r x)(h':Fp A N w r y):x=y:=by
 obtain⟨t,c,hC,hV⟩:=h.ex
 obtain⟨t',c',hC',hV'⟩:=h'.ex
 obtain⟨rfl,rfl⟩:=hC.unique hC'
 exact hV.unique hV'
noncomputable def yI(A:List (List Int))(N w:Nat)(r:List Int)(x:D):Prop:=
 (∃W:List Int,x= .tup [.str "told",bz W]∧W.length=N∧∀c,c<w→(Mx.S N fun n=>W.getD n 0*Mx.g A n c)=r.getD c 0)∨
 (∃ps:List Rat,x= .tup [.str "none",.tup (ps.map fH)]∧ps.length=w∧Mx.Pb ps 10000000∧(∀n,n<N→Mx.Wh (Mx.dq ps w (Mx.g A n)))∧¬Mx.Wh (Mx.dq ps w fun c=>r.getD c 0))
structure Fl(A:List (List Int))(N w:Nat)(r:List Int):Prop where
 is:Mx.dJ N w A
 n1:1≤N
 n8:N≤8
 w8:w≤8
 bA:∀r∈A,∀x∈r,x.natAbs≤2^48
 lr:r.length=w
 br:∀x∈r,x.natAbs≤2^64
noncomputable def o_:cD:=fun ds st K=>∃(d dr:D) (A:List (List Int)) (r:List Int) (N w:Nat) (f:Bool),ds=[d,dr]∧je st d A∧items? st dr=some (aA r)∧Fl A N w r∧st[0]?=some (fT f)∧∀st' x,Bk st st'→Fp A N w r x→yI A N w r x→K x st'
noncomputable def pd:List Str:=["rows","row","told","form","fallen"]
noncomputable def Eg:DS:=(aF (a8 2 (aM o3 (af (ae 0) ak)))
 (aF (a8 3 (au aT (ae 2) (dC (.int 0))))
 (aF (a8 4 (aM ql (af (ae 3) (af (ae 1) ak))))
 (aF (dz (a5 (au um (aM iy (af (au aT (ae 4) (dC (.int 1))) ak)) (dC .aG))) (bD (gg (af (dC (.str "none")) (af (aM jP (af (ae 3) (af (au aT (ae 4) (dC (.int 1))) ak))) ak)))) cN)
 (bD (gg (af (dC (.str "told")) (af (aM sS (af (au aT (ae 4) (dC (.int 0))) (af (ni (au aT (ae 2) (dC (.int 1))) kE (o4 (bw eR (af (ae 3) ak)))) (af (bw eR (af (ae 0) ak)) ak)))) ak))))))))
theorem Bk.ext{st st1 st2:ag}(B:Bk st st1)(X:Ext st1 st2):Bk st st2:=by
 have l1:=B.le
 obtain⟨f,e⟩:=B.tb
 have l0:=(List.getElem?_eq_some_iff.mp e).1
 exact⟨by have:=X.len;omega,fun m hm h0=>by rw[X.same m (by omega),B.fr m hm h0],f,by rw[X.same 0 l0];exact e⟩
theorem Jx:8*((9*2^48)^9*(9*2^48)^8)≤2^887:=by decide+kernel
theorem oP{A:List (List Int)}{t i c:Nat}(h:i<t):Mx.g (A.take t) i c=Mx.g A i c:=by
 have e:(A.take t).getD i []=A.getD i []:=by rw[List.getD_eq_getElem?_getD,List.getD_eq_getElem?_getD,List.getElem?_take,if_pos h]
 unfold Mx.g
 rw[e]
theorem Ie{A:List (List Int)}{N w top e u:Nat}{c:Mx.B3}{ld:Nat→Nat}(H:Mx.jw A N w c top w ld e u)(hA:Mx.dJ N w A)(n8:N≤8)(w8:w≤8)(bA:∀r∈A,∀x∈r,x.natAbs≤2^48):Wf (c.A.take top) top w:=by
 have le:=H.le
 have lA:=H.tn.isA.len
 have s:Mx.fj (c.A.take top) top w ld:=⟨fun i hi=>by
  obtain⟨h1,h2,h3⟩:=H.lead i hi
  exact⟨h1,by rw[oP hi];exact h2,fun c hc=>by rw[oP hi];exact h3 c hc⟩,H.mono⟩
 have sm:=(H.small n8 (b:=2^48) (Nat.pow_pos (by decide)) fun i c hi hc=>by
  have lN:=hA.len
  have hr:=hA.row hi
  unfold Mx.g
  refine bA _ (by rw[Mx.bG (by omega)];exact List.getElem_mem _) _ (getD_mem (by omega))).2
 exact⟨⟨by rw[List.length_take];omega,fun r hr=>H.tn.isA.pR r (List.mem_of_mem_take hr)⟩,s.Ny,by omega,w8,fun k q hk hq=>by rw[oP hk];exact Nat.le_trans (sm k q hk hq) Jx⟩
theorem HJ{A:List (List Int)}{N w:Nat}(hA:Mx.dJ N w A)(bA:∀r∈A,∀x∈r,x.natAbs≤2^48):Mx.i_ A N 0 (2^48):=fun i c _ hi=>by
 have lA:=hA.len
 unfold Mx.g
 by_cases hc:c<(A.getD i []).length
 · exact bA _ (by rw[Mx.bG (by omega)];exact List.getElem_mem _) _ (getD_mem hc)
 · rw[Mx.mv (by omega)];exact Nat.zero_le _
theorem B9:∀ds st K,o_ ds st K→ds.length=2∧Eg {nx:=fun _ st'=>K .aG st',rt:=K} (a7 pd ds) st:=by
 rintro ds st K ⟨d,dr,A,r,N,w,f,rfl,hd,hr,⟨hA,n1,n8,w8,bA,lr,br⟩,h0,k⟩
 refine⟨rfl,d,N,w,48,A,f,rfl,hd,hA,n1,n8,by omega,HJ hA bA,fun t ht=>Mx.HE N (by omega) t (by omega),h0,fun st1 top c ld hC H B=>?_⟩
 have hW:=Ie H hA n8 w8 bA
 have lF:=hW.is.len
 have hgF:∀i q,i<top→Mx.g (c.A.take top) i q=Mx.g c.A i q:=fun i q hi=>oP hi
 generalize hF:c.A.take top=F at hW lF hgF
 have br':∀c,c<w→(r.getD c 0).natAbs≤2^64:=fun c hc=>br _ (getD_mem (by omega))
 refine az rfl rfl ?_
 refine⟨dr,F,r,top,w,64,rfl,hW,nM h0 B.fr hr,lr,br',by decide,fun st2 X=>?_⟩
 have B2:=B.ext X
 have lR:=Mx.oU hW.is lr (Nat.le_refl top)
 have fal:=Mx.zN hW.is lr hW.st (Nat.le_refl top)
 have sm:=Mx.zh hW.is lr (Nat.le_refl top)
 have ab:=Mx.qZ hW.is lr hW.st hW.sm br' (Nat.le_refl top)
 have t8:=hW.m8
 refine az rfl rfl ⟨_,Mx.eh F r top,rfl,rfl,?_⟩
 cases el:j7 (Mx.eh F r top)with
 |some l=>
  have eD:iP (Mx.eh F r top)= .int (l:Int):=by unfold iP;rw[el]
  rw[eD]
  obtain⟨hl,hne,hz⟩:=si el
  rw[lR]at hl
  refine CF rfl (eB (az rfl rfl ⟨F,Mx.eh F r top,top,w,64+top*(887+1),l,rfl,hW,lR,el,ab,by omega,fun st3 b X3 hb hP=>⟨Nat.le_of_ble_eq_true rfl,?_⟩⟩))
  have P:=Mx.mY.all b hW.st hl (Nat.le_refl top)
  have wF:∀i,i<top→Mx.Wh (Mx.dq (Mx.lH F top w l (Mx.iW w l b) top) w (Mx.g F i)):=fun i hi=>P.whole hW.st hl hb hne hi
  refine k st3 _ (B2.ext X3) ⟨top,c,hC,by rw[hF];exact⟨hW.st,.inr ⟨l,b,el,hb,rfl⟩⟩⟩ (.inr ⟨_,rfl,P.len,hP,fun n hn=>?_,fun z=>?_⟩)
  · have e1:Mx.dq (Mx.lH F top w l (Mx.iW w l b) top) w (Mx.g A n)=Mx.dq (Mx.lH F top w l (Mx.iW w l b) top) w fun q=>Mx.S top fun k=>Mx.g c.C k n*Mx.g F k q:=Mx.sP fun q hq=>by
     rw[H.back hn hq]
     exact Mx.aP fun k hk=>by rw[hgF k q hk]
    rw[e1,Mx.xm]
    exact Mx.Ao fun i hi=>(wF i hi).mul _
  · have e1:Mx.dq (Mx.lH F top w l (Mx.iW w l b) top) w (fun q=>r.getD q 0)=Mx.dq (Mx.lH F top w l (Mx.iW w l b) top) w (fun q=>(Mx.eh F r top).getD q 0)+Mx.dq (Mx.lH F top w l (Mx.iW w l b) top) w (fun q=>Mx.S top fun j=>Mx.qW F (Mx.eh F r j) j*Mx.g F j q):=by
     rw[←Mx.HX]
     exact Mx.sP fun q _=>sm q
    have w2:Mx.Wh (Mx.dq (Mx.lH F top w l (Mx.iW w l b) top) w (fun q=>Mx.S top fun j=>Mx.qW F (Mx.eh F r j) j*Mx.g F j q)):=by
     rw[Mx.xm]
     exact Mx.Ao fun i hi=>(wF i hi).mul _
    refine P.not hW.st hl hb hne hz (fun i hi=>fal.red i hi) ?_
    have:=z.add w2.neg
    rw[e1]at this
    have e2:∀a b:Rat,a+b+ -b=a:=by grind
    rwa [e2]at this
 |none=>
  have eD:iP (Mx.eh F r top)= .aG:=by unfold iP;rw[el]
  rw[eD]
  refine CF rfl ?_
  have lU:=H.tn.eH.len
  have le:=H.le
  refine az rfl rfl (az rfl rfl (di rfl (Bf ?_)))
  rw[List.length_map,lF,yJ,←List.map_take]
  obtain⟨da,hda,ra⟩:=hd
  refine di (X.items (nM h0 B.fr hda)) ?_
  have lda:da.length=N:=by rw[ra.len];exact hA.len
  rw[lda]
  have lw:(Mx.pN F r top).length=top:=by unfold Mx.pN;simp
  have wat:∀j,j<top→(Mx.pN F r top).getD j 0=Mx.qW F (Mx.eh F r j) j:=fun j hj=>by
   unfold Mx.pN
   rw[Mx.bG (by simpa using hj),List.getElem_map,List.getElem_range]
  refine⟨_,_,N,Mx.pN F r top,c.U.take top,rfl,rfl,zR,fun q hq=>H.tn.eH.pR q (List.mem_of_mem_take hq),by omega,fun x hx q hq y hy=>?_,⟨Nat.le_of_ble_eq_true rfl,k st2 _ B2 ⟨top,c,hC,by rw[hF];exact⟨hW.st,.inl ⟨el,rfl⟩⟩⟩ (.inl ⟨_,rfl,Mx.vO (by simp) fun q hq=>H.tn.eH.pR q (List.mem_of_mem_take hq),fun q hq=>?_⟩)⟩⟩
  · obtain⟨j,hj,rfl⟩:=List.mem_iff_getElem.mp hx
    rw[lw]at hj
    have bj:(Mx.pN F r top)[j].natAbs≤2^(64+j*(887+1)):=by
     have e1:=wat j hj
     rw[Mx.bG (by omega)]at e1
     rw[e1]
     obtain⟨l1,l2,_⟩:=hW.lead hj
     exact Nat.le_trans (Mx.kl _ l2) (Mx.qZ hW.is lr hW.st hW.sm br' (Nat.le_of_lt hj) _ l1)
    obtain⟨i,hi,rfl⟩:=List.mem_iff_getElem.mp hq
    have hiU:i<c.U.length:=by rw[List.length_take]at hi;omega
    have him:i<top:=by rw[List.length_take]at hi;omega
    rw[List.getElem_take]at hy
    obtain⟨p,hp,rfl⟩:=List.mem_iff_getElem.mp hy
    have hU:=(H.hi i p him).2.1
    have eU:Mx.g c.U i p=c.U[i][p]:=by
     unfold Mx.g
     rw[Mx.bG hiU,Mx.bG hp]
    rw[eU]at hU
    have sz:=Mx.HE N (by omega) top (by omega)
    exact c7 bj hU (by omega)
  · refine Mx.Dl H lw (fun q hq=>?_) hq
    rw[sm q,uA _ 0 el q,Int.zero_add]
    exact Mx.aP fun j hj=>by rw[wat j hj,hgF j q hj]
structure Hd(st:ag)(n:Nat)(b:Int):Prop where
 ex:∃(cs:List Int) (p q c:Int),st[n]?=some (.lst [.lst (aA cs),.int p,.int q,.int c])∧(∀x∈cs,0≤x)∧cs.length≤63∧0≤p∧0≤q∧0≤c∧c≤b
structure Upd(st:ag)(n:Nat)(st':ag):Prop where
 len:st'.length=st.length
 same:∀m,m≠n→st'[m]?=st[m]?
theorem Upd.refl{st:ag}{n:Nat}:Upd st n st:=⟨rfl,fun _ _=>rfl⟩
theorem Upd.trans{st st1 st2:ag}{n:Nat}(a:Upd st n st1)(b:Upd st1 n st2):Upd st n st2:=⟨b.len.trans a.len,fun m h=>(b.same m h).trans (a.same m h)⟩
theorem Upd.set{st:ag}{n:Nat}{c:Cell}:Upd st n (st.set n c):=⟨List.length_set,fun m h=>List.getElem?_set_ne (Ne.symm h)⟩
theorem Hd.mono{st:ag}{n:Nat}{b b':Int}(h:Hd st n b)(l:b≤b'):Hd st n b':=let⟨cs,p,q,c,e,h1,h2,h3,h4,h5,h6⟩:=h.ex;⟨cs,p,q,c,e,h1,h2,h3,h4,h5,by omega⟩
theorem rl{st:ag}{n:Nat}{xs ys:List D}{i:Int}{j:Nat}{d:D}{K:ag→Prop}(h:st[n]?=some (.lst xs))(e:kb xs.length i=some j)(ey:xs.set j d=ys)(k:∀st',st'[n]?=some (.lst ys)→Upd st n st'→K st'):xp (.ref n) (.int i) d st K:=iu h e (by
 rw[ey]
 exact k _ (List.getElem?_set_self (List.getElem?_eq_some_iff.mp h).1) Upd.set)
theorem Hn{k:Nat}{te:DE}{B:DS}{E:l9}{σ:cj}{st:ag}(h:te σ st fun d st1=>B E (σ.set k (some d)) st1):aF (a8 k te) B E σ st:=h
noncomputable def oW:cD:=fun ds st K=>∃ns:List Int,ds=[.lst (ns.map .int)]∧ns.length≤63∧∀st',Hd st' st.length 0→Ext st st'→K (.ref st.length) st'
noncomputable def l_:List Str:=["_law_script"]
noncomputable def Ax:DS:=(bD (uY (af (c5 (dA (ni (ae 0) kE (o4 (dC (.int 63))))) [none] (bL 0) cq (bw mW (af (ae 0) ak))) (af (dC (.int 0)) (af (dC (.int 0)) (af (dC (.int 0)) ak))))))
theorem Ec(r:List Int):(aA r).map (fun d=>match d with| .int x=> .int ((x.natAbs:Nat):Int)|_=> .aG)=aA (r.map fun x=>((x.natAbs:Nat):Int)):=by unfold aA;rw[List.map_map,List.map_map];rfl
theorem yT:∀ds st K,oW ds st K→ds.length=1∧Ax {nx:=fun _ st'=>K .aG st',rt:=K} (a7 l_ ds) st:=by
 rintro ds st K ⟨ns,rfl,hl,k⟩
 refine⟨rfl,?_⟩
 refine qM (mF ⟨?_,?_⟩)
 · refine b_ ?_
   unfold L3.cutD
   simp only[List.length_take,List.length_drop,List.length_map]
   omega
 refine comp_map (g:=fun d=>match d with| .int x=> .int ((x.natAbs:Nat):Int)|_=> .aG) trivial _ (fun d hd K' q=>?_) ?_
 · have:d∈ns.map D.int:=List.mem_of_mem_drop (List.mem_of_mem_take hd)
   obtain⟨i,_,rfl⟩:=List.mem_map.mp this
   exact⟨_,rfl,mM q⟩
 · have ec:∀lo hi,L3.cutD (ns.map D.int) lo hi=aA ((ns.drop (HT.bK (ns.map D.int).length 0 lo)).take (HT.bK (ns.map D.int).length (ns.map D.int).length hi-HT.bK (ns.map D.int).length 0 lo)):=fun lo hi=>by
    unfold L3.cutD aA
    rw[List.map_take,List.map_drop]
   rw[ec,Ec]
   refine⟨Nat.le_of_ble_eq_true rfl,?_⟩
   refine k _ ⟨_,0,0,0,by rw[List.getElem?_append_right (Nat.le_refl _),Nat.sub_self];rfl,fun x hx=>?_,?_,Int.le_refl _,Int.le_refl _,Int.le_refl _,Int.le_refl _⟩ Ext.push
   · obtain⟨y,_,rfl⟩:=List.mem_map.mp hx
     omega
   · simp only[List.length_map,List.length_take,List.length_drop]
     omega
noncomputable def cy:cD:=fun ds st K=>∃(n:Nat) (m b:Int),ds=[.ref n,.int m]∧Hd st n b∧b≤1000000000∧0<m∧m<2^62∧∀r st',0≤r→r<m→Hd st' n (b+1)→Upd st n st'→K (.int r) st'
noncomputable def l7:List Str:=["_law_hand_here","_law_many","_law_cell","_law_once","_law_twice","_law_found"]
noncomputable def AN:DS:=(aF (eS (ae 0) (dC (.int 3)) (au dy (au aT (ae 0) (dC (.int 3))) (dC (.int 1))))
 (aF (dz (a5 (au iw (au aT (ae 0) (dC (.int 2))) (dC (.int 0)))) (aF (a8 2 (dC (.int 0)))
 (aF (dz (a5 (au kc (bw eR (af (au aT (ae 0) (dC (.int 0))) ak)) (dC (.int 0)))) (a8 2 (au aT (au aT (ae 0) (dC (.int 0))) (au fC (au aT (ae 0) (dC (.int 1))) (bw eR (af (au aT (ae 0) (dC (.int 0))) ak))))) cN)
 (aF (eS (ae 0) (dC (.int 1)) (au dy (au aT (ae 0) (dC (.int 1))) (dC (.int 1))))
 (aF (dz (jY (a5 (au pV (ae 2) (au qx (dC (.int 10)) (dC (.int 18))))) (a5 (au kc (au aT (ae 0) (dC (.int 1))) (bw eR (af (au aT (ae 0) (dC (.int 0))) ak))))) (aF (a8 3 (au dy (au dy (au fC (ae 2) (dC (.int 2147483629))) (au cK (dC (.int 7919)) (au aT (ae 0) (dC (.int 3))))) (dC (.int 11))))
 (aF (a8 3 (au fC (au cK (ae 3) (au dy (dC (.int 48271)) (au cK (dC (.int 2)) (au aT (ae 0) (dC (.int 3)))))) (dC (.int 2147483647))))
 (aF (a8 4 (au fC (au dy (au cK (ae 3) (au dy (au fC (ae 3) (dC (.int 39373))) (au aT (ae 0) (dC (.int 3))))) (au cK (dC (.int 31)) (au aT (ae 0) (dC (.int 3))))) (dC (.int 1999999973))))
 (bD (au fC (au ma (ae 4) (dC (.int 7))) (ae 1)))))) cN)
 (eS (ae 0) (dC (.int 2)) (ae 2)))))) cN)
 (aF (a8 5 (au fC (au aT (ae 0) (dC (.int 2))) (ae 1)))
 (aF (eS (ae 0) (dC (.int 2)) (au ma (au aT (ae 0) (dC (.int 2))) (ae 1)))
 (bD (ae 5))))))
theorem Dc{m:Int}(h0:0<m)(h:m<2^62):m.natAbs.log2<9000:=by
 have:m.natAbs.log2<62:=(Nat.log2_lt (by omega)).mpr (by omega)
 omega
theorem yU:∀ds st K,cy ds st K→ds.length=2∧AN {nx:=fun _ st'=>K .aG st',rt:=K} (a7 l7 ds) st:=by
 rintro ds st K ⟨n,m,b,rfl,⟨cs,p,q,c,e,hcs,hcl,hp,hq,hc,hb⟩,hb2,hm0,hm1,k⟩
 refine⟨rfl,?_⟩
 refine az (aH e) (by rfl) (dQ (rl (ys:=[.lst (aA cs),.int p,.int q,.int (c+1)]) e (by rfl) (by rfl) fun st1 e1 U1=>?_))
 have c1: -(2^64)<c+1:=by omega
 have c2:c+1<2^64:=by omega
 dsimp only
 refine fD (fun σ' st'=>∃(v2 v3 v4:Option D) (p q:Int),σ'=[some (.ref n),some (.int m),v2,v3,v4,none]∧st'[n]?=some (.lst [.lst (aA cs),.int p,.int q,.int (c+1)])∧0≤p∧0≤q∧Upd st n st') (fun nx hnx=>?_) ?_
 · refine az (aH e1) (by rfl) (eq2 (fun h=>eB ?_) fun h=>hnx _ _ ⟨_,_,_,p,q,rfl,e1,hp,hq,U1⟩)
   refine Hn ?_
   dsimp only[dC]
   refine fD (fun σ' st'=>∃x:Int,0≤x∧σ'=[some (.ref n),some (.int m),some (.int x),none,none,none]∧st'=st1) (fun nx2 hnx2=>?_) ?_
   · refine az (aH e1) (by rfl) (di rfl (nA ?_))
     rw[List.length_map]
     by_cases hl:(0:Int)<(cs.length:Int)
     · rw[decide_eq_true hl]
       refine eB (az (aH e1) (by rfl) (az (aH e1) (by rfl) (az (aH e1) (by rfl) (di rfl (gn (by rw[List.length_map];omega) ?_)))))
       rw[List.length_map]
       have m1:=Int.fmod_nonneg_of_pos p hl
       have m2:=Int.fmod_lt_of_pos p hl
       obtain⟨j,ej⟩:=Int.eq_ofNat_of_zero_le m1
       rw[ej]at m2⊢
       have hj:j<cs.length:=by omega
       exact az rfl (gY hj) (hnx2 _ _ ⟨_,hcs _ (getD_mem hj),rfl,rfl⟩)
     · rw[decide_eq_false hl]
       exact hnx2 _ _ ⟨0,Int.le_refl _,rfl,rfl⟩
   · rintro σ' st' ⟨x,hx,rfl,rfl⟩
     refine az (aH e1) (by rfl) (dQ (rl (ys:=[.lst (aA cs),.int (p+1),.int q,.int (c+1)]) e1 (by rfl) (by rfl) fun st2 e2 U2=>?_))
     have mixed:(aF (a8 3 (au dy (au dy (au fC (ae 2) (dC (.int 2147483629))) (au cK (dC (.int 7919)) (au aT (ae 0) (dC (.int 3))))) (dC (.int 11))))
      (aF (a8 3 (au fC (au cK (ae 3) (au dy (dC (.int 48271)) (au cK (dC (.int 2)) (au aT (ae 0) (dC (.int 3)))))) (dC (.int 2147483647))))
      (aF (a8 4 (au fC (au dy (au cK (ae 3) (au dy (au fC (ae 3) (dC (.int 39373))) (au aT (ae 0) (dC (.int 3))))) (au cK (dC (.int 31)) (au aT (ae 0) (dC (.int 3))))) (dC (.int 1999999973))))
      (bD (au fC (au ma (ae 4) (dC (.int 7))) (ae 1)))))) {nx:=nx,rt:=K} [some (.ref n),some (.int m),some (.int x),none,none,none] st2:=by
      refine gn (by decide) (az (aH e2) (by rfl) (cA (gW (by decide) (by decide)) (dQ (dQ ?_))))
      have m1:=Int.fmod_nonneg_of_pos x (show(0:Int)<2147483629 by decide)
      have m2:=Int.fmod_lt_of_pos x (show(0:Int)<2147483629 by decide)
      refine az (aH e2) (by rfl) (cA (gW (by decide) (by decide)) (dQ (cA (gW (by omega) (by omega)) (gn (by decide) ?_))))
      have u1:=Int.fmod_nonneg_of_pos ((x.fmod 2147483629+7919*(c+1)+11)*(48271+2*(c+1))) (show(0:Int)<2147483647 by decide)
      have u2:=Int.fmod_lt_of_pos ((x.fmod 2147483629+7919*(c+1)+11)*(48271+2*(c+1))) (show(0:Int)<2147483647 by decide)
      generalize((x.fmod 2147483629+7919*(c+1)+11)*(48271+2*(c+1))).fmod 2147483647=u at u1 u2⊢
      refine gn (by decide) (az (aH e2) (by rfl) (dQ (cA (gW (by omega) (by omega)) (az (aH e2) (by rfl) (cA (gW (by decide) (by decide)) (dQ (gn (by decide) ?_)))))))
      refine rB (by decide) (by decide+kernel) (gn (by omega) ?_)
      exact k _ _ (Int.fmod_nonneg_of_pos _ hm0) (Int.fmod_lt_of_pos _ hm0) ⟨cs,_,_,_,e2,hcs,hcl,by omega,hq,by omega,by omega⟩ (U1.trans U2)
     refine ur ⟨by decide,by decide,by decide⟩ (wJ ?_)
     by_cases hs:x<10^(18:Int).toNat
     · rw[decide_eq_true hs]
       exact mixed
     · rw[decide_eq_false hs]
       refine az (aH e2) (by rfl) (az (aH e2) (by rfl) (di rfl (nA ?_)))
       rw[List.length_map]
       by_cases ho:(cs.length:Int)<p+1
       · rw[decide_eq_true ho]
         exact mixed
       · rw[decide_eq_false ho]
         refine rl (ys:=[.lst (aA cs),.int (p+1),.int x,.int (c+1)]) e2 (by rfl) (by rfl) fun st3 e3 U3=>?_
         exact hnx _ _ ⟨_,_,_,p+1,x,rfl,e3,by omega,hx,(U1.trans U2).trans U3⟩
 · rintro σ' st' ⟨v2,v3,v4,p,q,rfl,e3,hp,hq,U3⟩
   refine az (aH e3) (by rfl) (gn (by omega) (az (aH e3) (by rfl) (rB (by omega) (Dc hm0 hm1) (rl (ys:=[.lst (aA cs),.int p,.int (q.fdiv m),.int (c+1)]) e3 (by rfl) (by rfl) fun st4 e4 U4=>?_))))
   refine k _ _ (Int.fmod_nonneg_of_pos _ hm0) (Int.fmod_lt_of_pos _ hm0) ⟨cs,_,_,_,e4,hcs,hcl,hp,?_,by omega,by omega⟩ (U3.trans U4)
   rw[Int.fdiv_eq_ediv_of_nonneg _ (by omega)];exact Int.ediv_nonneg hq (by omega)
noncomputable def jR:cD:=fun ds st K=>∃(n:Nat) (b kd:Int),ds=[.ref n,.int kd]∧Hd st n b∧b≤900000000∧∀r st',r.natAbs≤1000000000000→Hd st' n (b+3)→Upd st n st'→K (.int r) st'
noncomputable def jT:List Str:=["_law_hand_here","_law_kind","_law_far"]
noncomputable def xX:DS:=(aF (dz (a5 (au iw (ae 1) (dC (.int 7)))) (aF (a8 2 (au dy (au cK (aM cy (af (ae 0) (af (au qx (dC (.int 10)) (dC (.int 6))) ak))) (au qx (dC (.int 10)) (dC (.int 6)))) (aM cy (af (ae 0) (af (au qx (dC (.int 10)) (dC (.int 6))) ak)))))
 (bD (au cK (ae 2) (au aT (nc (af (dC (.int 1)) (af (nz iZ (dC (.int 1))) (af (dC (.int 0)) ak)))) (aM cy (af (ae 0) (af (dC (.int 3)) ak))))))) cN)
 (bD (au aT (nc (af (dC (.int 0)) (af (dC (.int 1)) (af (nz iZ (dC (.int 1))) (af (au j_ (aM cy (af (ae 0) (af (dC (.int 19)) ak))) (dC (.int 9))) ak))))) (aM cy (af (ae 0) (af (dC (.int 4)) ak))))))
theorem Dr:(10:Int)^(6:Int).toNat=1000000:=by decide
theorem wb:∀ds st K,jR ds st K→ds.length=2∧xX {nx:=fun _ st'=>K .aG st',rt:=K} (a7 jT ds) st:=by
 rintro ds st K ⟨n,b,kd,rfl,B,hb,k⟩
 refine⟨rfl,?_⟩
 refine eq2 (fun h=>eB ?_) fun h=>?_
 · refine ur ⟨by decide,by decide,by decide⟩ ?_
   rw[Dr]
   refine⟨n,1000000,b,rfl,B,by omega,by decide,by decide,fun r1 st1 a1 a2 B1 U1=>?_⟩
   refine ur ⟨by decide,by decide,by decide⟩ ?_
   rw[Dr]
   refine cA (oA (by decide) (by decide)) (ur ⟨by decide,by decide,by decide⟩ ?_)
   rw[Dr]
   refine⟨n,1000000,b+1,rfl,B1,by omega,by decide,by decide,fun r2 st2 c1 c2 B2 U2=>dQ ?_⟩
   refine iq ⟨Nat.le_of_ble_eq_true rfl,?_⟩
   refine⟨n,3,b+1+1,rfl,B2,by omega,by decide,by decide,fun r3 st3 d1 d2 B3 U3=>?_⟩
   have U:=(U1.trans U2).trans U3
   have B4:=B3.mono (b':=b+3) (by omega)
   have:r3=0∨r3=1∨r3=2:=by omega
   rcases this with rfl|rfl|rfl
   · exact az rfl rfl (cA (oA (by decide) (by decide)) (k _ _ (by omega) B4 U))
   · exact az rfl rfl (cA (oA (by decide) (by decide)) (k _ _ (by omega) B4 U))
   · exact az rfl rfl (cA (oA (by decide) (by decide)) (k _ _ (by omega) B4 U))
 · refine iq ⟨n,19,b,rfl,B,by omega,by decide,by decide,fun r1 st1 a1 a2 B1 U1=>i0 ⟨Nat.le_of_ble_eq_true rfl,?_⟩⟩
   refine⟨n,4,b+1,rfl,B1,by omega,by decide,by decide,fun r2 st2 c1 c2 B2 U2=>?_⟩
   have U:=U1.trans U2
   have B4:=B2.mono (b':=b+3) (by omega)
   have:r2=0∨r2=1∨r2=2∨r2=3:=by omega
   rcases this with rfl|rfl|rfl|rfl
   · exact az rfl rfl (k _ _ (by decide) B4 U)
   · exact az rfl rfl (k _ _ (by decide) B4 U)
   · exact az rfl rfl (k _ _ (by decide) B4 U)
   · exact az rfl rfl (k _ _ (by omega) B4 U)
structure XU(st:ag)(n:Nat)(st':ag):Prop where
 len:st.length≤st'.length
 same:∀m,m<st.length→m≠n→st'[m]?=st[m]?
theorem XU.trans{st st1 st2:ag}{n:Nat}(a:XU st n st1)(b:XU st1 n st2):XU st n st2:=⟨Nat.le_trans a.len b.len,fun m h g=>(b.same m (Nat.lt_of_lt_of_le h a.len) g).trans (a.same m h g)⟩
theorem XU.upd{st st1:ag}{n:Nat}(a:Upd st n st1):XU st n st1:=⟨by rw[a.len];exact Nat.le_refl _,fun m _ g=>a.same m g⟩
theorem XU.ext{st st1:ag}{n:Nat}(a:Ext st st1):XU st n st1:=⟨a.len,fun m h _=>a.same m h⟩
theorem XU.set{st st1:ag}{n k:Nat}{c:Cell}(a:XU st n st1)(h:st.length≤k):XU st n (st1.set k c):=⟨by rw[List.length_set];exact a.len,fun m hm g=>by rw[List.getElem?_set_ne (by omega)];exact a.same m hm g⟩
theorem Hd.lt{st:ag}{n:Nat}{b:Int}(B:Hd st n b):n<st.length:=by
 obtain⟨_,_,_,_,e,_⟩:=B.ex
 exact(List.getElem?_eq_some_iff.mp e).1
theorem Hd.cell{st st':ag}{n:Nat}{b:Int}(B:Hd st n b)(e:st'[n]?=st[n]?):Hd st' n b:=by
 obtain⟨cs,p,q,c,e1,r⟩:=B.ex
 exact⟨cs,p,q,c,e.trans e1,r⟩
noncomputable def pD:cD:=fun ds st K=>∃(n:Nat) (b:Int) (many wide:Nat) (kd:Int),ds=[.ref n,.int many,.int wide,.int kd]∧Hd st n b∧b≤600000000∧many≤8∧wide≤8∧∀A st',Mx.dJ many wide A→(∀r∈A,∀x∈r,x.natAbs≤1000000000000*256)→Hd st' n (b+300)→XU st n st'→K (dW A) st'
noncomputable def md:List Str:=["_law_hand_here","_law_many","_law_wide","_law_kind","_law_rows_here","_law_k","_law_row","_law_way"]
noncomputable def Ai:DS:=(aF (a8 4 (uY ak))
 (aF (iA (gq (af (ae 1) ak)) (bL 5) (aF (a8 6 (c5 (gq (af (ae 2) ak)) [none,some 0,some 3] (bL 0) cq (aM jR (af (ae 1) (af (ae 2) ak)))))
 (aF (a8 7 (aM cy (af (ae 0) (af (dC (.int 8)) ak))))
 (aF (dz (a5 (au iw (ae 7) (dC (.int 0)))) (a8 6 (au cK (nc (af (dC (.int 0)) ak)) (ae 2))) cN)
 (aF (dz (nH (a5 (au iw (ae 7) (dC (.int 1)))) (a5 (au kc (ae 5) (dC (.int 0))))) (a8 6 (bw hO (af (au aT (ae 4) (au j_ (ae 5) (dC (.int 1)))) ak))) cN)
 (aF (dz (nH (a5 (au iw (ae 7) (dC (.int 2)))) (a5 (au kc (ae 5) (dC (.int 1))))) (a8 6 (c5 (pB (af (au aT (ae 4) (au j_ (ae 5) (dC (.int 1)))) (af (au aT (ae 4) (au j_ (ae 5) (dC (.int 2)))) ak))) [none,none] (fz 0 1) cq (au dy (ae 0) (ae 1)))) cN)
 (aF (dz (nH (a5 (au iw (ae 3) (dC (.int 7)))) (a5 (au pV (ae 7) (dC (.int 3))))) (a8 6 (c5 (dA (ae 6)) [none] (bL 0) cq (au fC (ae 0) (dC (.int 1000))))) cN)
 (iQ (iU (ae 4) (bw dU (af (ae 6) ak)))))))))))
 (bD (bw dU (af (ae 4) ak)))))
theorem w_{n w:Nat}{b kd:Int}{st:ag}{K:List D→ag→Prop}(B:Hd st n b)(hb:b≤700000000)(hw:w≤8)
 (k:∀r st',r.length=w→(∀x∈r,x.natAbs≤1000000000000)→Hd st' n (b+24)→Upd st n st'→K (aA r) st'):
 dk (bL 0) cq (aM jR (af (ae 1) (af (ae 2) ak))) (fun _=>True) [none,some (.ref n),some (.int kd)] (d5 0 w) [] st K:=by
 refine iz (fun rest acc st'=>∃r:List Int,acc=aA r∧r.length+rest.length=w∧(∀x∈r,x.natAbs≤1000000000000)∧Hd st' n (b+3*r.length)∧Upd st n st') ?_ ?_ _ _ _ ⟨[],rfl,by rw[gz];simp,by simp,B.mono (by simp),Upd.refl⟩
 · rintro acc st' ⟨r,rfl,hl,hr,B',U⟩
   have hl:r.length=w:=by simpa using hl
   exact⟨trivial,k r st' hl hr (B'.mono (by omega)) U⟩
 · rintro x rest acc st' ⟨r,rfl,hl,hr,B',U⟩ next
   have hl2:r.length<w:=by simp at hl;omega
   refine⟨trivial,_,rfl,?_⟩
   refine⟨n,_,kd,rfl,B',by omega,fun y st2 a1 B2 U2=>?_⟩
   show dk _ _ _ _ _ _ _ _ _
   rw[ints_app]
   refine next _ _ ⟨r++[y],rfl,by simp at hl⊢;omega,fun z hz=>?_,B2.mono (by simp;omega),U.trans U2⟩
   rcases List.mem_append.mp hz with h|h
   · exact hr z h
   · have:z=y:=by simpa using h
     subst this;exact a1
theorem tJ{A:List (List Int)}{k:Nat}(h:k<A.length):dM (A.map bz) (k:Int)=some (bz (A.getD k [])):=by
 refine kj ?_
 rw[List.getElem?_map,List.getElem?_eq_getElem h,Mx.bG h];rfl
theorem xT:∀(r s:List Int),(eA (aA r) (aA s)).map (fun d=>match d with| .tup [.int a,.int b]=> .int (a+b)|_=> .aG)=aA (List.zipWith (· + ·) r s)
 | [],_=>rfl
 |_::_,[]=>rfl
 |a::r,b::s=>by
  have:=xT r s
  unfold eA at this⊢
  simp only[aA,List.map_cons,List.zip_cons_cons,List.zipWith_cons_cons]at this⊢
  rw[this]
theorem DH(r:List Int):(aA r).map (fun d=>match d with| .int x=> .int (x.fmod 1000)|_=> .aG)=aA (r.map fun x=>x.fmod 1000):=by unfold aA;rw[List.map_map,List.map_map];rfl
theorem Lx{M:Nat}{r s:List Int}(hr:∀x∈r,x.natAbs≤M)(hs:∀x∈s,x.natAbs≤M):∀x∈List.zipWith (· + ·) r s,x.natAbs≤2*M:=fun x hx=>by
 obtain⟨k,hk,e⟩:=List.mem_iff_getElem.mp hx
 rw[List.getElem_zipWith]at e
 have h1:=hr _ (List.getElem_mem (by simp at hk;omega:k<r.length))
 have h2:=hs _ (List.getElem_mem (by simp at hk;omega:k<s.length))
 omega
theorem yW:∀ds st K,pD ds st K→ds.length=4∧Ai {nx:=fun _ st'=>K .aG st',rt:=K} (a7 md ds) st:=by
 rintro ds st K ⟨n,b,many,wide,kd,rfl,B,hb,hm,hw,k⟩
 refine⟨rfl,?_⟩
 have hn:=B.lt
 refine⟨Nat.le_of_ble_eq_true rfl,?_⟩
 refine jz ⟨by omega,by omega⟩ ?_
 rw[Int.toNat_natCast]
 refine nJ many (fun j σ st'=>∃(A:List (List Int)) (v5 v6 v7:Option D),σ=[some (.ref n),some (.int many),some (.int wide),some (.int kd),some (.ref st.length),v5,v6,v7]∧st'[st.length]?=some (.lst (A.map bz))∧A.length=j∧(∀r∈A,r.length=wide)∧(∀r∈A,∀x∈r,x.natAbs≤1000000000000*2^j)∧Hd st' n (b+25*j)∧XU st n st') ?_ ?_ ⟨[],none,none,none,rfl,by simp,rfl,by simp,by simp,(B.cell (List.getElem?_append_left hn)).mono (by simp),XU.ext Ext.push⟩
 · rintro σ st' ⟨A,v5,v6,v7,rfl,e,hl,hA,hb2,B2,X⟩
   refine dw (aH e) (k A st' ⟨hl,hA⟩ (fun r hr x hx=>?_) (B2.mono (by omega)) X)
   have p:2^many≤2^8:=Nat.pow_le_pow_right (by decide) hm
   have:=hb2 r hr x hx
   exact Nat.le_trans this (Nat.mul_le_mul_left _ p)
 · rintro j σ st' rest hj ⟨A,v5,v6,v7,rfl,e,hl,hA,hb2,B2,X⟩ next
   refine⟨_,rfl,?_⟩
   refine jz ⟨by omega,by omega⟩ ⟨b_ (by rw[gz];omega),?_⟩
   rw[Int.toNat_natCast]
   refine w_ (n:=n) (kd:=kd) B2 (by omega) hw fun r0 st1 hr0 hr1 B3 U3=>?_
   refine⟨n,8,_,rfl,B3,by omega,by decide,by decide,fun way st2 w0 w1 B4 U4=>?_⟩
   have hlen:=(List.getElem?_eq_some_iff.mp e).1
   have e2:st2[st.length]?=some (.lst (A.map bz)):=(U4.same _ (by omega)).trans ((U3.same _ (by omega)).trans e)
   have X2:XU st n st2:=X.trans ((XU.upd U3).trans (XU.upd U4))
   have p1:1000000000000≤1000000000000*2^(j+1):=Nat.le_mul_of_pos_right _ (Nat.pow_pos (by decide))
   have p2:1000000000000*2^j*2=1000000000000*2^(j+1):=by rw[Nat.pow_succ,Nat.mul_assoc]
   let J:cj→ag→Prop:=fun σ' st'=>st'=st2∧∃r:List Int,σ'=[some (.ref n),some (.int many),some (.int wide),some (.int kd),some (.ref st.length),some (.int (j:Int)),some (aY r),some (.int way)]∧r.length=wide∧∀x∈r,x.natAbs≤1000000000000*2^(j+1)
   have J0:J [some (.ref n),some (.int many),some (.int wide),some (.int kd),some (.ref st.length),some (.int (j:Int)),some (aY r0),some (.int way)] st2:=⟨rfl,r0,rfl,hr0,fun x hx=>Nat.le_trans (hr1 x hx) p1⟩
   dsimp only
   refine fD J (fun nx hnx=>?_) ?_
   · refine eq2 (fun h=>eB ?_) fun h=>hnx _ _ J0
     refine IG (Nat.le_of_ble_eq_true rfl) (uS ⟨by omega,by omega,b_ (by simp;omega)⟩ ?_)
     rw[Int.toNat_natCast,sZ]
     exact hnx _ _ ⟨rfl,_,rfl,by simp,fun x hx=>by rw[(List.mem_replicate.mp hx).2];exact Nat.zero_le _⟩
   rintro σ' st3 ⟨rfl,r,rfl,hr,hrb⟩
   refine fD J (fun nx hnx=>?_) ?_
   · refine eq2 (fun h=>eB (nA ?_)) fun h=>hnx _ _ ⟨rfl,r,rfl,hr,hrb⟩
     by_cases h0:(0:Int)<(j:Int)
     · rw[decide_eq_true h0]
       have ej:(j:Int)-1=((j-1:Nat):Int):=by omega
       refine eB (i0 ?_)
       rw[ej]
       refine az (aH e2) (tJ (by omega)) (gO rfl ?_)
       have hmem:A.getD (j-1) []∈A:=by rw[Mx.bG (by omega)];exact List.getElem_mem _
       exact hnx _ _ ⟨rfl,_,rfl,hA _ hmem,fun x hx=>Nat.le_trans (hb2 _ hmem x hx) (by omega)⟩
     · rw[decide_eq_false h0]
       exact hnx _ _ ⟨rfl,r,rfl,hr,hrb⟩
   clear hr hrb
   rintro σ' st3 ⟨rfl,r,rfl,hr,hrb⟩
   refine fD J (fun nx hnx=>?_) ?_
   · refine eq2 (fun h=>eB (nA ?_)) fun h=>hnx _ _ ⟨rfl,r,rfl,hr,hrb⟩
     by_cases h0:(1:Int)<(j:Int)
     · rw[decide_eq_true h0]
       have ej:(j:Int)-1=((j-1:Nat):Int):=by omega
       have ej2:(j:Int)-2=((j-2:Nat):Int):=by omega
       refine eB (i0 ?_)
       rw[ej]
       refine az (aH e2) (tJ (by omega)) (i0 ?_)
       rw[ej2]
       refine az (aH e2) (tJ (by omega)) ?_
       have hm1:A.getD (j-1) []∈A:=by rw[Mx.bG (by omega)];exact List.getElem_mem _
       have hm2:A.getD (j-2) []∈A:=by rw[Mx.bG (by omega)];exact List.getElem_mem _
       have l1:=hA _ hm1
       have l2:=hA _ hm2
       refine m5 rfl rfl fun ok aI=>⟨b_ (by rw[mR,List.length_map,List.length_map];omega),?_⟩
       refine comp_map (g:=fun d=>match d with| .tup [.int a,.int b]=> .int (a+b)|_=> .aG) (aI _ rfl rfl) _ (fun d hd K' q=>?_) ?_
       · obtain⟨a,c,_,_,rfl⟩:=sV hd
         exact⟨_,rfl,dQ q⟩
       rw[xT]
       refine hnx _ _ ⟨rfl,_,rfl,by rw[List.length_zipWith];omega,fun x hx=>?_⟩
       have:=Lx (hb2 _ hm1) (hb2 _ hm2) x hx
       omega
     · rw[decide_eq_false h0]
       exact hnx _ _ ⟨rfl,r,rfl,hr,hrb⟩
   clear hr hrb
   rintro σ' st3 ⟨rfl,r,rfl,hr,hrb⟩
   refine fD J (fun nx hnx=>?_) ?_
   · refine eq2 (fun h=>eB (wJ ?_)) fun h=>hnx _ _ ⟨rfl,r,rfl,hr,hrb⟩
     by_cases h0:way<3
     · rw[decide_eq_true h0]
       refine eB (mF ⟨b_ (by rw[List.length_map];omega),?_⟩)
       refine comp_map (g:=fun d=>match d with| .int x=> .int (x.fmod 1000)|_=> .aG) trivial _ (fun d hd K' q=>?_) ?_
       · obtain⟨x,_,rfl⟩:=List.mem_map.mp hd
         exact⟨_,rfl,gn (by decide) q⟩
       rw[DH]
       refine hnx _ _ ⟨rfl,_,rfl,by rw[List.length_map];exact hr,fun x hx=>?_⟩
       obtain⟨y,_,rfl⟩:=List.mem_map.mp hx
       have a1:=Int.fmod_nonneg_of_pos y (show(0:Int)<1000 by decide)
       have a2:=Int.fmod_lt_of_pos y (show(0:Int)<1000 by decide)
       omega
     · rw[decide_eq_false h0]
       exact hnx _ _ ⟨rfl,r,rfl,hr,hrb⟩
   clear hr hrb
   rintro σ' st3 ⟨rfl,r,rfl,hr,hrb⟩
   refine qO (by rfl) e2 (dw rfl (u9 e2 (by rw[sizeLine_eq,List.length_map];omega) ?_))
   have hl2:=(List.getElem?_eq_some_iff.mp e2).1
   refine next _ _ ⟨A++[r],_,_,_,rfl,by rw[List.getElem?_set_self hl2,Ey],by simp[hl],fun q hq=>?_,fun q hq x hx=>?_,(B4.cell (List.getElem?_set_ne (by omega))).mono (by omega),X2.set (Nat.le_refl _)⟩
   · rcases List.mem_append.mp hq with h|h
     · exact hA q h
     · have:q=r:=by simpa using h
       subst this;exact hr
   · rcases List.mem_append.mp hq with h|h
     · exact Nat.le_trans (hb2 q h x hx) (by omega)
     · have:q=r:=by simpa using h
       subst this;exact hrb x hx
noncomputable def nP:cD:=fun ds st K=>∃(n:Nat) (b:Int),ds=[.ref n]∧Hd st n b∧b≤900000000∧∀(x y:Nat) st',1≤x→x≤8→1≤y→y≤8→Hd st' n (b+3)→Upd st n st'→K (.tup [.int x,.int y]) st'
noncomputable def kO:List Str:=["_law_hand_here"]
noncomputable def y9:DS:=(aF (dz (a5 (au iw (aM cy (af (ae 0) (af (dC (.int 8)) ak))) (dC (.int 0)))) (bD (gg (af (au dy (dC (.int 5)) (aM cy (af (ae 0) (af (dC (.int 4)) ak)))) (af (au dy (dC (.int 5)) (aM cy (af (ae 0) (af (dC (.int 4)) ak)))) ak)))) cN)
 (bD (gg (af (au dy (dC (.int 1)) (aM cy (af (ae 0) (af (dC (.int 4)) ak)))) (af (au dy (dC (.int 1)) (aM cy (af (ae 0) (af (dC (.int 4)) ak)))) ak)))))
theorem xa:∀ds st K,nP ds st K→ds.length=1∧y9 {nx:=fun _ st'=>K .aG st',rt:=K} (a7 kO ds) st:=by
 rintro ds st K ⟨n,b,rfl,B,hb,k⟩
 refine⟨rfl,?_⟩
 have fin:∀(x y:Int) st',1≤x→x≤8→1≤y→y≤8→Hd st' n (b+3)→Upd st n st'→K (.tup [.int x,.int y]) st':=fun x y st' h1 h2 h3 h4 H U=>by
  obtain⟨x,rfl⟩:=Int.eq_ofNat_of_zero_le (show 0≤x by omega)
  obtain⟨y,rfl⟩:=Int.eq_ofNat_of_zero_le (show 0≤y by omega)
  exact k x y st' (by omega) (by omega) (by omega) (by omega) H U
 refine⟨n,8,b,rfl,B,by omega,by decide,by decide,fun r0 st0 z1 z2 B0 U0=>?_⟩
 refine eq2 (fun h=>eB ?_) fun h=>?_
 · refine⟨n,4,b+1,rfl,B0,by omega,by decide,by decide,fun r1 st1 a1 a2 B1 U1=>dQ ?_⟩
   refine⟨n,4,b+1+1,rfl,B1,by omega,by decide,by decide,fun r2 st2 c1 c2 B2 U2=>dQ ⟨Nat.le_of_ble_eq_true rfl,?_⟩⟩
   exact fin _ _ _ (by omega) (by omega) (by omega) (by omega) (B2.mono (by omega)) ((U0.trans U1).trans U2)
 · refine⟨n,4,b+1,rfl,B0,by omega,by decide,by decide,fun r1 st1 a1 a2 B1 U1=>dQ ?_⟩
   refine⟨n,4,b+1+1,rfl,B1,by omega,by decide,by decide,fun r2 st2 c1 c2 B2 U2=>dQ ⟨Nat.le_of_ble_eq_true rfl,?_⟩⟩
   exact fin _ _ _ (by omega) (by omega) (by omega) (by omega) (B2.mono (by omega)) ((U0.trans U1).trans U2)
noncomputable def jU:cD:=fun ds st K=>∃(n:Nat) (b kinds:Int),ds=[.ref n,.int kinds]∧Hd st n b∧b≤500000000∧0<kinds∧kinds<2^62∧∀(m w:Nat) A st',1≤m→m≤8→1≤w→w≤8→Mx.dJ m w A→(∀r∈A,∀x∈r,x.natAbs≤1000000000000*256)→Hd st' n (b+310)→XU st n st'→K (dW A) st'
noncomputable def h8:List Str:=["_law_hand_here","_law_kinds","_law_many","_law_wide"]
noncomputable def uK:DS:=(aF (yc (fz 2 3) (aM nP (af (ae 0) ak)))
 (bD (aM pD (af (ae 0) (af (ae 2) (af (ae 3) (af (aM cy (af (ae 0) (af (ae 1) ak))) ak)))))))
theorem tE:∀ds st K,jU ds st K→ds.length=2∧uK {nx:=fun _ st'=>K .aG st',rt:=K} (a7 h8 ds) st:=by
 rintro ds st K ⟨n,b,kinds,rfl,B,hb,k0,k1,k⟩
 refine⟨rfl,?_⟩
 refine⟨n,b,rfl,B,by omega,fun m w st1 m1 m8 w1 w8 B1 U1=>?_⟩
 refine⟨_,rfl,?_⟩
 refine⟨n,kinds,_,rfl,B1,by omega,k0,k1,fun kd st2 a1 a2 B2 U2=>?_⟩
 refine⟨n,_,m,w,kd,rfl,B2,by omega,m8,w8,fun A st3 hA bA B3 X3=>?_⟩
 exact k m w A st3 m1 m8 w1 w8 hA bA (B3.mono (by omega)) ((XU.upd (U1.trans U2)).trans X3)
noncomputable def mI:cD:=fun ds st K=>∃(t:Int) (b:Nat),ds=[.int t,.int b]∧0<b∧K (.tup [.int (t.fdiv ((Nat.gcd t.natAbs b:Nat):Int)),.int ((b:Int).fdiv ((Nat.gcd t.natAbs b:Nat):Int))]) st
noncomputable def jX:List Str:=["_law_top","_law_bottom","_law_one","_law_other"]
noncomputable def x_:DS:=(aF (AB 2 3 (af (bw mW (af (ae 0) ak)) (af (ae 1) ak)))
 (aF (qo (a5 (au kc (ae 3) (dC (.int 0)))) (AB 2 3 (af (ae 3) (af (au fC (ae 2) (ae 3)) ak))))
 (bD (gg (af (au i9 (ae 0) (ae 2)) (af (au i9 (ae 1) (ae 2)) ak))))))
theorem vV:∀ds st K,mI ds st K→ds.length=2∧x_ {nx:=fun _ st'=>K .aG st',rt:=K} (a7 jX ds) st:=by
 rintro ds st K ⟨t,b,rfl,hb,k⟩
 refine⟨rfl,?_⟩
 refine mM ?_
 refine⟨fun m σ st'=>∃(g s:Nat),σ=[some (.int t),some (.int b),some (.int g),some (.int s)]∧st'=st∧Nat.gcd g s=Nat.gcd t.natAbs b∧s=m,⟨b,t.natAbs,b,rfl,rfl,rfl,rfl⟩,?_⟩
 rintro m σ st' ⟨g,s,rfl,rfl,hg,rfl⟩
 refine Jj (fun hs=>eB ?_) fun hs=>?_
 · refine gn (by omega) ⟨g%s,Nat.mod_lt _ (by omega),s,g%s,?_,rfl,?_,rfl⟩
   · rw[xS];rfl
   · rw[Nat.gcd_comm,←Nat.gcd_rec,Nat.gcd_comm];exact hg
 · have hs0:s=0:=by omega
   subst hs0
   rw[Nat.gcd_zero_right]at hg
   subst hg
   have hg0:Nat.gcd t.natAbs b≠0:=fun z=>by
    have:=Nat.eq_zero_of_gcd_eq_zero_right z
    omega
   exact ir (by omega) (ir (by omega) ⟨Nat.le_of_ble_eq_true rfl,k⟩)
noncomputable def lI:cD:=fun ds st K=>∃q:Rat,ds=[fH q]∧K (.bl true) st
noncomputable def jf:List Str:=["_law_found"]
noncomputable def wc:DS:=(aF (dz (jY (ib (a5 (bw gF (af (ae 0) (af (gg (af (dC (.ty "tuple")) (af (dC (.ty "list")) ak))) ak))))) (a5 (au lS (bw eR (af (ae 0) ak)) (dC (.int 2))))) (bD (dC (.bl false))) cN)
 (aF (dz (ib (a5 (bw nX (af (c5 (dA (ae 0)) [none] (bL 0) cq (rN (bw gF (af (ae 0) (af (dC (.ty "int")) ak))) (uv (a5 (bw gF (af (ae 0) (af (dC (.ty "bool")) ak))))))) ak)))) (bD (dC (.bl false))) cN)
 (bD (rN (au kc (au aT (ae 0) (dC (.int 1))) (dC (.int 0))) (au iw (aM mI (af (au aT (ae 0) (dC (.int 0))) (af (au aT (ae 0) (dC (.int 1))) ak))) (gg (af (au aT (ae 0) (dC (.int 0))) (af (au aT (ae 0) (dC (.int 1))) ak))))))))
theorem rh:∀l:List D,i8 (l.map fun _=>D.bl true)=some (l.map fun _=>true)
 | []=>rfl
 |_::l=>by simp[i8,rh l]
theorem Aq(l:List D):(l.map fun _=>true).all id=true:=by simp
theorem all_ints{K:DK}{st:ag}{r:List Int}(hl:r.length≤1000){ok:ag→Prop}(aI:ok st)(k:K (.bl true) st):(aA r).length≤sizeLine∧dk (bL 0) cq (rN (bw gF (af (ae 0) (af (dC (.ty "int")) ak))) (uv (a5 (bw gF (af (ae 0) (af (dC (.ty "bool")) ak)))))) ok [none] (aA r) [] st fun ys st'=>nX [.lst ys] st' K:=by
 refine⟨b_ (by rw[List.length_map];exact hl),?_⟩
 refine comp_map (g:=fun _=> .bl true) aI _ (fun d hd K' q=>?_) ?_
 · obtain⟨i,_,rfl⟩:=List.mem_map.mp hd
   exact⟨_,rfl,j6 rfl (by decide) (eB (j6 rfl (by decide) q))⟩
 refine uD (rh (aA r)) ?_
 rw[Aq]
 exact k
theorem vj:∀ds st K,lI ds st K→ds.length=1∧wc {nx:=fun _ st'=>K .aG st',rt:=K} (a7 jf ds) st:=by
 rintro ds st K ⟨q,rfl,k⟩
 refine⟨rfl,?_⟩
 refine⟨Nat.le_of_ble_eq_true rfl,oy (cl:=["tuple","list"]) rfl rfl (by decide) ?_⟩
 refine di rfl (xk rfl ?_)
 refine e8 (all_ints (r:=[q.num,((q.den:Nat):Int)]) (Nat.le_of_ble_eq_true rfl) trivial ?_)
 have hd:=q.den_pos
 refine az rfl rfl (L7 (by omega) (eB (az rfl rfl (az rfl rfl ⟨q.num,q.den,rfl,hd,?_⟩))))
 have hg:Nat.gcd q.num.natAbs q.den=1:=q.reduced
 rw[hg]
 refine az rfl rfl (az rfl rfl ⟨Nat.le_of_ble_eq_true rfl,pL rfl rfl ?_⟩)
 rw[show q.num.fdiv ((1:Nat):Int)=q.num from Int.fdiv_one _,show((q.den:Nat):Int).fdiv ((1:Nat):Int)=((q.den:Nat):Int)from Int.fdiv_one _,m7 40 _ rfl]
 exact k
noncomputable def kK:cD:=fun ds st K=>∃(dp dr:D) (xs:List D) (ps:List Rat) (r:List Int) (t:Nat),ds=[dp,dr]∧items? st dp=some xs∧qr st xs ps∧items? st dr=some (aA r)∧Mx.Pb ps t∧(∀x∈r,x.natAbs≤2^64)∧ps.length≤8∧t≤20000000∧K (.tup [.int (Mx.wo 0 1 ps r).1,.int (Mx.wo 0 1 ps r).2]) st
noncomputable def kW:List Str:=["_law_parts","_law_row","_law_top","_law_bottom","_law_one","_law_number_here"]
noncomputable def yV:DS:=(aF (a8 2 (dC (.int 0)))
 (aF (a8 3 (dC (.int 1)))
 (aF (iA (pB (af (ae 0) (af (ae 1) ak))) (fz 4 5) (aF (a8 2 (au dy (au cK (ae 2) (au aT (ae 4) (dC (.int 1)))) (au cK (au cK (au aT (ae 4) (dC (.int 0))) (ae 5)) (ae 3))))
 (a8 3 (au cK (ae 3) (au aT (ae 4) (dC (.int 1)))))))
 (bD (gg (af (ae 2) (af (ae 3) ak)))))))
theorem yw:∀ds st K,kK ds st K→ds.length=2∧yV {nx:=fun _ st'=>K .aG st',rt:=K} (a7 kW ds) st:=by
 rintro ds st K ⟨dp,dr,xs,ps,r,t,rfl,hp,hx,hr,hP,hsm,hl8,ht,k⟩
 refine⟨rfl,?_⟩
 refine m5 hp hr fun ok aI=>?_
 refine fE (fun rest σ st'=>st'=st∧∃(xs':List D) (ps':List Rat) (r':List Int) (T B:Int) (j τ C:Nat) (v4 v5:Option D),rest=eA xs' (aA r')∧qr st xs' ps'∧σ=[some dp,some dr,some (.int T),some (.int B),v4,v5]∧T.natAbs≤2^(τ+66*j)∧B.natAbs≤2^τ∧Mx.Pb ps' C∧(∀x∈r',x∈r)∧Mx.wo T B ps' r'=Mx.wo 0 1 ps r∧τ+C≤20000000∧j+ps'.length≤8) ?_ ?_ _ _ _ ⟨rfl,xs,ps,r,0,1,0,0,t,none,none,rfl,hx,rfl,by decide,by decide,hP,fun _ h=>h,rfl,by omega,by omega⟩
 · rintro σ st' ⟨rfl,xs',ps',r',T,B,j,τ,C,v4,v5,he,hx',rfl,hT,hB,hC,_,hd,hle,hj⟩
   refine⟨aI _ hp hr,⟨Nat.le_of_ble_eq_true rfl,?_⟩⟩
   have:Mx.wo T B ps' r'=(T,B):=by
    match xs',ps',r',hx',he with
    | [],[],_,_,_=>unfold Mx.wo;rfl
    |_::_,_::_,[],_,_=>unfold Mx.wo;rfl
    |_::_,_::_,_::_,_,he=>cases he
   rw[←hd,this]at k
   exact k
 · rintro x rest σ st' ⟨rfl,xs',ps',r',T,B,j,τ,C,v4,v5,he,hx',rfl,hT,hB,hC,hm,hd,hle,hj⟩ next
   match xs',ps',r',he,hx',hC,hm,hd,hj with
   | [],[],_,he,_,_,_,_,_=>cases he
   |_::_,_::_,[],he,_,_,_,_,_=>cases he
   |d::xs',p::ps',n::r',he,hx',⟨a,C',ha,hC',hbC⟩,hm,hd,hj=>
    have hz:eA (d::xs') (aA (n::r'))= .tup [d,.int n]::eA xs' (aA r'):=rfl
    rw[hz,List.cons.injEq]at he
    obtain⟨rfl,rfl⟩:=he
    have hn:=hsm n (hm n List.mem_cons_self)
    rw[List.length_cons]at hj
    have h1:=Mx.d_ hT ha.lK
    have h2:=Mx.d_ ha.num hn
    have h3:=Mx.d_ h2 hB
    have h4:=Mx.d_ hB ha.lK
    refine⟨aI _ hp hr,_,rfl,?_⟩
    refine az hx'.1 rfl (cA (c7 hT ha.lK (by omega)) (az hx'.1 rfl (cA (c7 ha.num hn (by omega)) (cA (c7 h2 hB (by omega)) (dQ (az hx'.1 rfl (cA (c7 hB ha.lK (by omega)) ?_)))))))
    refine next _ _ ⟨rfl,xs',ps',r',_,_,j+1,τ+a,C',_,_,rfl,hx'.2,rfl,?_,h4,hC',fun x hx=>hm x (List.mem_cons_of_mem _ hx),hd,by omega,by omega⟩
    have q1:2^(τ+66*j+a)≤2^(τ+a+66*j+65):=Nat.pow_le_pow_right (by decide) (by omega)
    have q2:2^(a+64+τ)≤2^(τ+a+66*j+65):=Nat.pow_le_pow_right (by decide) (by omega)
    have q3:2^(τ+a+66*(j+1))=2^(τ+a+66*j+65)*2:=by rw[show τ+a+66*(j+1)=τ+a+66*j+65+1 by omega,Nat.pow_succ]
    have:=Int.natAbs_add_le (T*((p.den:Nat):Int)) (p.num*n*B)
    omega
noncomputable def n_:cD:=fun ds st K=>∃(A:List (List Int)) (r:List Int) (N w:Nat) (x:D),ds=[dW A,bz r,x]∧Fl A N w r∧yI A N w r x∧K (.bl true) st
noncomputable def kT:List Str:=["_law_rows_here","_law_row","_law_found","_law_told","_law_sums","_law_step","_law_top","_law_bottom"]
noncomputable def za:DS:=(aF (dz (jY (ib (a5 (bw gF (af (ae 2) (af (gg (af (dC (.ty "tuple")) (af (dC (.ty "list")) ak))) ak))))) (a5 (au lS (bw eR (af (ae 2) ak)) (dC (.int 2))))) (bD (dC (.bl false))) cN)
 (aF (dz (jY (ib (a5 (bw gF (af (au aT (ae 2) (dC (.int 0))) (af (dC (.ty "str")) ak))))) (ib (a5 (bw gF (af (au aT (ae 2) (dC (.int 1))) (af (gg (af (dC (.ty "tuple")) (af (dC (.ty "list")) ak))) ak)))))) (bD (dC (.bl false))) cN)
 (aF (a8 3 (au aT (ae 2) (dC (.int 1))))
 (aF (dz (a5 (au iw (au aT (ae 2) (dC (.int 0))) (dC (.str "told")))) (aF (dz (jY (a5 (au lS (bw eR (af (ae 3) ak)) (bw eR (af (ae 0) ak)))) (ib (a5 (bw nX (af (c5 (dA (ae 3)) [none] (bL 0) cq (rN (bw gF (af (ae 0) (af (dC (.ty "int")) ak))) (uv (a5 (bw gF (af (ae 0) (af (dC (.ty "bool")) ak))))))) ak))))) (bD (dC (.bl false))) cN)
 (aF (a8 4 (c5 (gq (af (bw eR (af (ae 1) ak)) ak)) [none,some 3,some 0] (bL 0) cq (bw xv (af (c5 (pB (af (ae 1) (af (ae 2) ak))) [none,none,some 0] (fz 0 1) cq (au cK (ae 0) (au aT (ae 1) (ae 2)))) ak))))
 (bD (au iw (ae 4) (bw hO (af (ae 1) ak)))))) cN)
 (aF (dz (jY (a5 (au o9 (au aT (ae 2) (dC (.int 0))) (dC (.str "none")))) (jY (a5 (au lS (bw eR (af (ae 3) ak)) (bw eR (af (ae 1) ak)))) (ib (a5 (bw nX (af (c5 (dA (ae 3)) [none] (bL 0) cq (aM lI (af (ae 0) ak))) ak)))))) (bD (dC (.bl false))) cN)
 (aF (iA (dA (ae 0)) (bL 5) (aF (yc (fz 6 7) (aM kK (af (ae 3) (af (ae 5) ak))))
 (dz (a5 (au lS (au fC (ae 6) (ae 7)) (dC (.int 0)))) (bD (dC (.bl false))) cN)))
 (aF (yc (fz 6 7) (aM kK (af (ae 3) (af (ae 1) ak))))
 (bD (au lS (au fC (ae 6) (ae 7)) (dC (.int 0)))))))))))
theorem CV:∀(W:List Int) (A:List (List Int)) (j n:Nat),W.length=n→A.length=n→(List.zipWith (fun a (q:List Int)=>a*q.getD j 0) W A).sum=Mx.S n fun i=>W.getD i 0*Mx.g A i j
 | [],[],j,n,h,_=>by subst h;rfl
 | [],_::_,_,n,h,h'=>by subst h;cases h'
 |_::_,[],_,n,h,h'=>by subst h;cases h'
 |a::W,q::A,j,n,h,h'=>by
  subst h
  rw[List.zipWith_cons_cons,List.sum_cons,CV W A j W.length rfl (Nat.succ.inj h'),List.length_cons,Mx.yL]
  have e:(fun i=>(a::W).getD (i+1) 0*Mx.g (q::A) (i+1) j)=fun i=>W.getD i 0*Mx.g A i j:=by
   funext i
   unfold Mx.g
   simp
  rw[e]
  rfl
theorem De{j w:Nat}(hj:j<w):∀(W:List Int) (A:List (List Int)),(∀q∈A,q.length=w)→(eA (aA W) (A.map bz)).map (fun d=>match d with| .tup [.int a,.tup xs]=>(match dM xs (j:Int)with|some (.int b)=> .int (a*b)|_=> .aG)|_=> .aG)=aA (List.zipWith (fun a (q:List Int)=>a*q.getD j 0) W A)
 | [],_,_=>rfl
 |_::_,[],_=>rfl
 |a::W,q::A,h=>by
  have ih:=De hj W A fun q hq=>h q (List.mem_cons_of_mem _ hq)
  have e:dM (aA q) (j:Int)=some (.int (q.getD j 0)):=gY (by rw[h q List.mem_cons_self];exact hj)
  unfold eA at ih⊢
  simp only[aA,List.map_cons,List.zip_cons_cons,List.zipWith_cons_cons]at ih⊢
  rw[ih]
  congr 1
  show(match dM (aA q) (j:Int)with|some (.int b)=>D.int (a*b)|_=>D.aG)=_
  rw[e]
theorem DV{W:List Int}{A:List (List Int)}{d:D}(h:d∈eA (aA W) (A.map bz)):∃a q,a∈W∧q∈A∧d= .tup [.int a,bz q]:=by
 induction W generalizing A with
 |nil=>cases h
 |cons a W ih=>
  cases A with
  |nil=>cases h
  |cons q A=>
   have e:eA (aA (a::W)) ((q::A).map bz)= .tup [.int a,bz q]::eA (aA W) (A.map bz):=rfl
   rw[e]at h
   rcases List.mem_cons.mp h with rfl|h
   · exact⟨a,q,List.mem_cons_self,List.mem_cons_self,rfl⟩
   · obtain⟨a',q',h1,h2,h3⟩:=ih h
     exact⟨a',q',List.mem_cons_of_mem _ h1,List.mem_cons_of_mem _ h2,h3⟩
theorem F6{n:Nat}{r:List Int}:pl (n+1) (bz r)=true:=by
 unfold pl
 exact oB
theorem zX{n:Nat}{r:List Int}:pl (n+1) (aY r)=true:=by
 unfold pl
 exact oB
theorem yz:∀ds st K,n_ ds st K→ds.length=3∧za {nx:=fun _ st'=>K .aG st',rt:=K} (a7 kT ds) st:=by
 rintro ds st K ⟨A,r,N,w,x,rfl,⟨hA,n1,n8,w8,bA,lr,br⟩,hS,k⟩
 refine⟨rfl,?_⟩
 have lA:=hA.len
 rcases hS with⟨W,rfl,lW,hs⟩|⟨ps,rfl,lp,hP,hw,hn⟩
 · refine⟨Nat.le_of_ble_eq_true rfl,oy (cl:=["tuple","list"]) rfl rfl (by decide) ?_⟩
   refine di rfl (xk rfl ?_)
   refine az rfl rfl (j6 rfl (by decide) ?_)
   refine az rfl rfl ⟨Nat.le_of_ble_eq_true rfl,oy (cl:=["tuple","list"]) rfl rfl (by decide) ?_⟩
   refine az rfl rfl (az rfl rfl (pL rfl rfl ?_))
   refine eB ?_
   refine di rfl (di rfl (xk (by rw[List.length_map,List.length_map,lW,lA]) ?_))
   refine e8 (all_ints (by omega) trivial ?_)
   refine di rfl ?_
   rw[List.length_map,lr]
   refine jz ⟨by omega,by omega⟩ ⟨b_ (by rw[gz];omega),?_⟩
   rw[Int.toNat_natCast]
   refine lZ (fun j=> .int ((List.zipWith (fun a (q:List Int)=>a*q.getD j 0) W A).sum)) w (fun j hj K' q=>⟨_,rfl,?_⟩) ?_
   · refine m5 rfl rfl fun ok aI=>⟨b_ (by rw[mR,List.length_map,List.length_map];omega),?_⟩
     refine comp_map (g:=fun d=>match d with| .tup [.int a,.tup xs]=>(match dM xs (j:Int)with|some (.int b)=> .int (a*b)|_=> .aG)|_=> .aG) (aI _ rfl rfl) _ (fun d hd K2 q2=>?_) ?_
     · obtain⟨a,s,_,hsA,rfl⟩:=DV hd
       have ls:=hA.pR s hsA
       have e:dM (aA s) (j:Int)=some (.int (s.getD j 0)):=gY (by omega)
       have q2':K2 (match dM (aA s) (j:Int)with|some (.int b)=> .int (a*b)|_=> .aG) st:=q2
       rw[e]at q2'
       have b1:=bA s hsA _ (getD_mem (r:=s) (k:=j) (by omega))
       exact⟨_,rfl,az rfl e (cA (oA (by omega) (by omega)) q2')⟩
     rw[De hj W A hA.pR]
     exact JY (ints_map _) q
   · refine gO rfl (pL ?_ zX ?_)
     · unfold pl
       refine List.all_eq_true.mpr fun d hd=>?_
       obtain⟨j,_,rfl⟩:=List.mem_map.mp hd
       rfl
     · have e:(List.range w).map (fun j=>D.int ((List.zipWith (fun a (q:List Int)=>a*q.getD j 0) W A).sum))=aA r:=by
        refine List.ext_getElem (by simp[lr]) fun j h1 h2=>?_
        rw[List.getElem_map,List.getElem_map,List.getElem_range]
        have hj:j<w:=by simpa using h1
        rw[CV W A j N lW lA,hs j hj,Mx.bG (by omega)]
       rw[e,m7 40 _ zX]
       exact k
 · refine⟨Nat.le_of_ble_eq_true rfl,oy (cl:=["tuple","list"]) rfl rfl (by decide) ?_⟩
   refine di rfl (xk rfl ?_)
   refine az rfl rfl (j6 rfl (by decide) ?_)
   refine az rfl rfl ⟨Nat.le_of_ble_eq_true rfl,oy (cl:=["tuple","list"]) rfl rfl (by decide) ?_⟩
   refine az rfl rfl (az rfl rfl (pL rfl rfl ?_))
   refine MK ?_
   refine az rfl rfl (yM rfl rfl ?_)
   refine di rfl (di rfl (xk (by rw[List.length_map,List.length_map,lp,lr]) ?_))
   refine e8 ⟨b_ (by rw[List.length_map];omega),?_⟩
   refine comp_map (g:=fun _=> .bl true) trivial _ (fun d hd K' q=>?_) ?_
   · obtain⟨p,_,rfl⟩:=List.mem_map.mp hd
     exact⟨_,rfl,p,rfl,q⟩
   refine uD (rh (ps.map fH)) ?_
   rw[Aq]
   have wor:∀s:List Int,s.length=w→0<(Mx.wo 0 1 ps s).2∧((Mx.wo 0 1 ps s).1.fmod (Mx.wo 0 1 ps s).2=0↔Mx.Wh (Mx.dq ps w fun c=>s.getD c 0)):=fun s ls=>by
    obtain⟨h1,h2⟩:=Mx.FA ps s 0 1 (by decide)
    refine⟨h1,?_⟩
    rw[Mx.Hz h1,h2,←Ko lp ls]
    have e0:((0:Int):Rat)/((1:Int):Rat)=0:=by rw[Rat.intCast_zero];grind
    rw[e0]
   refine e8 ?_
   refine fE (fun rest σ st'=>st'=st∧∃(i:Nat) (v5 v6 v7:Option D),i≤N∧rest=(A.map bz).drop i∧σ=[some (dW A),some (bz r),some (.tup [.str "none",.tup (ps.map fH)]),some (.tup (ps.map fH)),none,v5,v6,v7]) ?_ ?_ _ _ _ ⟨rfl,0,none,none,none,Nat.zero_le _,rfl,rfl⟩
   · rintro σ st' ⟨rfl,i,v5,v6,v7,hi,hrest,rfl⟩
     refine⟨trivial,_,_,_,ps,r,_,rfl,rfl,qr.of,rfl,hP,br,by omega,by decide,?_⟩
     obtain⟨h1,h2⟩:=wor r lr
     refine⟨_,rfl,gn (by omega) (neT (fun z=>hn (h2.mp z)) k)⟩
   · rintro d rest σ st' ⟨rfl,i,v5,v6,v7,hi,hrest,rfl⟩ next
     obtain⟨hiA,rfl,rfl⟩:=drop_cons hrest
     have hiN:i<N:=by omega
     have lri:=hA.row hiN
     refine⟨trivial,_,rfl,_,_,_,ps,A.getD i [],_,rfl,rfl,qr.of,rfl,hP,fun x hx=>?_,by omega,by decide,?_⟩
     · refine Nat.le_trans (bA _ ?_ x hx) (by decide)
       rw[Mx.bG hiA];exact List.getElem_mem _
     obtain⟨h1,h2⟩:=wor _ lri
     exact⟨_,rfl,gn (by omega) (xk (h2.mpr (hw i hiN)) (next _ _ ⟨rfl,i+1,_,_,_,hiN,rfl,rfl⟩))⟩
noncomputable abbrev j0(c:List Int×Bool):D:= .tup [bz c.1,.bl c.2]
structure Cs(A:List (List Int))(N w:Nat)(c:List Int×Bool):Prop where
 len:c.1.length=w
 bd:∀x∈c.1,x.natAbs≤2^64
 Mf:c.2=true→Mx.iX A N w fun q=>c.1.getD q 0
noncomputable def oa:cD:=fun ds st K=>∃(n:Nat) (b:Int) (A:List (List Int)) (N w:Nat),ds=[.ref n,dW A]∧Hd st n b∧b≤500000∧Mx.dJ N w A∧1≤N∧N≤8∧1≤w∧w≤8∧(∀r∈A,∀x∈r,x.natAbs≤2^48)∧∀st' p (cs:List (List Int×Bool)),st.length≤p→st'[p]?=some (.lst (cs.map j0))→cs.length≤4→(∀c∈cs,Cs A N w c)→Hd st' n (b+60)→XU st n st'→K (.ref p) st'
noncomputable def kQ:List Str:=["_law_hand_here","_law_rows_here","_law_wide","_law_great","_law_total","_law_k","_law_row","_law_often","_law_cases_here","_law_at","_law_bent"]
noncomputable def ze:DS:=(aF (a8 2 (bw eR (af (au aT (ae 1) (dC (.int 0))) ak)))
 (aF (a8 3 (au kc (bw rg (af (c5 (dA (ae 1)) [none] (bL 0) cq (bw rg (af (c5 (dA (ae 0)) [none] (bL 0) cq (bw mW (af (ae 0) ak))) ak))) ak)) (dC (.int 9))))
 (aF (a8 4 (au cK (nc (af (dC (.int 0)) ak)) (ae 2)))
 (aF (iA (wd (af (ae 1) ak)) (fz 5 6) (aF (a8 7 (au j_ (aM cy (af (ae 0) (af (dC (.int 3)) ak))) (dC (.int 1))))
 (aF (dz (nH (a5 (ae 3)) (a5 (au kc (ae 5) (dC (.int 0))))) (a8 7 (dC (.int 0))) (dz (ib (a5 (ae 3))) (a8 7 (au j_ (aM cy (af (ae 0) (af (dC (.int 2001)) ak))) (dC (.int 1000)))) cN))
 (a8 4 (c5 (pB (af (ae 4) (af (ae 6) ak))) [none,none,some 7] (fz 0 1) cq (au dy (ae 0) (au cK (ae 2) (ae 1))))))))
 (aF (a8 8 (uY (af (gg (af (bw dU (af (ae 4) ak)) (af (dC (.bl true)) ak))) ak)))
 (aF (a8 9 (aM cy (af (ae 0) (af (ae 2) ak))))
 (aF (a8 10 (au j_ (au dy (au aT (ae 4) (ae 9)) (dC (.int 1))) (au cK (dC (.int 2)) (bw yi (af (au kc (au aT (ae 4) (ae 9)) (dC (.int 0))) ak)))))
 (aF (iQ (iU (ae 8) (gg (af (bw dU (af (au dy (au dy (ni (ae 4) kE (o4 (ae 9))) (nc (af (ae 10) ak))) (ni (ae 4) (o4 (au dy (ae 9) (dC (.int 1)))) kE)) ak)) (af (dC (.bl false)) ak)))))
 (aF (iQ (iU (ae 8) (gg (af (bw dU (af (c5 (dA (ae 4)) [none,some 0] (bL 0) cq (au j_ (aM cy (af (ae 1) (af (dC (.int 19)) ak))) (dC (.int 9)))) ak)) (af (dC (.bl false)) ak)))))
 (aF (dz (a5 (bw nX (af (c5 (dA (ae 4)) [none] (bL 0) cq (au iw (au fC (ae 0) (dC (.int 2))) (dC (.int 0)))) ak))) (iQ (iU (ae 8) (gg (af (bw dU (af (c5 (dA (ae 4)) [none] (bL 0) cq (au ma (ae 0) (dC (.int 2)))) ak)) (af (dC (.bl false)) ak))))) cN)
 (bD (ae 8))))))))))))
theorem GG{r:List Int}:(aA r).map (fun d=>match d with| .int x=> .int ((x.natAbs:Nat):Int)|_=> .aG)=aA (r.map fun x=>((x.natAbs:Nat):Int)):=by unfold aA;rw[List.map_map,List.map_map];rfl
theorem Dy{r:List Int}:(aA r).map (fun d=>match d with| .int x=> .int (x.fdiv 2)|_=> .aG)=aA (r.map fun x=>x.fdiv 2):=by unfold aA;rw[List.map_map,List.map_map];rfl
theorem Ee{xs:List D}{j:Nat}:L3.cutD xs (some (j:Int)) none=xs.drop j:=by
 unfold L3.cutD
 rw[HT.zK,HT.x9]
 by_cases h:j≤xs.length
 · rw[Nat.min_eq_left h,List.take_of_length_le (by rw[List.length_drop];omega)]
 · rw[Nat.min_eq_right (by omega),List.drop_of_length_le (Nat.le_refl _),List.drop_of_length_le (by omega)]
   simp
theorem enum_rows{A:List (List Int)}{i:Nat}{d:D}{rest:List D}(hr:d::rest=f7 i ((A.map bz).drop i)):i<A.length∧d= .tup [.int (i:Int),bz (A.getD i [])]∧rest=f7 (i+1) ((A.map bz).drop (i+1)):=by
 rcases Nat.lt_or_ge i A.length with h|h
 · rw[List.drop_eq_getElem_cons (by rw[List.length_map];exact h),List.getElem_map]at hr
   unfold f7 at hr
   obtain⟨h1,h2⟩:=List.cons.inj hr
   exact⟨h,by rw[Mx.bG h];exact h1,h2⟩
 · rw[List.drop_eq_nil_of_le (by rw[List.length_map];exact h)]at hr
   cases hr
theorem vJ{f:D→Bool}:∀l:List D,i8 (l.map fun d=>D.bl (f d))=some (l.map f)
 | []=>rfl
 |_::l=>by simp[i8,vJ l]
theorem xG{n:Nat}{K:DK}{y:D}{st:ag}{xs ys:List D}(e:st[n]?=some (.lst xs))(h:xs.length≤1000)(ey:xs++[y]=ys)(k:∀st',st'[n]?=some (.lst ys)→Upd st n st'→K .aG st'):D1 n K y st:=
 u9 e (by rw[sizeLine_eq];omega) (k _ (by rw[List.getElem?_set_self (List.getElem?_eq_some_iff.mp e).1,ey]) Upd.set)
theorem XU.Eh{st st1 st2:ag}{n p:Nat}(X:XU st n st1)(U:Upd st1 p st2)(h:st.length≤p):XU st n st2:=⟨by rw[U.len];exact X.len,fun m hm g=>(U.same m (by omega)).trans (X.same m hm g)⟩
theorem yr:∀ds st K,oa ds st K→ds.length=2∧ze {nx:=fun _ st'=>K .aG st',rt:=K} (a7 kQ ds) st:=by
 rintro ds st K ⟨n,b,A,N,w,rfl,B,hb,hA,n1,n8,w1,w8,bA,k⟩
 refine⟨rfl,?_⟩
 have lA:=hA.len
 have hn:=B.lt
 have rw0:=hA.row (i:=0) n1
 refine az rfl (show dM (A.map bz) 0=some (bz (A.getD 0 []))from zT (k:=0) (by omega)) (di rfl ?_)
 rw[List.length_map,rw0]
 refine e8 ⟨b_ (by rw[List.length_map];omega),?_⟩
 refine iz (fun rest acc st'=>st=st'∧∃(i:Nat) (l:List Int),i≤N∧rest=(A.map bz).drop i∧acc=aA l∧l.length=i) ?_ ?_ _ _ _ ⟨rfl,0,[],Nat.zero_le _,rfl,rfl,rfl⟩
 rotate_left 1
 · rintro d rest acc st' ⟨rfl,i,l,hi,hrest,rfl,hl⟩ next
   obtain⟨hiA,rfl,rfl⟩:=drop_cons hrest
   have hiN:i<N:=by omega
   have lri:=hA.row hiN
   refine⟨trivial,_,rfl,e8 ⟨b_ (by rw[List.length_map];omega),?_⟩⟩
   refine comp_map (g:=fun d=>match d with| .int x=> .int ((x.natAbs:Nat):Int)|_=> .aG) trivial _ (fun d hd K' q=>?_) ?_
   · obtain⟨x,_,rfl⟩:=List.mem_map.mp hd
     exact⟨_,rfl,mM q⟩
   rw[GG]
   refine zM (ints_map _) (fun z=>?_) fun m _ _=>?_
   · have:=congrArg List.length z
     rw[List.length_map,lri,List.length_nil]at this
     omega
   show dk _ _ _ _ _ _ _ _ _
   rw[ints_app]
   exact next _ _ ⟨rfl,i+1,l++[m],hiN,rfl,rfl,by simp[hl]⟩
 rintro acc st' ⟨rfl,i,l,hi,hrest,rfl,hl⟩
 have hiN:=drop_nil hrest
 refine⟨trivial,zM (ints_map _) (fun z=>by rw[z]at hl;simp at hl;omega) fun gm _ _=>nA ?_⟩
 generalize decide ((9:Int)<gm)=gr
 clear hl hrest hi hiN
 refine IG (Nat.le_of_ble_eq_true rfl) (uS ⟨by omega,by omega,b_ (by simp;omega)⟩ ?_)
 rw[Int.toNat_natCast,sZ]
 try dsimp only[ak]
 refine fD (A:=iA _ _ _) (fun σ st'=>∃(T:List Int) (v5 v6 v7:Option D),σ=[some (.ref n),some (dW A),some (.int w),some (.bl gr),some (aY T),v5,v6,v7,none,none,none]∧T.length=w∧(∀x∈T,x.natAbs≤8*(1000*2^48))∧Mx.iX A N w (fun c=>T.getD c 0)∧Hd st' n (b+16)∧Upd st n st') (fun nx hnx=>?_) ?_
 · refine zH (xs:=A.map bz) rfl fun ok aI=>?_
   refine fE (fun rest σ st'=>∃(i:Nat) (T:List Int) (v5 v6 v7:Option D),i≤N∧rest=f7 i ((A.map bz).drop i)∧σ=[some (.ref n),some (dW A),some (.int w),some (.bl gr),some (aY T),v5,v6,v7,none,none,none]∧T.length=w∧(∀x∈T,x.natAbs≤i*(1000*2^48))∧Mx.iX A N w (fun c=>T.getD c 0)∧Hd st' n (b+2*i)∧Upd st n st') ?_ ?_ _ _ _ ⟨0,List.replicate w 0,none,none,none,Nat.zero_le _,rfl,rfl,by simp,fun x hx=>by rw[List.eq_of_mem_replicate hx];exact Nat.zero_le _,Mx.iX.zero fun c _=>Mx.eQ _ _,B.mono (by omega),Upd.refl⟩
   · rintro σ st' ⟨i,T,v5,v6,v7,hi,hrest,rfl,lT,bT,hL,B',U⟩
     exact⟨aI _ rfl,hnx _ _ ⟨T,v5,v6,v7,rfl,lT,fun x hx=>Nat.le_trans (bT x hx) (Nat.mul_le_mul_right _ (by omega)),hL,B'.mono (by omega),U⟩⟩
   · rintro x rest σ st' ⟨i,T,v5,v6,v7,hi,hrest,rfl,lT,bT,hL,B',U⟩ next
     obtain⟨hiA,rfl,rfl⟩:=enum_rows hrest
     have hiN:i<N:=by omega
     have lri:=hA.row hiN
     have hmem:A.getD i []∈A:=by rw[Mx.bG hiA];exact List.getElem_mem _
     refine⟨aI _ rfl,_,rfl,?_⟩
     refine⟨n,3,_,rfl,B',by omega,by decide,by decide,fun o st2 o0 o1 B2 U2=>i0 ?_⟩
     dsimp only
     refine fD (fun σ' st3=>∃o:Int,o.natAbs≤1000∧σ'=[some (.ref n),some (dW A),some (.int w),some (.bl gr),some (aY T),some (.int (i:Int)),some (bz (A.getD i [])),some (.int o),none,none,none]∧Hd st3 n (b+2*i+2)∧Upd st n st3) (fun nx2 hnx2=>?_) ?_
     · have U':=U.trans U2
       have go:∀o':Int,o'.natAbs≤1000→nx2 [some (.ref n),some (dW A),some (.int w),some (.bl gr),some (aY T),some (.int (i:Int)),some (bz (A.getD i [])),some (.int o'),none,none,none] st2:=fun o' ho=>hnx2 _ _ ⟨o',ho,rfl,B2.mono (by omega),U'⟩
       cases gr with
       |true=>
        show kc (D.int (i:Int)) (D.int 0) st2 _
        refine Jj (fun _=>eB ?_) fun _=>?_
        · exact go 0 (by decide)
        · exact go (o-1) (by omega)
       |false=>
        refine⟨n,2001,_,rfl,B2,by omega,by decide,by decide,fun o2 st3 p0 p1 B3 U3=>i0 ?_⟩
        exact hnx2 _ _ ⟨o2-1000,by omega,rfl,B3.mono (by omega),U'.trans U3⟩
     · rintro σ' st3 ⟨o2,ho,rfl,B3,U3⟩
       refine m5 rfl rfl fun ok2 hok2=>⟨b_ (by rw[mR,List.length_map,List.length_map];omega),?_⟩
       refine comp_map (g:=fun d=>match d with| .tup [.int a,.int b]=> .int (a+o2*b)|_=> .aG) (hok2 _ rfl rfl) _ (fun d hd K' t=>?_) ?_
       · obtain⟨a,b,ha,hb,rfl⟩:=sV hd
         exact⟨_,rfl,cA (gW (by omega) (by omega)) (dQ t)⟩
       have ea:(eA (aA T) (aA (A.getD i []))).map (fun d=>match d with| .tup [.int a,.int b]=> .int (a+o2*b)|_=> .aG)=aA (Mx.fb T o2 (A.getD i [])):=qU T (A.getD i [])
       rw[ea]
       have lAd:(Mx.fb T o2 (A.getD i [])).length=w:=by rw[Mx.kg (by omega)];exact lT
       refine next _ _ ⟨i+1,Mx.fb T o2 (A.getD i []),_,_,_,hiN,rfl,rfl,lAd,fun z hz=>?_,?_,B3.mono (by omega),U3⟩
       · obtain⟨c,hc,rfl⟩:=List.mem_iff_getElem.mp hz
         have e2:(Mx.fb T o2 (A.getD i []))[c]=(Mx.fb T o2 (A.getD i [])).getD c 0:=(Mx.bG hc).symm
         rw[e2,Mx.oM (by omega)]
         have b1:=bT _ (getD_mem (r:=T) (k:=c) (by omega))
         have b2:=bA _ hmem _ (getD_mem (r:=A.getD i []) (k:=c) (by omega))
         have b3:(o2*(A.getD i []).getD c 0).natAbs≤1000*2^48:=by
          rw[Int.natAbs_mul]
          exact Nat.mul_le_mul ho b2
         have b4:=Int.natAbs_add_le (T.getD c 0) (o2*(A.getD i []).getD c 0)
         rw[Nat.succ_mul]
         omega
       · refine(hL.HD o2 (Mx.iX.row hiN)).eq fun c _=>?_
         rw[Mx.oM (by omega)]
         rfl
 rintro σ st1 ⟨T,v5,v6,v7,rfl,lT,bT,hL,B1,U1⟩
 have l1:=U1.len
 have bT2:∀x∈T,x.natAbs≤2^62:=fun x hx=>Nat.le_trans (bT x hx) (by decide)
 have up62:∀ {x:Int},x.natAbs≤2^62→x.natAbs≤2^64:=fun h=>Nat.le_trans h (by decide)
 refine dw rfl ⟨Nat.le_of_ble_eq_true rfl,⟨Nat.le_of_ble_eq_true rfl,?_⟩⟩
 have c0:Cs A N w (T,true):=⟨lT,fun x hx=>up62 (bT2 x hx),fun _=>hL⟩
 have e1:(st1++[Cell.lst [j0 (T,true)]])[st1.length]?=some (.lst ([(T,true)].map j0)):=by simp
 have B1':Hd (st1++[Cell.lst [j0 (T,true)]]) n (b+16):=B1.cell (List.getElem?_append_left (by omega))
 have X1:XU st n (st1++[Cell.lst [j0 (T,true)]]):=(XU.upd U1).trans (XU.ext Ext.push)
 have hp:st.length≤st1.length:=by omega
 have hpn:st1.length≠n:=by omega
 generalize st1.length=p at e1 hp hpn
 generalize st1++[Cell.lst [j0 (T,true)]]=st2 at e1 B1' X1
 clear B1 U1 l1
 refine⟨n,w,_,rfl,B1',by omega,by omega,by omega,fun at_ st3 a0 a1 B3 U3=>?_⟩
 obtain⟨j,rfl⟩:=Int.eq_ofNat_of_zero_le a0
 have hj:j<w:=by omega
 have e3:=(U3.same _ hpn).trans e1
 have X3:=X1.trans (XU.upd U3)
 have atj:dM (aA T) (j:Int)=some (.int (T.getD j 0)):=gY (by omega)
 refine az rfl atj (dQ (az rfl atj (nA (FW (cA (gW (by decide) (by decide)) (i0 ?_))))))
 have hbent:(T.getD j 0+1-2*(if decide ((0:Int)<T.getD j 0)=true then 1 else 0)).natAbs≤2^63:=by
  have:=bT2 _ (getD_mem (r:=T) (k:=j) (by omega))
  split<;>omega
 generalize T.getD j 0+1-2*(if decide ((0:Int)<T.getD j 0)=true then 1 else 0)=bent at hbent⊢
 refine qO (by rfl) e3 ?_
 refine qM ⟨Nat.le_of_ble_eq_true rfl,?_⟩
 rw[yJ]
 refine zL (b_ (by rw[List.length_take,List.length_map];simp;omega)) (dQ (qM ?_))
 rw[show(j:Int)+1=((j+1:Nat):Int)from rfl,Ee]
 refine zL (b_ (by rw[List.length_append,List.length_take,List.length_drop,List.length_map];simp;omega)) ?_
 have eb:(aA T).take j++[D.int bent]++(aA T).drop (j+1)=aA (T.take j++[bent]++T.drop (j+1)):=by
  simp[aA,List.map_append,List.map_take,List.map_drop]
 rw[eb]
 have c1:Cs A N w (T.take j++[bent]++T.drop (j+1),false):=⟨by simp;omega,fun x hx=>by
  rcases List.mem_append.mp hx with hx|hx
  · rcases List.mem_append.mp hx with hx|hx
    · exact up62 (bT2 x (List.mem_of_mem_take hx))
    · rw[List.mem_singleton.mp hx];exact Nat.le_trans hbent (by decide)
  · exact up62 (bT2 x (List.mem_of_mem_drop hx)),fun z=>by cases z⟩
 generalize T.take j++[bent]++T.drop (j+1)=T1 at c1⊢
 refine dw rfl ⟨Nat.le_of_ble_eq_true rfl,xG e3 (Nat.le_of_ble_eq_true rfl) (ys:=[(T,true),(T1,false)].map j0) rfl fun st4 e4 U4=>?_⟩
 have X4:=X3.Eh U4 hp
 have B4:=B3.cell (U4.same _ (Ne.symm hpn))
 refine qO (by rfl) e4 (mF ⟨b_ (by rw[List.length_map];omega),?_⟩)
 refine iz (fun rest acc st'=>∃l:List Int,acc=aA l∧l.length+rest.length=w∧(∀x∈l,x.natAbs≤9)∧Hd st' n (b+16+1+l.length)∧Upd st4 n st') ?_ ?_ _ _ _ ⟨[],rfl,by simp[lT],by simp,B4.mono (by simp),Upd.refl⟩
 rotate_left 1
 · rintro d rest acc st' ⟨l,rfl,hl,h9,B',U'⟩ next
   have hl2:l.length<w:=by simp at hl;omega
   refine⟨trivial,_,rfl,n,19,_,rfl,B',by omega,by decide,by decide,fun o st5 o0 o1 B5 U5=>i0 ?_⟩
   show dk _ _ _ _ _ _ _ _ _
   rw[ints_app]
   refine next _ _ ⟨l++[o-9],rfl,by simp at hl⊢;omega,fun x hx=>?_,B5.mono (by simp;omega),U'.trans U5⟩
   rcases List.mem_append.mp hx with h|h
   · exact h9 x h
   · rw[List.mem_singleton.mp h];omega
 rintro acc st5 ⟨l,rfl,hl,h9,B5,U5⟩
 have hl:l.length=w:=by simpa using hl
 have e5:=(U5.same _ hpn).trans e4
 have X5:=X4.trans (XU.upd U5)
 refine⟨trivial,dw rfl ⟨Nat.le_of_ble_eq_true rfl,xG e5 (Nat.le_of_ble_eq_true rfl) (ys:=[(T,true),(T1,false),(l,false)].map j0) rfl fun st6 e6 U6=>?_⟩⟩
 have X6:=X5.Eh U6 hp
 have B6:=B5.cell (U6.same _ (Ne.symm hpn))
 have c2:Cs A N w (l,false):=⟨hl,fun x hx=>Nat.le_trans (h9 x hx) (by decide),fun z=>by cases z⟩
 refine mF ⟨b_ (by rw[List.length_map];omega),?_⟩
 refine comp_map (g:=fun d=> .bl ((fun d=>match d with|D.int x=>decide (x.fmod 2=0)|_=>false) d)) trivial _ (fun d hd K' q=>?_) ?_
 · obtain⟨x,_,rfl⟩:=List.mem_map.mp hd
   refine⟨_,rfl,gn (by decide) (eq2 (fun h=>?_) fun h=>?_)⟩
   · have q':K' (.bl (decide (x.fmod 2=0))) st6:=q
     rw[decide_eq_true h]at q';exact q'
   · have q':K' (.bl (decide (x.fmod 2=0))) st6:=q
     rw[decide_eq_false h]at q';exact q'
 refine uD (vJ (aA T)) ?_
 have call:∀c∈[(T,true),(T1,false),(l,false)],Cs A N w c:=fun c hc=>by
  rcases List.mem_cons.mp hc with rfl|h
  · exact c0
  · rcases List.mem_cons.mp h with rfl|h
    · exact c1
    · rw[List.mem_singleton.mp h];exact c2
 cases ((aA T).map fun d=>match d with|D.int x=>decide (x.fmod 2=0)|_=>false).all id with
 |false=>exact k st6 p _ hp e6 (Nat.le_of_ble_eq_true rfl) call (B6.mono (by omega)) X6
 |true=>
  refine eB ?_
  refine qO (by rfl) e6 (mF ⟨b_ (by rw[List.length_map];omega),?_⟩)
  refine comp_map (g:=fun d=>match d with| .int x=> .int (x.fdiv 2)|_=> .aG) trivial _ (fun d hd K' q=>?_) ?_
  · obtain⟨x,_,rfl⟩:=List.mem_map.mp hd
    exact⟨_,rfl,rB (by decide) (by decide) q⟩
  rw[Dy]
  refine dw rfl ⟨Nat.le_of_ble_eq_true rfl,xG e6 (Nat.le_of_ble_eq_true rfl) (ys:=[(T,true),(T1,false),(l,false),(T.map (fun x=>x.fdiv 2),false)].map j0) rfl fun st7 e7 U7=>?_⟩
  refine k _ p _ hp e7 (Nat.le_of_ble_eq_true rfl) (fun c hc=>?_) ((B6.cell (U7.same _ (Ne.symm hpn))).mono (by omega)) (X6.Eh U7 hp)
  rcases List.mem_append.mp (show c∈[(T,true),(T1,false),(l,false)]++[(T.map (fun x=>x.fdiv 2),false)]from hc)with h|h
  · exact call c h
  · rw[List.mem_singleton.mp h]
    refine⟨by rw[List.length_map];exact lT,fun x hx=>?_,fun z=>by cases z⟩
    obtain⟨y,hy,rfl⟩:=List.mem_map.mp hx
    exact up62 (Nat.le_trans (Mx.kl y (by decide)) (bT2 y hy))
noncomputable def jM:cD:=fun ds st K=>∃(A:List (List Int)) (r:List Int) (N w:Nat) (x:D),ds=[x]∧Fl A N w r∧yI A N w r x∧K (.bl true) st
noncomputable def h_:List Str:=["_law_found"]
noncomputable def tZ:DS:=(aF (dz (jY (ib (a5 (bw gF (af (ae 0) (af (dC (.ty "tuple")) ak))))) (ib (a5 (bw gF (af (au aT (ae 0) (dC (.int 1))) (af (dC (.ty "tuple")) ak)))))) (bD (dC (.bl false))) cN)
 (bD (Dt (au iw (au aT (ae 0) (dC (.int 0))) (dC (.str "told"))) (bw nX (af (c5 (dA (au aT (ae 0) (dC (.int 1)))) [none] (bL 0) cq (bw gF (af (ae 0) (af (dC (.ty "tuple")) ak)))) ak)))))
theorem tu:∀ds st K,jM ds st K→ds.length=1∧tZ {nx:=fun _ st'=>K .aG st',rt:=K} (a7 h_ ds) st:=by
 rintro ds st K ⟨A,r,N,w,x,rfl,⟨hA,n1,n8,w8,bA,lr,br⟩,hS,k⟩
 refine⟨rfl,?_⟩
 rcases hS with⟨W,rfl,lW,hs⟩|⟨ps,rfl,lp,hP,hw,hn⟩
 · refine j6 rfl (by decide) ?_
   refine az rfl rfl (j6 rfl (by decide) ?_)
   exact az rfl rfl (pL rfl rfl k)
 · refine j6 rfl (by decide) ?_
   refine az rfl rfl (j6 rfl (by decide) ?_)
   refine az rfl rfl (pL rfl rfl ?_)
   refine az rfl rfl (e8 ⟨b_ (by rw[List.length_map];omega),?_⟩)
   refine comp_map (g:=fun _=> .bl true) trivial _ (fun d hd K' q=>?_) ?_
   · obtain⟨p,_,rfl⟩:=List.mem_map.mp hd
     exact⟨_,rfl,j6 rfl (by decide) q⟩
   refine uD (rh (ps.map fH)) ?_
   rw[Aq]
   exact k
noncomputable abbrev Fs:cD:=BU HY
noncomputable def wj:List Str:=["_law_script","_law_hand_here","_law_rows_here","_law_row","_law_built","_law_found","_law_handed","_law_again"]
noncomputable def LP:DS:=(aF (a8 1 (aM oW (af (ae 0) ak)))
 (aF (a8 2 (aM jU (af (ae 1) (af (dC (.int 8)) ak))))
 (aF (iA (dA (aM oa (af (ae 1) (af (ae 2) ak)))) (fz 3 4) (aF (a8 5 (aM o_ (af (ae 2) (af (ae 3) ak))))
 (aF (dz (jY (ib (a5 (aM n_ (af (ae 2) (af (ae 3) (af (ae 5) ak)))))) (jY (ib (a5 (aM jM (af (ae 5) ak)))) (nH (a5 (ae 4)) (a5 (au o9 (au aT (ae 5) (dC (.int 0))) (dC (.str "told"))))))) (bD (dC (.bl false))) cN)
 (aF (a8 6 (nc (af (c5 (dA (ae 2)) [none] (bL 0) cq (bw hO (af (ae 0) ak))) (af (bw hO (af (ae 3) ak)) ak))))
 (aF (a8 7 (aM o_ (af (au aT (ae 6) (dC (.int 0))) (af (au aT (ae 6) (dC (.int 1))) ak))))
 (dz (jY (a5 (au o9 (ae 7) (ae 5))) (a5 (au o9 (ae 6) (nc (af (c5 (dA (ae 2)) [none] (bL 0) cq (bw hO (af (ae 0) ak))) (af (bw hO (af (ae 3) ak)) ak)))))) (bD (dC (.bl false))) cN))))))
 (bD (dC (.bl true))))))
theorem yI.told{A:List (List Int)}{N w:Nat}{r:List Int}{x:D}(h:yI A N w r x)(hL:Mx.iX A N w fun q=>r.getD q 0):∃y,x= .tup [.str "told",y]:=by
 rcases h with⟨W,rfl,_⟩|⟨ps,rfl,_,_,hw,hn⟩
 · exact⟨_,rfl⟩
 · obtain⟨z,hz⟩:=hL
   refine absurd ?_ hn
   rw[Mx.sP hz,Mx.xm]
   exact Mx.Ao fun i hi=>(hw i hi).mul _
theorem Ia{n:Nat}:∀ {ps:List Rat},(ps.map fH).all (pl (n+1))=true:=fun{ps}=>by
 refine List.all_eq_true.mpr fun d hd=>?_
 obtain⟨p,_,rfl⟩:=List.mem_map.mp hd
 unfold pl
 exact oB (r:=[p.num,((p.den:Nat):Int)])
theorem yI.pl{A:List (List Int)}{N w:Nat}{r:List Int}{x:D}(h:yI A N w r x):L3.pl 40 x=true:=by
 rcases h with⟨W,rfl,_⟩|⟨ps,rfl,_⟩
 · have:=F6 (n:=38) (r:=W)
   unfold L3.pl
   rw[List.all_cons,List.all_cons,this];rfl
 · have:=Ia (n:=37) (ps:=ps)
   have t:L3.pl 39 (.tup (ps.map fH))=true:=by unfold L3.pl;exact this
   unfold L3.pl
   rw[List.all_cons,List.all_cons,t];rfl
theorem A7{A:List (List Int)}{r:List Int}:pl 40 (.lst [.lst (A.map aY),.lst (aA r)])=true:=by
 unfold pl
 refine List.all_eq_true.mpr fun d hd=>?_
 rcases List.mem_cons.mp hd with rfl|hd
 · exact Es
 · rw[List.mem_singleton.mp hd]
   unfold pl
   exact oB
theorem HH:∀ds st K,Fs ds st K→ds.length=1∧LP {nx:=fun _ st'=>K .aG st',rt:=K} (a7 wj ds) st:=by
 rintro ds st K ⟨ns,rfl,hl,hst,k⟩
 refine⟨rfl,?_⟩
 have l0:st.length=1:=by rw[hst];rfl
 have t0:st[0]?=some (fT false):=by rw[hst];rfl
 clear hst
 refine⟨ns,rfl,hl,fun st1 B1 X1=>?_⟩
 refine⟨_,_,8,rfl,B1,by decide,by decide,by decide,fun N w A st2 N1 N8 w1 w8 hA hb B2 X2=>?_⟩
 have bA:∀r∈A,∀x∈r,x.natAbs≤2^48:=fun r hr x hx=>Nat.le_trans (hb r hr x hx) (by decide)
 have t1:st1[0]?=some (fT false):=by rw[X1.same 0 (by omega)];exact t0
 have l1:=X1.len
 have l2:=X2.len
 have t2:st2[0]?=some (fT false):=by rw[X2.same 0 (by omega) (by omega)];exact t1
 refine⟨_,_,A,N,w,rfl,B2,by decide,hA,N1,N8,w1,w8,bA,fun st3 p cs hp e3 hc hcs B3 X3=>?_⟩
 have t3:st3[0]?=some (fT false):=by rw[X3.same 0 (by omega) (by omega)];exact t2
 have p0:p≠0:=by omega
 have hAl:A.length≤1000:=by rw[hA.len];omega
 clear B1 X1 B2 X2 B3 X3 t0 t1 t2 hb hp l1 l2
 refine Gy (aH e3) fun ok aI=>?_
 refine fE (fun rest σ st'=>∃(cs':List (List Int×Bool)) (f:Bool) (v3 v4 v5 v6 v7:Option D),rest=cs'.map j0∧(∀c∈cs',c∈cs)∧σ=[some (.lst (ns.map .int)),some (.ref st.length),some (dW A),v3,v4,v5,v6,v7]∧st'[p]?=some (.lst (cs.map j0))∧st'[0]?=some (fT f)) ?_ ?_ _ _ _ ⟨cs,false,none,none,none,none,none,rfl,fun _ h=>h,rfl,e3,t3⟩
 · rintro σ st' ⟨cs',f,v3,v4,v5,v6,v7,_,_,rfl,e',_⟩
   exact⟨aI _ (aH e'),k _⟩
 · rintro d rest σ st' ⟨cs',f,v3,v4,v5,v6,v7,hr,hm,rfl,e',t'⟩ next
   match cs',hr,hm with
   |(r,bt)::cs',hr,hm=>
    rw[List.map_cons,List.cons.injEq]at hr
    obtain⟨rfl,rfl⟩:=hr
    obtain⟨lr,br,Mf⟩:=hcs _ (hm _ List.mem_cons_self)
    have P:Fl A N w r:=⟨hA,N1,N8,w8,bA,lr,br⟩
    refine⟨aI _ (aH e'),_,rfl,?_⟩
    refine⟨_,_,A,r,N,w,f,rfl,zR,rfl,P,t',fun st4 x K4 hR hS=>?_⟩
    obtain⟨f4,t4⟩:=K4.tb
    have e4:=(K4.fr p (List.getElem?_eq_some_iff.mp e').1 p0).trans e'
    dsimp only
    refine fD (fun σ' st5=>σ'=[some (.lst (ns.map .int)),some (.ref st.length),some (dW A),some (bz r),some (.bl bt),some x,v6,v7]∧st5=st4) (fun nx hnx=>?_) ?_
    · refine⟨A,r,N,w,x,rfl,P,hS,?_⟩
      refine⟨A,r,N,w,x,rfl,P,hS,?_⟩
      cases bt with
      |false=>exact hnx _ _ ⟨rfl,rfl⟩
      |true=>
       obtain⟨y,rfl⟩:=hS.told (Mf rfl)
       exact az rfl rfl (yM rfl rfl (hnx _ _ ⟨rfl,rfl⟩))
    rintro _ _ ⟨rfl,rfl⟩
    refine e8 ⟨b_ (by rw[List.length_map];exact hAl),?_⟩
    refine iS aY trivial cx.tup (fun d q _ he K' t=>⟨_,rfl,gO he t⟩) ?_
    dsimp only[af,bw,ak]
    refine xq (d:=bz r) rfl ?_
    refine gO (xs:=aA r) rfl ⟨Nat.le_of_ble_eq_true rfl,?_⟩
    refine az rfl (show dM [D.lst (A.map aY),D.lst (aA r)] 0=some (.lst (A.map aY))from rfl) ?_
    refine az rfl (show dM [D.lst (A.map aY),D.lst (aA r)] 1=some (.lst (aA r))from rfl) ?_
    refine⟨_,_,A,r,N,w,f4,rfl,⟨_,rfl,cx.lst⟩,rfl,P,t4,fun st6 x2 K6 hR2 hS2=>?_⟩
    obtain⟨f6,t6⟩:=K6.tb
    have e6:=(K6.fr p (List.getElem?_eq_some_iff.mp e4).1 p0).trans e4
    have hx:x2=x:=hR2.unique hR
    subst hx
    refine yt hS.pl ?_
    refine e8 ⟨b_ (by rw[List.length_map];exact hAl),?_⟩
    refine iS aY trivial cx.tup (fun d q _ he K' t=>⟨_,rfl,gO he t⟩) ?_
    dsimp only[af,bw,ak]
    refine xq (d:=bz r) rfl ?_
    refine gO (xs:=aA r) rfl ⟨Nat.le_of_ble_eq_true rfl,?_⟩
    refine yt A7 ?_
    exact next _ _ ⟨cs',f6,_,_,_,_,_,rfl,fun c hc=>hm c (List.mem_cons_of_mem _ hc),rfl,e6,t6⟩
end Prog
namespace Row
open PySem L2 L3 Prog
open PySem.Spec hiding items?
open PyProof.Rows hiding St
theorem mO:(("abs":Str))≠"__name__":=by decide+kernel
theorem cC:(("tuple":Str))≠"__name__":=by decide+kernel
theorem eZ:(("list":Str))≠"__name__":=by decide+kernel
theorem du:(("len":Str))≠"__name__":=by decide+kernel
theorem cW:(("isinstance":Str))≠"__name__":=by decide+kernel
theorem yg:(("int":Str))≠"__name__":=by decide+kernel
theorem zt:(("bool":Str))≠"__name__":=by decide+kernel
theorem qt:(("all":Str))≠"__name__":=by decide+kernel
theorem IV:(("str":Str))≠"__name__":=by decide+kernel
theorem IL:(("sum":Str))≠"__name__":=by decide+kernel
theorem Cz:(("max":Str))≠"__name__":=by decide+kernel
structure Bl(mg:Str→Option Value):Prop where
 pq:mg "abs"=none
 cQ:mg "tuple"=none
 pe:mg "zip"=none
 gR:mg "range"=none
 sj:mg "enumerate"=none
 fO:mg "list"=none
 eC:mg "len"=none
 D_:mg "sorted"=none
 dh:mg "isinstance"=none
 AV:mg "int"=none
 Bd:mg "bool"=none
 uy:mg "all"=none
 KU:mg "str"=none
 LV:mg "sum"=none
 EX:mg "max"=none
structure Kl(K:PySem.W.Frag)(mg:Str→Option Value):Prop where
 aX:ClsAt K mg "Bench" aE
 bX:fK K aE "body"
 ef:fK K aE "turn"
 cn:fK K aE "back_columns"
theorem dg:VS (ai kv) pF ["abs"]:=⟨by decide+kernel⟩
theorem jA:aS pF ["one","other"] (ai kv):=⟨rfl,rfl,rfl,by decide+kernel,rfl,by decide+kernel,by decide+kernel⟩
theorem gM:VS (ai ou) tU ["common"]:=⟨by decide+kernel⟩
theorem kn:aS tU ["top","bottom"] (ai ou):=⟨rfl,rfl,rfl,by decide+kernel,rfl,by decide+kernel,by decide+kernel⟩
theorem lj:VS (ai oO) ui ["part"]:=⟨by decide+kernel⟩
theorem Gs:aS ui ["one","other"] (ai oO):=⟨rfl,rfl,rfl,by decide+kernel,rfl,by decide+kernel,by decide+kernel⟩
theorem jB:VS (ai mB) rG ["part"]:=⟨by decide+kernel⟩
theorem Dz:aS rG ["one","other"] (ai mB):=⟨rfl,rfl,rfl,by decide+kernel,rfl,by decide+kernel,by decide+kernel⟩
theorem mD:VS (ai my) rK ["part"]:=⟨by decide+kernel⟩
theorem Ek:aS rK ["one","other"] (ai my):=⟨rfl,rfl,rfl,by decide+kernel,rfl,by decide+kernel,by decide+kernel⟩
theorem oq:VS (ai oJ) uw ["part"]:=⟨by decide+kernel⟩
theorem GL:aS uw ["one","other"] (ai oJ):=⟨rfl,rfl,rfl,by decide+kernel,rfl,by decide+kernel,by decide+kernel⟩
theorem G0:VS (ai mE) rP []:=⟨by decide+kernel⟩
theorem Dx:aS rP ["n"] (ai mE):=⟨rfl,rfl,rfl,by decide+kernel,rfl,by decide+kernel,by decide+kernel⟩
theorem p_:VS (ai ig) nC ["tuple"]:=⟨by decide+kernel⟩
theorem An:aS nC ["rows"] (ai ig):=⟨rfl,rfl,rfl,by decide+kernel,rfl,by decide+kernel,by decide+kernel⟩
theorem uZ:VS (ai ke) rm ["zip"]:=⟨by decide+kernel⟩
theorem Du:aS rm ["row","times","other"] (ai ke):=⟨rfl,rfl,rfl,by decide+kernel,rfl,by decide+kernel,by decide+kernel⟩
theorem d7:VS (ai kr) o6 ["zip","added","tuple"]:=⟨by decide+kernel⟩
theorem nE:aS o6 ["weights","rows","wide"] (ai kr):=⟨rfl,rfl,rfl,by decide+kernel,rfl,by decide+kernel,by decide+kernel⟩
theorem tL:VS (ai jq) pv ["tuple"]:=⟨by decide+kernel⟩
theorem Cb:aS pv ["rows","place"] (ai jq):=⟨rfl,rfl,rfl,by decide+kernel,rfl,by decide+kernel,by decide+kernel⟩
theorem jb:VS (ai e_) jh ["range","tuple"]:=⟨by decide+kernel⟩
theorem uR:aS jh ["rows","wide"] (ai e_):=⟨rfl,rfl,rfl,by decide+kernel,rfl,by decide+kernel,by decide+kernel⟩
theorem l6:VS (ai gG) mh ["range","tuple"]:=⟨by decide+kernel⟩
theorem zf:aS mh ["n","place"] (ai gG):=⟨rfl,rfl,rfl,by decide+kernel,rfl,by decide+kernel,by decide+kernel⟩
theorem kL:VS (ai fU) kY ["range","tuple"]:=⟨by decide+kernel⟩
theorem xn:aS kY ["n"] (ai fU):=⟨rfl,rfl,rfl,by decide+kernel,rfl,by decide+kernel,by decide+kernel⟩
theorem nL:VS (ai jy) nI ["enumerate"]:=⟨by decide+kernel⟩
theorem tN:aS nI ["row"] (ai jy):=⟨rfl,rfl,rfl,by decide+kernel,rfl,by decide+kernel,by decide+kernel⟩
theorem iB:VS (ai dR) fI []:=⟨by decide+kernel⟩
theorem g6:aS fI ["top","bottom"] (ai dR):=⟨rfl,rfl,rfl,by decide+kernel,rfl,by decide+kernel,by decide+kernel⟩
theorem c6:VS (ai g4) kJ ["list"]:=⟨by decide+kernel⟩
theorem qQ:aS kJ ["rows","k","other"] (ai g4):=⟨rfl,rfl,rfl,by decide+kernel,rfl,by decide+kernel,by decide+kernel⟩
theorem Be:VS (ai ik) nB []:=⟨by decide+kernel⟩
theorem Ak:aS nB ["row"] (ai ik):=⟨rfl,rfl,rfl,by decide+kernel,rfl,by decide+kernel,by decide+kernel⟩
theorem bE:VS (ai cS) gD ["len","unit_rows"]:=⟨by decide+kernel⟩
theorem rW:aS gD ["self","rows"] (ai cS):=⟨rfl,rfl,rfl,by decide+kernel,rfl,by decide+kernel,by decide+kernel⟩
theorem aW:VS (ai gb) j9 ["added"]:=⟨by decide+kernel⟩
theorem vY:aS j9 ["self","k","times","other"] (ai gb):=⟨rfl,rfl,rfl,by decide+kernel,rfl,by decide+kernel,by decide+kernel⟩
theorem a9:VS (ai eL) gJ ["exchanged"]:=⟨by decide+kernel⟩
theorem rT:aS gJ ["self","k","other"] (ai eL):=⟨rfl,rfl,rfl,by decide+kernel,rfl,by decide+kernel,by decide+kernel⟩
theorem aR:VS (ai dD) fw ["negated"]:=⟨by decide+kernel⟩
theorem oX:aS fw ["self","k"] (ai dD):=⟨rfl,rfl,rfl,by decide+kernel,rfl,by decide+kernel,by decide+kernel⟩
theorem c9:VS (ai c8) fZ ["len","range","sorted"]:=⟨by decide+kernel⟩
theorem lB:aS fZ ["self","top","place"] (ai c8):=⟨rfl,rfl,rfl,by decide+kernel,rfl,by decide+kernel,by decide+kernel⟩
theorem aD:VS (ai fo) iM ["len","nearest_quotient"]:=⟨by decide+kernel⟩
theorem fJ:aS iM ["self","top","place"] (ai fo):=⟨rfl,rfl,rfl,by decide+kernel,rfl,by decide+kernel,by decide+kernel⟩
theorem bN:VS (ai dB) fx ["range"]:=⟨by decide+kernel⟩
theorem fm:aS fx ["self","top","place"] (ai dB):=⟨rfl,rfl,rfl,by decide+kernel,rfl,by decide+kernel,by decide+kernel⟩
theorem a6:VS (ai iK) lV ["Bench","len","range","turned_over","as_rows"]:=⟨by decide+kernel⟩
theorem g0:aS lV ["rows"] (ai iK):=⟨rfl,rfl,rfl,by decide+kernel,rfl,by decide+kernel,by decide+kernel⟩
theorem bh:VS (ai jD) nt ["list","lead_of","added","tuple"]:=⟨by decide+kernel⟩
theorem gB:aS nt ["form","row"] (ai jD):=⟨rfl,rfl,rfl,by decide+kernel,rfl,by decide+kernel,by decide+kernel⟩
theorem cu:VS (ai gQ) kZ ["whole","zip","times","plus"]:=⟨by decide+kernel⟩
theorem j4:aS kZ ["parts","row"] (ai gQ):=⟨rfl,rfl,rfl,by decide+kernel,rfl,by decide+kernel,by decide+kernel⟩
theorem dF:VS (ai g5) kP ["lead_of","abs"]:=⟨by decide+kernel⟩
theorem qP:aS kP ["form","rest","place"] (ai g5):=⟨rfl,rfl,rfl,by decide+kernel,rfl,by decide+kernel,by decide+kernel⟩
theorem aw:VS (ai e9) ia ["lead_of","whole","len","bottom_at","part","range","parts_dot","minus","over","tuple"]:=⟨by decide+kernel⟩
theorem eK:aS ia ["form","rest"] (ai e9):=⟨rfl,rfl,rfl,by decide+kernel,rfl,by decide+kernel,by decide+kernel⟩
theorem bI:VS (ai ki) pd ["standing","weighed","lead_of","parts_against","len","sum_by"]:=⟨by decide+kernel⟩
theorem nr:aS pd ["rows","row"] (ai ki):=⟨rfl,rfl,rfl,by decide+kernel,rfl,by decide+kernel,by decide+kernel⟩
theorem Au:VS (ai gI) l_ []:=⟨by decide+kernel⟩
theorem zg:aS l_ ["_law_script"] (ai gI):=⟨rfl,rfl,rfl,by decide+kernel,rfl,by decide+kernel,by decide+kernel⟩
theorem aL:VS (ai iJ) l7 ["len"]:=⟨by decide+kernel⟩
theorem fR:aS l7 ["_law_hand_here","_law_many"] (ai iJ):=⟨rfl,rfl,rfl,by decide+kernel,rfl,by decide+kernel,by decide+kernel⟩
theorem bJ:VS (ai gh) jT ["_law_draw"]:=⟨by decide+kernel⟩
theorem pM:aS jT ["_law_hand_here","_law_kind"] (ai gh):=⟨rfl,rfl,rfl,by decide+kernel,rfl,by decide+kernel,by decide+kernel⟩
theorem aN:VS (ai fk) md ["range","_law_draw","list","zip","tuple"]:=⟨by decide+kernel⟩
theorem eO:aS md ["_law_hand_here","_law_many","_law_wide","_law_kind"] (ai fk):=⟨rfl,rfl,rfl,by decide+kernel,rfl,by decide+kernel,by decide+kernel⟩
theorem cH:VS (ai gX) kO ["_law_draw"]:=⟨by decide+kernel⟩
theorem yl:aS kO ["_law_hand_here"] (ai gX):=⟨rfl,rfl,rfl,by decide+kernel,rfl,by decide+kernel,by decide+kernel⟩
theorem cw:VS (ai eV) h8 ["_law_sizes","_law_draw","_law_rows"]:=⟨by decide+kernel⟩
theorem m_:aS h8 ["_law_hand_here","_law_kinds"] (ai eV):=⟨rfl,rfl,rfl,by decide+kernel,rfl,by decide+kernel,by decide+kernel⟩
theorem cY:VS (ai dO) jX ["abs"]:=⟨by decide+kernel⟩
theorem fe:aS jX ["_law_top","_law_bottom"] (ai dO):=⟨rfl,rfl,rfl,by decide+kernel,rfl,by decide+kernel,by decide+kernel⟩
theorem bg:VS (ai ff) jf ["list","tuple","isinstance","len","all","_law_lowest"]:=⟨by decide+kernel⟩
theorem u5:aS jf ["_law_found"] (ai ff):=⟨rfl,rfl,rfl,by decide+kernel,rfl,by decide+kernel,by decide+kernel⟩
theorem cz:VS (ai gT) kW ["zip"]:=⟨by decide+kernel⟩
theorem gj:aS kW ["_law_parts","_law_row"] (ai gT):=⟨rfl,rfl,rfl,by decide+kernel,rfl,by decide+kernel,by decide+kernel⟩
theorem ax:VS (ai eP) kT ["list","tuple","isinstance","len","str","all","range","_law_worth"]:=⟨by decide+kernel⟩
theorem gu:aS kT ["_law_rows_here","_law_row","_law_found"] (ai eP):=⟨rfl,rfl,rfl,by decide+kernel,rfl,by decide+kernel,by decide+kernel⟩
theorem ay:VS (ai dG) kQ ["len","max","enumerate","_law_draw","zip","tuple","int","all"]:=⟨by decide+kernel⟩
theorem cZ:aS kQ ["_law_hand_here","_law_rows_here"] (ai dG):=⟨rfl,rfl,rfl,by decide+kernel,rfl,by decide+kernel,by decide+kernel⟩
theorem bQ:VS (ai d6) h_ ["tuple","isinstance","all"]:=⟨by decide+kernel⟩
theorem sI:aS h_ ["_law_found"] (ai d6):=⟨rfl,rfl,rfl,by decide+kernel,rfl,by decide+kernel,by decide+kernel⟩
theorem bO:VS (ai kR) wj ["_law_hand","_law_some_rows","_law_cases","inside","_law_shown","_law_told_well","list"]:=⟨by decide+kernel⟩
theorem mV:aS wj ["_law_script"] (ai kR):=⟨rfl,rfl,rfl,by decide+kernel,rfl,by decide+kernel,by decide+kernel⟩
structure Ev(w:World)(mg:Str→Option Value)(h:Heap):Prop where
 X:(KX w.params).In h
 G:h.Ns mainGlobals mg
section
variable {w:World}{mg:Str→Option Value}{h base:Heap}(e:Ev w mg h)
include e
theorem Bt:Bl mg:=⟨PySem.W.mg_none_of e.X e.G (by kernel_rfl),PySem.W.mg_none_of e.X e.G (by kernel_rfl),PySem.W.mg_none_of e.X e.G (by kernel_rfl),PySem.W.mg_none_of e.X e.G (by kernel_rfl),PySem.W.mg_none_of e.X e.G (by kernel_rfl),PySem.W.mg_none_of e.X e.G (by kernel_rfl),PySem.W.mg_none_of e.X e.G (by kernel_rfl),PySem.W.mg_none_of e.X e.G (by kernel_rfl),PySem.W.mg_none_of e.X e.G (by kernel_rfl),PySem.W.mg_none_of e.X e.G (by kernel_rfl),PySem.W.mg_none_of e.X e.G (by kernel_rfl),PySem.W.mg_none_of e.X e.G (by kernel_rfl),PySem.W.mg_none_of e.X e.G (by kernel_rfl),PySem.W.mg_none_of e.X e.G (by kernel_rfl),PySem.W.mg_none_of e.X e.G (by kernel_rfl)⟩
theorem Qt:Kl (KX w.params) mg:=⟨⟨⟨by kernel_rfl,by kernel_rfl,by kernel_rfl,by kernel_rfl⟩,PySem.W.mg_of e.X e.G (by kernel_rfl),by kernel_rfl,by kernel_rfl⟩,Hd.na (by kernel_rfl),Hd.na (by kernel_rfl),Hd.na (by kernel_rfl)⟩
theorem xD:bS (KX w.params) mg "common" "common" kv ["one","other"] 21 (Hd.fd kv "common" "common" i5 20):=Hd.jr e.X e.G (by kernel_rfl) fun _ _ _ _ _ _ _ _=>rfl
theorem D6:bo PW w (KX w.params) mg base cE 1 21 (Hd.fd kv "common" "common" i5 20) ["one","other"] (cJ s_):=by
 have B:=Bt e
 have Q:=Qt e
 exact bW (N:=pF) (xD e).fn jA (fun cdv A outer s H E hr=>(av (aO jA.nd (dg.l 2) (cv pG (aa (dg.nm 0) aj) B.pq rfl mO (dg.d 0) (dg.g 0)))
  (av (aO jA.nd (dg.l 3) (cv pG (aa (dg.nm 1) aj) B.pq rfl mO (dg.d 0) (dg.g 0)))
  (av (tI (bV pk (bc _) (dg.nm 3) ao) (av (aO jA.nd (dg.l 4) (aQ iR (dg.nm 2) (dg.nm 3)))
  (av (aO jA.nd (dg.l 2) (dg.nm 3))
  (aB (aO jA.nd (dg.l 3) (dg.nm 4))))))
  (aB (aV (dg.nm 2))))))) CU
theorem ow:bS (KX w.params) mg "part" "part" ou ["top","bottom"] 28 (Hd.fd ou "part" "part" i5 27):=Hd.jr e.X e.G (by kernel_rfl) fun _ _ _ _ _ _ _ _=>rfl
theorem qC:bo PW w (KX w.params) mg base cE 2 28 (Hd.fd ou "part" "part" i5 27) ["top","bottom"] (cJ nh):=by
 have B:=Bt e
 have Q:=Qt e
 exact bW (N:=tU) (ow e).fn kn (fun cdv A outer s H E hr=>(av (aO kn.nd (gM.l 2) (a_ (xD e) (D6 e) (hr.mono (by decide)) (aa (gM.nm 0) (aa (gM.nm 1) aj)) (gM.d 0) (gM.g 0)))
  (av (cV (bV xJ (bc _) (gM.nm 1) ao) (aB (aO kn.nd (gM.l 2) (jG (gM.nm 2)))) cB)
  (aB (aV (fy (aa (aQ (mx hr rfl kn.gen kn.co) (gM.nm 0) (gM.nm 2)) (aa (aQ (mx hr rfl kn.gen kn.co) (gM.nm 1) (gM.nm 2)) aj)))))))) GA
theorem Ce:bS (KX w.params) mg "plus" "plus" oO ["one","other"] 35 (Hd.fd oO "plus" "plus" i5 34):=Hd.jr e.X e.G (by kernel_rfl) fun _ _ _ _ _ _ _ _=>rfl
theorem Jh:bo PW w (KX w.params) mg base cE 3 35 (Hd.fd oO "plus" "plus" i5 34) ["one","other"] (cJ yH):=by
 have B:=Bt e
 have Q:=Qt e
 exact bW (N:=ui) (Ce e).fn Gs (fun cdv A outer s H E hr=>(aB (aV (a_ (ow e) (qC e) (hr.mono (by decide)) (aa (aQ eF (aQ cU (aK (lj.nm 0) ao) (aK (lj.nm 1) ao)) (aQ cU (aK (lj.nm 1) ao) (aK (lj.nm 0) ao))) (aa (aQ cU (aK (lj.nm 0) ao) (aK (lj.nm 1) ao)) aj)) (lj.d 0) (lj.g 0))))) Gg
theorem zE:bS (KX w.params) mg "minus" "minus" mB ["one","other"] 42 (Hd.fd mB "minus" "minus" i5 41):=Hd.jr e.X e.G (by kernel_rfl) fun _ _ _ _ _ _ _ _=>rfl
theorem Gr:bo PW w (KX w.params) mg base cE 3 42 (Hd.fd mB "minus" "minus" i5 41) ["one","other"] (cJ vb):=by
 have B:=Bt e
 have Q:=Qt e
 exact bW (N:=rG) (zE e).fn Dz (fun cdv A outer s H E hr=>(aB (aV (a_ (ow e) (qC e) (hr.mono (by decide)) (aa (aQ kU (aQ cU (aK (jB.nm 0) ao) (aK (jB.nm 1) ao)) (aQ cU (aK (jB.nm 1) ao) (aK (jB.nm 0) ao))) (aa (aQ cU (aK (jB.nm 0) ao) (aK (jB.nm 1) ao)) aj)) (jB.d 0) (jB.g 0))))) Dq
theorem zo:bS (KX w.params) mg "times" "times" my ["one","other"] 49 (Hd.fd my "times" "times" i5 48):=Hd.jr e.X e.G (by kernel_rfl) fun _ _ _ _ _ _ _ _=>rfl
theorem FK:bo PW w (KX w.params) mg base cE 3 49 (Hd.fd my "times" "times" i5 48) ["one","other"] (cJ uQ):=by
 have B:=Bt e
 have Q:=Qt e
 exact bW (N:=rK) (zo e).fn Ek (fun cdv A outer s H E hr=>(aB (aV (a_ (ow e) (qC e) (hr.mono (by decide)) (aa (aQ cU (aK (mD.nm 0) ao) (aK (mD.nm 1) ao)) (aa (aQ cU (aK (mD.nm 0) ao) (aK (mD.nm 1) ao)) aj)) (mD.d 0) (mD.g 0))))) DG
theorem BN:bS (KX w.params) mg "over" "over" oJ ["one","other"] 56 (Hd.fd oJ "over" "over" i5 55):=Hd.jr e.X e.G (by kernel_rfl) fun _ _ _ _ _ _ _ _=>rfl
theorem Kc:bo PW w (KX w.params) mg base cE 3 56 (Hd.fd oJ "over" "over" i5 55) ["one","other"] (cJ xg):=by
 have B:=Bt e
 have Q:=Qt e
 exact bW (N:=uw) (BN e).fn GL (fun cdv A outer s H E hr=>(aB (aV (a_ (ow e) (qC e) (hr.mono (by decide)) (aa (aQ cU (aK (oq.nm 0) ao) (aK (oq.nm 1) ao)) (aa (aQ cU (aK (oq.nm 0) ao) (aK (oq.nm 1) ao)) aj)) (oq.d 0) (oq.g 0))))) FZ
theorem mn:bS (KX w.params) mg "whole" "whole" mE ["n"] 63 (Hd.fd mE "whole" "whole" i5 62):=Hd.qj e.X e.G (by kernel_rfl) fun _ _ _ _ _ _ _=>rfl
theorem oE:bo PW w (KX w.params) mg base cE 1 63 (Hd.fd mE "whole" "whole" i5 62) ["n"] (cJ kh):=by
 have B:=Bt e
 have Q:=Qt e
 exact bW (N:=rP) (mn e).fn Dx (fun cdv A outer s H E hr=>(aB (aV (fy (aa (G0.nm 0) (aa ao aj)))))) Ew
theorem qE:bS (KX w.params) mg "as_rows" "as_rows" ig ["rows"] 68 (Hd.fd ig "as_rows" "as_rows" i6 67):=Hd.qj e.X e.G (by kernel_rfl) fun _ _ _ _ _ _ _=>rfl
theorem vn:bo PW w (KX w.params) mg base cE 1 68 (Hd.fd ig "as_rows" "as_rows" i6 67) ["rows"] (cJ nq):=by
 have B:=Bt e
 have Q:=Qt e
 exact bW (N:=nC) (qE e).fn An (fun cdv A outer s H E hr=>(aB (aV (et eg (aa (dS (Nc:=["row"]) (ba.look (ai ig) ["rows"] (by decide+kernel)) (dZ (p_.nm 0)) (fun _ _ _ _=>(dH (show(["row"]:List Str).Nodup by decide+kernel) (by first|exact Or.inl rfl|exact Or.inr rfl) (by first|exact .inl rfl|exact .inr rfl))) (fun _ _ _ _=>ck) (fun _ _ _ _=>(et eg (aa c_ aj) B.cQ rfl cC (by decide+kernel) rfl)) cf) aj) B.cQ rfl cC (p_.d 0) (p_.g 0))))) AG
theorem mq:bS (KX w.params) mg "added" "added" ke ["row","times","other"] 73 (Hd.fd ke "added" "added" i6 72):=Hd.CS e.X e.G (by kernel_rfl) fun _ _ _ _ _ _ _ _ _=>rfl
theorem ox:bo PW w (KX w.params) mg base cE 1 73 (Hd.fd ke "added" "added" i6 72) ["row","times","other"] (cJ kB):=by
 have B:=Bt e
 have Q:=Qt e
 exact bW (N:=rm) (mq e).fn Du (fun cdv A outer s H E hr=>(aB (aV (dS (Nc:=["one","two","times"]) (ba.look (ai ke) ["row","times","other"] (by decide+kernel)) (pC (uZ.g 0) B.pe (aa (uZ.nm 0) (aa (uZ.nm 2) aj))) (fun _ _ _ _=>(iL rfl (show(["one","two","times"]:List Str).Nodup by decide+kernel) (by first|exact Or.inl rfl|exact Or.inr rfl) (by first|exact .inl rfl|exact .inr rfl) (by first|exact Or.inl rfl|exact Or.inr rfl) (by first|exact .inl rfl|exact .inr rfl))) (fun _ _ _ _=>ck) (fun _ _ _ _=>(aQ eF c_ (aQ cU c_ c_))) rJ)))) Et
theorem xN:bS (KX w.params) mg "sum_by" "sum_by" kr ["weights","rows","wide"] 80 (Hd.fd kr "sum_by" "sum_by" i6 79):=Hd.CS e.X e.G (by kernel_rfl) fun _ _ _ _ _ _ _ _ _=>rfl
theorem Dw:bo PW w (KX w.params) mg base cE 2 80 (Hd.fd kr "sum_by" "sum_by" i6 79) ["weights","rows","wide"] (cJ sS):=by
 have B:=Bt e
 have Q:=Qt e
 exact bW (N:=o6) (xN e).fn nE (fun cdv A outer s H E hr=>(av (aO nE.nd (d7.l 3) (aQ cU (lY (aa ao aj)) (d7.nm 2)))
  (av (gc (pC (d7.g 0) B.pe (aa (d7.nm 0) (aa (d7.nm 1) aj))) (iL rfl nE.nd (by first|exact Or.inl rfl|exact Or.inr rfl) (by first|exact .inl rfl|exact .inr rfl) (by first|exact Or.inl rfl|exact Or.inr rfl) (by first|exact .inl rfl|exact .inr rfl)) (aB (aO nE.nd (d7.l 3) (a_ (mq e) (ox e) (hr.mono (by decide)) (aa (d7.nm 3) (aa (d7.nm 4) (aa (d7.nm 5) aj))) (d7.d 1) (d7.g 1)))))
  (aB (aV (et eg (aa (d7.nm 3) aj) B.cQ rfl cC (d7.d 2) (d7.g 2))))))) CB
theorem xY:bS (KX w.params) mg "column" "column" jq ["rows","place"] 85 (Hd.fd jq "column" "column" i6 84):=Hd.jr e.X e.G (by kernel_rfl) fun _ _ _ _ _ _ _ _=>rfl
theorem D3:bo PW w (KX w.params) mg base cE 1 85 (Hd.fd jq "column" "column" i6 84) ["rows","place"] (cJ tF):=by
 have B:=Bt e
 have Q:=Qt e
 exact bW (N:=pv) (xY e).fn Cb (fun cdv A outer s H E hr=>(aB (aV (et eg (aa (dS (Nc:=["row","place"]) (ba.look (ai jq) ["rows","place"] (by decide+kernel)) (dZ (tL.nm 0)) (fun _ _ _ _=>(dH (show(["row","place"]:List Str).Nodup by decide+kernel) (by first|exact Or.inl rfl|exact Or.inr rfl) (by first|exact .inl rfl|exact .inr rfl))) (fun _ _ _ _=>ck) (fun _ _ _ _=>(aK c_ c_)) cf) aj) B.cQ rfl cC (tL.d 0) (tL.g 0))))) Bv
theorem pU:bS (KX w.params) mg "turned_over" "turned_over" e_ ["rows","wide"] 90 (Hd.fd e_ "turned_over" "turned_over" i6 89):=Hd.jr e.X e.G (by kernel_rfl) fun _ _ _ _ _ _ _ _=>rfl
theorem v9:bo PW w (KX w.params) mg base cE 2 90 (Hd.fd e_ "turned_over" "turned_over" i6 89) ["rows","wide"] (cJ lM):=by
 have B:=Bt e
 have Q:=Qt e
 exact bW (N:=jh) (pU e).fn uR (fun cdv A outer s H E hr=>(aB (aV (et eg (aa (dS (Nc:=["place","rows"]) (ba.look (ai e_) ["rows","wide"] (by decide+kernel)) (iG (jb.g 0) B.gR (aa (jb.nm 1) aj)) (fun _ _ _ _=>(dH (show(["place","rows"]:List Str).Nodup by decide+kernel) (by first|exact Or.inl rfl|exact Or.inr rfl) (by first|exact .inl rfl|exact .inr rfl))) (fun _ _ _ _=>ck) (fun _ _ _ _=>(a_ (xY e) (D3 e) (hr.mono (by decide)) (aa c_ (aa c_ aj)) (by decide+kernel) rfl)) cf) aj) B.cQ rfl cC (jb.d 1) (jb.g 1))))) uU
theorem uu:bS (KX w.params) mg "unit_row" "unit_row" gG ["n","place"] 95 (Hd.fd gG "unit_row" "unit_row" i6 94):=Hd.jr e.X e.G (by kernel_rfl) fun _ _ _ _ _ _ _ _=>rfl
theorem Ad:bo PW w (KX w.params) mg base cE 1 95 (Hd.fd gG "unit_row" "unit_row" i6 94) ["n","place"] (cJ oV):=by
 have B:=Bt e
 have Q:=Qt e
 exact bW (N:=mh) (uu e).fn zf (fun cdv A outer s H E hr=>(aB (aV (et eg (aa (dS (Nc:=["k","place"]) (ba.look (ai gG) ["n","place"] (by decide+kernel)) (iG (l6.g 0) B.gR (aa (l6.nm 0) aj)) (fun _ _ _ _=>(dH (show(["k","place"]:List Str).Nodup by decide+kernel) (by first|exact Or.inl rfl|exact Or.inr rfl) (by first|exact .inl rfl|exact .inr rfl))) (fun _ _ _ _=>ck) (fun _ _ _ _=>(KW (bV (jo hr) (bc _) c_ c_) ao ao)) cf) aj) B.cQ rfl cC (l6.d 1) (l6.g 1))))) yY
theorem nO:bS (KX w.params) mg "unit_rows" "unit_rows" fU ["n"] 100 (Hd.fd fU "unit_rows" "unit_rows" i6 99):=Hd.qj e.X e.G (by kernel_rfl) fun _ _ _ _ _ _ _=>rfl
theorem sq:bo PW w (KX w.params) mg base cE 2 100 (Hd.fd fU "unit_rows" "unit_rows" i6 99) ["n"] (cJ kX):=by
 have B:=Bt e
 have Q:=Qt e
 exact bW (N:=kY) (nO e).fn xn (fun cdv A outer s H E hr=>(aB (aV (et eg (aa (dS (Nc:=["place","n"]) (ba.look (ai fU) ["n"] (by decide+kernel)) (iG (kL.g 0) B.gR (aa (kL.nm 0) aj)) (fun _ _ _ _=>(dH (show(["place","n"]:List Str).Nodup by decide+kernel) (by first|exact Or.inl rfl|exact Or.inr rfl) (by first|exact .inl rfl|exact .inr rfl))) (fun _ _ _ _=>ck) (fun _ _ _ _=>(a_ (uu e) (Ad e) (hr.mono (by decide)) (aa c_ (aa c_ aj)) (by decide+kernel) rfl)) cf) aj) B.cQ rfl cC (kL.d 1) (kL.g 1))))) xt
theorem jv:bS (KX w.params) mg "lead_of" "lead_of" jy ["row"] 107 (Hd.fd jy "lead_of" "lead_of" d9 106):=Hd.qj e.X e.G (by kernel_rfl) fun _ _ _ _ _ _ _=>rfl
theorem ly:bo PW w (KX w.params) mg base cE 1 107 (Hd.fd jy "lead_of" "lead_of" d9 106) ["row"] (cJ iy):=by
 have B:=Bt e
 have Q:=Qt e
 exact bW (N:=nI) (jv e).fn tN (fun cdv A outer s H E hr=>(av (gc (BH (nL.g 0) B.sj (aa (nL.nm 0) aj)) (iL rfl tN.nd (by first|exact Or.inl rfl|exact Or.inr rfl) (by first|exact .inl rfl|exact .inr rfl) (by first|exact Or.inl rfl|exact Or.inr rfl) (by first|exact .inl rfl|exact .inr rfl)) (aB (cV (bV pk (bc _) (nL.nm 2) ao) (aB (aV (nL.nm 1))) cB)))
  (aB (aV EI)))) Ag
theorem la:bS (KX w.params) mg "nearest_quotient" "nearest_quotient" dR ["top","bottom"] 114 (Hd.fd dR "nearest_quotient" "nearest_quotient" d9 113):=Hd.jr e.X e.G (by kernel_rfl) fun _ _ _ _ _ _ _ _=>rfl
theorem qA:bo PW w (KX w.params) mg base cE 1 114 (Hd.fd dR "nearest_quotient" "nearest_quotient" d9 113) ["top","bottom"] (cJ il):=by
 have B:=Bt e
 have Q:=Qt e
 exact bW (N:=fI) (la e).fn g6 (fun cdv A outer s H E hr=>(aB (aV (aQ (mx hr rfl g6.gen g6.co) (aQ eF (aQ cU ao (iB.nm 0)) (iB.nm 1)) (aQ cU ao (iB.nm 1)))))) pY
theorem kM:bS (KX w.params) mg "exchanged" "exchanged" g4 ["rows","k","other"] 121 (Hd.fd g4 "exchanged" "exchanged" d9 120):=Hd.CS e.X e.G (by kernel_rfl) fun _ _ _ _ _ _ _ _ _=>rfl
theorem nV:bo PW w (KX w.params) mg base cE 1 121 (Hd.fd g4 "exchanged" "exchanged" d9 120) ["rows","k","other"] (cJ i4):=by
 have B:=Bt e
 have Q:=Qt e
 exact bW (N:=kJ) (kM e).fn qQ (fun cdv A outer s H E hr=>(av (aO qQ.nd (c6.l 3) (et F5 (aa (c6.nm 0) aj) B.fO rfl eZ (c6.d 0) (c6.g 0)))
  (av (d8 (aK (c6.nm 0) (c6.nm 2)) (c6.nm 3) (c6.nm 1))
  (av (d8 (aK (c6.nm 0) (c6.nm 1)) (c6.nm 3) (c6.nm 2))
  (aB (aV (c6.nm 3))))))) yj
theorem nF:bS (KX w.params) mg "negated" "negated" ik ["row"] 126 (Hd.fd ik "negated" "negated" d9 125):=Hd.qj e.X e.G (by kernel_rfl) fun _ _ _ _ _ _ _=>rfl
theorem qp:bo PW w (KX w.params) mg base cE 1 126 (Hd.fd ik "negated" "negated" d9 125) ["row"] (cJ lq):=by
 have B:=Bt e
 have Q:=Qt e
 exact bW (N:=nB) (nF e).fn Ak (fun cdv A outer s H E hr=>(aB (aV (dS (Nc:=["number"]) (ba.look (ai ik) ["row"] (by decide+kernel)) (dZ (Be.nm 0)) (fun _ _ _ _=>(dH (show(["number"]:List Str).Nodup by decide+kernel) (by first|exact Or.inl rfl|exact Or.inr rfl) (by first|exact .inl rfl|exact .inr rfl))) (fun _ _ _ _=>ck) (fun _ _ _ _=>(jG c_)) cf)))) AQ
theorem gy:MethAt (KX w.params) aE "__init__" "Bench.__init__" cS ["self","rows"] 138 (Hd.fd cS "__init__" "Bench.__init__" d9 137):=Hd.Mw (by kernel_rfl) fun _ _ _ _ _ _ _ _=>rfl
theorem sO:bo PW w (KX w.params) mg base cE 3 138 (Hd.fd cS "__init__" "Bench.__init__" d9 137) ["self","rows"] (cJ jn):=by
 have B:=Bt e
 have Q:=Qt e
 exact bW (N:=gD) (gy e).fn rW (fun cdv A outer s H E hr=>(av (mH Q.aX.cl Q.bX (bE.nm 0) (vd (Nc:=["row"]) (ba.look (ai cS) ["self","rows"] (by decide+kernel)) (dZ (bE.nm 1)) (fun _ _ _ _=>(dH (show(["row"]:List Str).Nodup by decide+kernel) (by first|exact Or.inl rfl|exact Or.inr rfl) (by first|exact .inl rfl|exact .inr rfl))) (fun _ _ _ _=>ck) (fun _ _ _ _=>(et i3 (aa c_ aj) B.fO rfl eZ (by decide+kernel) rfl)) cf))
  (av (mH Q.aX.cl Q.ef (bE.nm 0) (vd (Nc:=["row"]) (ba.look (ai cS) ["self","rows"] (by decide+kernel)) (dZ (a_ (nO e) (sq e) (hr.mono (by decide)) (aa (cv eG (aa (bE.nm 1) aj) B.eC rfl du (bE.d 0) (bE.g 0)) aj) (bE.d 1) (bE.g 1))) (fun _ _ _ _=>(dH (show(["row"]:List Str).Nodup by decide+kernel) (by first|exact Or.inl rfl|exact Or.inr rfl) (by first|exact .inl rfl|exact .inr rfl))) (fun _ _ _ _=>ck) (fun _ _ _ _=>(et i3 (aa c_ aj) B.fO rfl eZ (by decide+kernel) rfl)) cf))
  (aB (mH Q.aX.cl Q.cn (bE.nm 0) (vd (Nc:=["row"]) (ba.look (ai cS) ["self","rows"] (by decide+kernel)) (dZ (a_ (nO e) (sq e) (hr.mono (by decide)) (aa (cv eG (aa (bE.nm 1) aj) B.eC rfl du (bE.d 0) (bE.g 0)) aj) (bE.d 1) (bE.g 1))) (fun _ _ _ _=>(dH (show(["row"]:List Str).Nodup by decide+kernel) (by first|exact Or.inl rfl|exact Or.inr rfl) (by first|exact .inl rfl|exact .inr rfl))) (fun _ _ _ _=>ck) (fun _ _ _ _=>(et i3 (aa c_ aj) B.fO rfl eZ (by decide+kernel) rfl)) cf)))))) rV
theorem iF:MethAt (KX w.params) aE "take" "Bench.take" gb ["self","k","times","other"] 145 (Hd.fd gb "take" "Bench.take" d9 144):=Hd.NH (by kernel_rfl) fun _ _ _ _ _ _ _ _ _ _=>rfl
theorem qR:bo PW w (KX w.params) mg base cE 2 145 (Hd.fd gb "take" "Bench.take" d9 144) ["self","k","times","other"] (cJ jO):=by
 have B:=Bt e
 have Q:=Qt e
 exact bW (N:=j9) (iF e).fn vY (fun cdv A outer s H E hr=>(av (d8 (a_ (mq e) (ox e) (hr.mono (by decide)) (aa (aK (dc Q.aX.cl Q.bX (aW.nm 0)) (aW.nm 1)) (aa (jG (aW.nm 2)) (aa (aK (dc Q.aX.cl Q.bX (aW.nm 0)) (aW.nm 3)) aj))) (aW.d 0) (aW.g 0)) (dc Q.aX.cl Q.bX (aW.nm 0)) (aW.nm 1))
  (av (d8 (a_ (mq e) (ox e) (hr.mono (by decide)) (aa (aK (dc Q.aX.cl Q.ef (aW.nm 0)) (aW.nm 1)) (aa (jG (aW.nm 2)) (aa (aK (dc Q.aX.cl Q.ef (aW.nm 0)) (aW.nm 3)) aj))) (aW.d 0) (aW.g 0)) (dc Q.aX.cl Q.ef (aW.nm 0)) (aW.nm 1))
  (aB (d8 (a_ (mq e) (ox e) (hr.mono (by decide)) (aa (aK (dc Q.aX.cl Q.cn (aW.nm 0)) (aW.nm 3)) (aa (aW.nm 2) (aa (aK (dc Q.aX.cl Q.cn (aW.nm 0)) (aW.nm 1)) aj))) (aW.d 0) (aW.g 0)) (dc Q.aX.cl Q.cn (aW.nm 0)) (aW.nm 3)))))) v8
theorem jm:MethAt (KX w.params) aE "exchange" "Bench.exchange" eL ["self","k","other"] 152 (Hd.fd eL "exchange" "Bench.exchange" d9 151):=Hd.Fz (by kernel_rfl) fun _ _ _ _ _ _ _ _ _=>rfl
theorem tm:bo PW w (KX w.params) mg base cE 2 152 (Hd.fd eL "exchange" "Bench.exchange" d9 151) ["self","k","other"] (cJ jl):=by
 have B:=Bt e
 have Q:=Qt e
 exact bW (N:=gJ) (jm e).fn rT (fun cdv A outer s H E hr=>(av (mH Q.aX.cl Q.bX (a9.nm 0) (a_ (kM e) (nV e) (hr.mono (by decide)) (aa (dc Q.aX.cl Q.bX (a9.nm 0)) (aa (a9.nm 1) (aa (a9.nm 2) aj))) (a9.d 0) (a9.g 0)))
  (av (mH Q.aX.cl Q.ef (a9.nm 0) (a_ (kM e) (nV e) (hr.mono (by decide)) (aa (dc Q.aX.cl Q.ef (a9.nm 0)) (aa (a9.nm 1) (aa (a9.nm 2) aj))) (a9.d 0) (a9.g 0)))
  (aB (mH Q.aX.cl Q.cn (a9.nm 0) (a_ (kM e) (nV e) (hr.mono (by decide)) (aa (dc Q.aX.cl Q.cn (a9.nm 0)) (aa (a9.nm 1) (aa (a9.nm 2) aj))) (a9.d 0) (a9.g 0))))))) rX
theorem hJ:MethAt (KX w.params) aE "change_sign" "Bench.change_sign" dD ["self","k"] 159 (Hd.fd dD "change_sign" "Bench.change_sign" d9 158):=Hd.Mw (by kernel_rfl) fun _ _ _ _ _ _ _ _=>rfl
theorem pX:bo PW w (KX w.params) mg base cE 2 159 (Hd.fd dD "change_sign" "Bench.change_sign" d9 158) ["self","k"] (cJ g8):=by
 have B:=Bt e
 have Q:=Qt e
 exact bW (N:=fw) (hJ e).fn oX (fun cdv A outer s H E hr=>(av (d8 (a_ (nF e) (qp e) (hr.mono (by decide)) (aa (aK (dc Q.aX.cl Q.bX (aR.nm 0)) (aR.nm 1)) aj) (aR.d 0) (aR.g 0)) (dc Q.aX.cl Q.bX (aR.nm 0)) (aR.nm 1))
  (av (d8 (a_ (nF e) (qp e) (hr.mono (by decide)) (aa (aK (dc Q.aX.cl Q.ef (aR.nm 0)) (aR.nm 1)) aj) (aR.d 0) (aR.g 0)) (dc Q.aX.cl Q.ef (aR.nm 0)) (aR.nm 1))
  (aB (d8 (a_ (nF e) (qp e) (hr.mono (by decide)) (aa (aK (dc Q.aX.cl Q.cn (aR.nm 0)) (aR.nm 1)) aj) (aR.d 0) (aR.g 0)) (dc Q.aX.cl Q.cn (aR.nm 0)) (aR.nm 1)))))) pw
theorem fY:MethAt (KX w.params) aE "live_rows" "Bench.live_rows" c8 ["self","top","place"] 164 (Hd.fd c8 "live_rows" "Bench.live_rows" d9 163):=Hd.Fz (by kernel_rfl) fun _ _ _ _ _ _ _ _ _=>rfl
theorem lQ:bo PW w (KX w.params) mg base cE 3 164 (Hd.fd c8 "live_rows" "Bench.live_rows" d9 163) ["self","top","place"] (cJ fX):=by
 have B:=Bt e
 have Q:=Qt e
 have hC:PySem.W.codeHdIn (KX w.params) 163 161=true:=by kernel_rfl
 exact Hv (N:=fZ) (Hd.fc (by kernel_rfl)) lB (fun A outer s H E hr=>(av (mz lB.nd (c9.l 3) (Nc:=["k","self","place"]) (ba.look (ai c8) ["self","top","place","live"] (by decide+kernel)) (Dp (c9.g 1) B.gR (aa (c9.nm 1) (aa (cv eG (aa (dc Q.aX.cl Q.bX (c9.nm 0)) aj) B.eC rfl du (c9.d 0) (c9.g 0)) aj))) (fun _ _ _ _=>(dH (show(["k","self","place"]:List Str).Nodup by decide+kernel) (by first|exact Or.inl rfl|exact Or.inr rfl) (by first|exact .inl rfl|exact .inr rfl))) (fun _ _ _ _=>(JK (bV pk (bc _) (aK (aK (dc Q.aX.cl Q.bX c_) c_) c_) ao))) (fun _ _ _ _=>c_) cf)
  (aB (aV (F9 (c0:=163) (mj.look (Nc:=["k","self","place"]) (fr:=[none,some 0,some 2]) (p:="k") (ba.look (ai c8) ["self","top","place","live"] (by decide+kernel))) rfl hr rfl hC (fun _ _ _ _=>(cv pG (aa (aK (aK (dc Q.aX.cl Q.bX c_) c_) c_) aj) B.pq rfl mO (by decide+kernel) rfl)) (c9.nm 3) (c9.g 2) B.D_))))) qf
theorem kH:MethAt (KX w.params) aE "gather" "Bench.gather" fo ["self","top","place"] 171 (Hd.fd fo "gather" "Bench.gather" d9 170):=Hd.Fz (by kernel_rfl) fun _ _ _ _ _ _ _ _ _=>rfl
theorem u4:bo PW w (KX w.params) mg base cE 4 171 (Hd.fd fo "gather" "Bench.gather" d9 170) ["self","top","place"] (cJ kD):=by
 have B:=Bt e
 have Q:=Qt e
 exact bW (N:=iM) (kH e).fn fJ (fun cdv A outer s H E hr=>(av (aO fJ.nd (aD.l 3) (lh (aD.nm 0) Q.aX.cl (fY e).me (lQ e) (hr.mono (by decide)) (fY e).bd (aa (aD.nm 1) (aa (aD.nm 2) aj))))
  (av (tI (bV oh (bc _) (cv eG (aa (aD.nm 3) aj) B.eC rfl du (aD.d 0) (aD.g 0)) ao) (av (aO fJ.nd (aD.l 4) (aK (aD.nm 3) (jG ao)))
  (av (aO fJ.nd (aD.l 5) (aK (aD.nm 3) (jG ao)))
  (av (gS (lh (aD.nm 0) Q.aX.cl (iF e).me (qR e) (hr.mono (by decide)) (iF e).bd (aa (aD.nm 4) (aa (a_ (la e) (qA e) (hr.mono (by decide)) (aa (aK (aK (dc Q.aX.cl Q.bX (aD.nm 0)) (aD.nm 4)) (aD.nm 2)) (aa (aK (aK (dc Q.aX.cl Q.bX (aD.nm 0)) (aD.nm 5)) (aD.nm 2)) aj)) (aD.d 1) (aD.g 1)) (aa (aD.nm 5) aj)))))
  (aB (aO fJ.nd (aD.l 3) (lh (aD.nm 0) Q.aX.cl (fY e).me (lQ e) (hr.mono (by decide)) (fY e).bd (aa (aD.nm 1) (aa (aD.nm 2) aj)))))))))
  (av (cV (bV (jo hr) (bc _) (cv eG (aa (aD.nm 3) aj) B.eC rfl du (aD.d 0) (aD.g 0)) ao) (aB (aV ip)) cB)
  (av (gS (lh (aD.nm 0) Q.aX.cl (jm e).me (tm e) (hr.mono (by decide)) (jm e).bd (aa (aD.nm 1) (aa (aK (aD.nm 3) ao) aj))))
  (av (cV (bV xJ (bc _) (aK (aK (dc Q.aX.cl Q.bX (aD.nm 0)) (aD.nm 1)) (aD.nm 2)) ao) (aB (gS (lh (aD.nm 0) Q.aX.cl (hJ e).me (pX e) (hr.mono (by decide)) (hJ e).bd (aa (aD.nm 1) aj)))) cB)
  (aB (aV ip)))))))) tQ
theorem g9:MethAt (KX w.params) aE "lower_above" "Bench.lower_above" dB ["self","top","place"] 178 (Hd.fd dB "lower_above" "Bench.lower_above" d9 177):=Hd.Fz (by kernel_rfl) fun _ _ _ _ _ _ _ _ _=>rfl
theorem pZ:bo PW w (KX w.params) mg base cE 3 178 (Hd.fd dB "lower_above" "Bench.lower_above" d9 177) ["self","top","place"] (cJ g_):=by
 have B:=Bt e
 have Q:=Qt e
 exact bW (N:=fx) (g9 e).fn fm (fun cdv A outer s H E hr=>(aB (gc (iG (bN.g 0) B.gR (aa (bN.nm 1) aj)) (dH fm.nd (by first|exact Or.inl rfl|exact Or.inr rfl) (by first|exact .inl rfl|exact .inr rfl)) (aB (gS (lh (bN.nm 0) Q.aX.cl (iF e).me (qR e) (hr.mono (by decide)) (iF e).bd (aa (bN.nm 3) (aa (aQ (mx hr rfl fm.gen fm.co) (aK (aK (dc Q.aX.cl Q.bX (bN.nm 0)) (bN.nm 3)) (bN.nm 2)) (aK (aK (dc Q.aX.cl Q.bX (bN.nm 0)) (bN.nm 1)) (bN.nm 2))) (aa (bN.nm 1) aj))))))))) oY
theorem tV:bS (KX w.params) mg "standing" "standing" iK ["rows"] 192 (Hd.fd iK "standing" "standing" d9 191):=Hd.qj e.X e.G (by kernel_rfl) fun _ _ _ _ _ _ _=>rfl
theorem A8:bo PW w (KX w.params) mg base cE 5 192 (Hd.fd iK "standing" "standing" d9 191) ["rows"] (cJ o3):=by
 have B:=Bt e
 have Q:=Qt e
 exact bW (N:=lV) (tV e).fn g0 (fun cdv A outer s H E hr=>(av (aO g0.nd (a6.l 1) (Jr ⟨Q.aX.Nr,(gy e).me.at_,(gy e).me.fn,Q.aX.kp⟩ (sO e) (hr.mono (by decide)) (a6.g 0) Q.aX.mg (gy e).bd (aa (a6.nm 0) aj) (a6.d 0)))
  (av (aO g0.nd (a6.l 2) ao)
  (av (gc (iG (a6.g 2) B.gR (aa (cv eG (aa (aK (a6.nm 0) ao) aj) B.eC rfl du (a6.d 1) (a6.g 1)) aj)) (dH g0.nd (by first|exact Or.inl rfl|exact Or.inr rfl) (by first|exact .inl rfl|exact .inr rfl)) (aB (cV (fg (lh (a6.nm 1) Q.aX.cl (kH e).me (u4 e) (hr.mono (by decide)) (kH e).bd (aa (a6.nm 2) (aa (a6.nm 3) aj)))) (av (gS (lh (a6.nm 1) Q.aX.cl (g9 e).me (pZ e) (hr.mono (by decide)) (g9 e).bd (aa (a6.nm 2) (aa (a6.nm 3) aj))))
  (aB (HA g0.nd (a6.l 2) ao Kf))) cB)))
  (av (aO g0.nd (a6.l 4) (a_ (pU e) (v9 e) (hr.mono (by decide)) (aa (dc Q.aX.cl Q.cn (a6.nm 1)) (aa (cv eG (aa (a6.nm 0) aj) B.eC rfl du (a6.d 1) (a6.g 1)) aj)) (a6.d 3) (a6.g 3)))
  (aB (aV (fy (aa (a_ (qE e) (vn e) (hr.mono (by decide)) (aa (oo (dc Q.aX.cl Q.bX (a6.nm 1)) oR (ot (a6.nm 2))) aj) (a6.d 4) (a6.g 4)) (aa (a_ (qE e) (vn e) (hr.mono (by decide)) (aa (dc Q.aX.cl Q.ef (a6.nm 1)) aj) (a6.d 4) (a6.g 4)) (aa (a6.nm 4) aj))))))))))) yS
theorem vS:bS (KX w.params) mg "weighed" "weighed" jD ["form","row"] 199 (Hd.fd jD "weighed" "weighed" d9 198):=Hd.jr e.X e.G (by kernel_rfl) fun _ _ _ _ _ _ _ _=>rfl
theorem Cm:bo PW w (KX w.params) mg base cE 2 199 (Hd.fd jD "weighed" "weighed" d9 198) ["form","row"] (cJ ql):=by
 have B:=Bt e
 have Q:=Qt e
 exact bW (N:=nt) (vS e).fn gB (fun cdv A outer s H E hr=>(av (aO gB.nd (bh.l 2) (wC aj))
  (av (aO gB.nd (bh.l 3) (et i3 (aa (bh.nm 1) aj) B.fO rfl eZ (bh.d 0) (bh.g 0)))
  (av (gc (dZ (bh.nm 0)) (dH gB.nd (by first|exact Or.inl rfl|exact Or.inr rfl) (by first|exact .inl rfl|exact .inr rfl)) (av (aO gB.nd (bh.l 5) (a_ (jv e) (ly e) (hr.mono (by decide)) (aa (bh.nm 4) aj) (bh.d 1) (bh.g 1)))
  (av (aO gB.nd (bh.l 6) (aQ tX (aK (bh.nm 3) (bh.nm 5)) (aK (bh.nm 4) (bh.nm 5))))
  (av (gS (lz (bh.nm 2) (bh.nm 6)))
  (aB (aO gB.nd (bh.l 3) (a_ (mq e) (ox e) (hr.mono (by decide)) (aa (bh.nm 3) (aa (jG (bh.nm 6)) (aa (bh.nm 4) aj))) (bh.d 2) (bh.g 2))))))))
  (aB (aV (fy (aa (et eg (aa (bh.nm 2) aj) B.cQ rfl cC (bh.d 3) (bh.g 3)) (aa (et eg (aa (bh.nm 3) aj) B.cQ rfl cC (bh.d 3) (bh.g 3)) aj))))))))) Ar
theorem sH:bS (KX w.params) mg "parts_dot" "parts_dot" gQ ["parts","row"] 206 (Hd.fd gQ "parts_dot" "parts_dot" pP 205):=Hd.jr e.X e.G (by kernel_rfl) fun _ _ _ _ _ _ _ _=>rfl
theorem yR:bo PW w (KX w.params) mg base cE 4 206 (Hd.fd gQ "parts_dot" "parts_dot" pP 205) ["parts","row"] (cJ oi):=by
 have B:=Bt e
 have Q:=Qt e
 exact bW (N:=kZ) (sH e).fn j4 (fun cdv A outer s H E hr=>(av (aO j4.nd (cu.l 2) (a_ (mn e) (oE e) (hr.mono (by decide)) (aa ao aj) (cu.d 0) (cu.g 0)))
  (av (gc (pC (cu.g 1) B.pe (aa (cu.nm 0) (aa (cu.nm 1) aj))) (iL rfl j4.nd (by first|exact Or.inl rfl|exact Or.inr rfl) (by first|exact .inl rfl|exact .inr rfl) (by first|exact Or.inl rfl|exact Or.inr rfl) (by first|exact .inl rfl|exact .inr rfl)) (aB (aO j4.nd (cu.l 2) (a_ (Ce e) (Jh e) (hr.mono (by decide)) (aa (cu.nm 2) (aa (a_ (zo e) (FK e) (hr.mono (by decide)) (aa (cu.nm 3) (aa (a_ (mn e) (oE e) (hr.mono (by decide)) (aa (cu.nm 4) aj) (cu.d 0) (cu.g 0)) aj)) (cu.d 2) (cu.g 2)) aj)) (cu.d 3) (cu.g 3)))))
  (aB (aV (cu.nm 2)))))) x6
theorem r_:bS (KX w.params) mg "bottom_at" "bottom_at" g5 ["form","rest","place"] 213 (Hd.fd g5 "bottom_at" "bottom_at" pP 212):=Hd.CS e.X e.G (by kernel_rfl) fun _ _ _ _ _ _ _ _ _=>rfl
theorem yP:bo PW w (KX w.params) mg base cE 2 213 (Hd.fd g5 "bottom_at" "bottom_at" pP 212) ["form","rest","place"] (cJ nW):=by
 have B:=Bt e
 have Q:=Qt e
 exact bW (N:=kP) (r_ e).fn qP (fun cdv A outer s H E hr=>(av (gc (dZ (dF.nm 0)) (dH qP.nd (by first|exact Or.inl rfl|exact Or.inr rfl) (by first|exact .inl rfl|exact .inr rfl)) (aB (cV (bV (jo hr) (bc _) (a_ (jv e) (ly e) (hr.mono (by decide)) (aa (dF.nm 3) aj) (dF.d 0) (dF.g 0)) (dF.nm 2)) (aB (aV (aK (dF.nm 3) (dF.nm 2)))) cB)))
  (aB (aV (aQ cU ao (cv pG (aa (aK (dF.nm 1) (dF.nm 2)) aj) B.pq rfl mO (dF.d 1) (dF.g 1))))))) xF
theorem nv:bS (KX w.params) mg "parts_against" "parts_against" e9 ["form","rest"] 220 (Hd.fd e9 "parts_against" "parts_against" pP 219):=Hd.jr e.X e.G (by kernel_rfl) fun _ _ _ _ _ _ _ _=>rfl
theorem uf:bo PW w (KX w.params) mg base cE 5 220 (Hd.fd e9 "parts_against" "parts_against" pP 219) ["form","rest"] (cJ jP):=by
 have B:=Bt e
 have Q:=Qt e
 exact bW (N:=ia) (nv e).fn eK (fun cdv A outer s H E hr=>(av (aO eK.nd (aw.l 2) (a_ (jv e) (ly e) (hr.mono (by decide)) (aa (aw.nm 1) aj) (aw.d 0) (aw.g 0)))
  (av (aO eK.nd (aw.l 3) (aQ Iu (lY (aa (a_ (mn e) (oE e) (hr.mono (by decide)) (aa ao aj) (aw.d 1) (aw.g 1)) aj)) (cv eG (aa (aw.nm 1) aj) B.eC rfl du (aw.d 2) (aw.g 2))))
  (av (d8 (a_ (ow e) (qC e) (hr.mono (by decide)) (aa ao (aa (a_ (r_ e) (yP e) (hr.mono (by decide)) (aa (aw.nm 0) (aa (aw.nm 1) (aa (aw.nm 2) aj))) (aw.d 3) (aw.g 3)) aj)) (aw.d 4) (aw.g 4)) (aw.nm 3) (aw.nm 2))
  (av (gc (Er (aw.g 5) B.gR (aa (aQ kU (cv eG (aa (aw.nm 0) aj) B.eC rfl du (aw.d 2) (aw.g 2)) ao) (aa (jG ao) (aa (jG ao) aj)))) (dH eK.nd (by first|exact Or.inl rfl|exact Or.inr rfl) (by first|exact .inl rfl|exact .inr rfl)) (av (aO eK.nd (aw.l 5) (a_ (jv e) (ly e) (hr.mono (by decide)) (aa (aK (aw.nm 0) (aw.nm 4)) aj) (aw.d 0) (aw.g 0)))
  (aB (cV (bV xJ (bc _) (aw.nm 5) (aw.nm 2)) (av (aO eK.nd (aw.l 6) (a_ (zE e) (Gr e) (hr.mono (by decide)) (aa (a_ (mn e) (oE e) (hr.mono (by decide)) (aa ao aj) (aw.d 1) (aw.g 1)) (aa (a_ (sH e) (yR e) (hr.mono (by decide)) (aa (aw.nm 3) (aa (aK (aw.nm 0) (aw.nm 4)) aj)) (aw.d 6) (aw.g 6)) aj)) (aw.d 7) (aw.g 7)))
  (aB (d8 (a_ (BN e) (Kc e) (hr.mono (by decide)) (aa (aw.nm 6) (aa (a_ (mn e) (oE e) (hr.mono (by decide)) (aa (aK (aK (aw.nm 0) (aw.nm 4)) (aw.nm 5)) aj) (aw.d 1) (aw.g 1)) aj)) (aw.d 8) (aw.g 8)) (aw.nm 3) (aw.nm 5)))) cB))))
  (aB (aV (et eg (aa (aw.nm 3) aj) B.cQ rfl cC (aw.d 9) (aw.g 9))))))))) sW
theorem sT:bS (KX w.params) mg "inside" "inside" ki ["rows","row"] 227 (Hd.fd ki "inside" "inside" pP 226):=Hd.jr e.X e.G (by kernel_rfl) fun _ _ _ _ _ _ _ _=>rfl
theorem wU:bo PW w (KX w.params) mg base cE 6 227 (Hd.fd ki "inside" "inside" pP 226) ["rows","row"] (cJ o_):=by
 have B:=Bt e
 have Q:=Qt e
 exact bW (N:=pd) (sT e).fn nr (fun cdv A outer s H E hr=>(av (aO nr.nd (bI.l 2) (a_ (tV e) (A8 e) (hr.mono (by decide)) (aa (bI.nm 0) aj) (bI.d 0) (bI.g 0)))
  (av (aO nr.nd (bI.l 3) (aK (bI.nm 2) ao))
  (av (aO nr.nd (bI.l 4) (a_ (vS e) (Cm e) (hr.mono (by decide)) (aa (bI.nm 3) (aa (bI.nm 1) aj)) (bI.d 1) (bI.g 1)))
  (av (cV (bV Jg (bc _) (a_ (jv e) (ly e) (hr.mono (by decide)) (aa (aK (bI.nm 4) ao) aj) (bI.d 2) (bI.g 2)) EI) (aB (aV (fy (aa rD (aa (a_ (nv e) (uf e) (hr.mono (by decide)) (aa (bI.nm 3) (aa (aK (bI.nm 4) ao) aj)) (bI.d 3) (bI.g 3)) aj))))) cB)
  (aB (aV (fy (aa rD (aa (a_ (xN e) (Dw e) (hr.mono (by decide)) (aa (aK (bI.nm 4) ao) (aa (oo (aK (bI.nm 2) ao) oR (ot (cv eG (aa (bI.nm 3) aj) B.eC rfl du (bI.d 4) (bI.g 4)))) (aa (cv eG (aa (bI.nm 0) aj) B.eC rfl du (bI.d 4) (bI.g 4)) aj))) (bI.d 5) (bI.g 5)) aj)))))))))) B9
theorem uh:bS (KX w.params) mg "_law_hand" "_law_hand" gI ["_law_script"] 232 (Hd.fd gI "_law_hand" "_law_hand" dY 231):=Hd.qj e.X e.G (by kernel_rfl) fun _ _ _ _ _ _ _=>rfl
theorem A6:bo PW w (KX w.params) mg base cE 1 232 (Hd.fd gI "_law_hand" "_law_hand" dY 231) ["_law_script"] (cJ oW):=by
 have B:=Bt e
 have Q:=Qt e
 exact bW (N:=l_) (uh e).fn zg (fun cdv A outer s H E hr=>(aB (aV (wC (aa (dS (Nc:=["_law_cell"]) (ba.look (ai gI) ["_law_script"] (by decide+kernel)) (dZ (oo (Au.nm 0) oR (ot ao))) (fun _ _ _ _=>(dH (show(["_law_cell"]:List Str).Nodup by decide+kernel) (by first|exact Or.inl rfl|exact Or.inr rfl) (by first|exact .inl rfl|exact .inr rfl))) (fun _ _ _ _=>ck) (fun _ _ _ _=>(cv pG (aa c_ aj) B.pq rfl mO (by decide+kernel) rfl)) cf) (aa ao (aa ao (aa ao aj)))))))) yT
theorem cG:bS (KX w.params) mg "_law_draw" "_law_draw" iJ ["_law_hand_here","_law_many"] 239 (Hd.fd iJ "_law_draw" "_law_draw" dY 238):=Hd.jr e.X e.G (by kernel_rfl) fun _ _ _ _ _ _ _ _=>rfl
theorem cM:bo PW w (KX w.params) mg base cE 1 239 (Hd.fd iJ "_law_draw" "_law_draw" dY 238) ["_law_hand_here","_law_many"] (cJ cy):=by
 have B:=Bt e
 have Q:=Qt e
 exact bW (N:=l7) (cG e).fn fR (fun cdv A outer s H E hr=>(av (d8 (aQ eF (aK (aL.nm 0) ao) ao) (aL.nm 0) ao)
  (av (cV (bV (jo hr) (bc _) (aK (aL.nm 0) ao) ao) (av (aO fR.nd (aL.l 2) ao)
  (av (cV (bV oh (bc _) (cv eG (aa (aK (aL.nm 0) ao) aj) B.eC rfl du (aL.d 0) (aL.g 0)) ao) (aB (aO fR.nd (aL.l 2) (aK (aK (aL.nm 0) ao) (aQ iR (aK (aL.nm 0) ao) (cv eG (aa (aK (aL.nm 0) ao) aj) B.eC rfl du (aL.d 0) (aL.g 0)))))) cB)
  (av (d8 (aQ eF (aK (aL.nm 0) ao) ao) (aL.nm 0) ao)
  (av (cV (hZ (jW (bV xJ (bc _) (aL.nm 2) (aQ wD ao ao)) (j5 (bV oh (bc _) (aK (aL.nm 0) ao) (cv eG (aa (aK (aL.nm 0) ao) aj) B.eC rfl du (aL.d 0) (aL.g 0)))))) (av (aO fR.nd (aL.l 3) (aQ eF (aQ eF (aQ iR (aL.nm 2) ao) (aQ cU ao (aK (aL.nm 0) ao))) ao))
  (av (aO fR.nd (aL.l 3) (aQ iR (aQ cU (aL.nm 3) (aQ eF ao (aQ cU ao (aK (aL.nm 0) ao)))) ao))
  (av (aO fR.nd (aL.l 4) (aQ iR (aQ eF (aQ cU (aL.nm 3) (aQ eF (aQ iR (aL.nm 3) ao) (aK (aL.nm 0) ao))) (aQ cU ao (aK (aL.nm 0) ao))) ao))
  (aB (aV (aQ iR (aQ tX (aL.nm 4) ao) (aL.nm 1))))))) cB)
  (aB (d8 (aL.nm 2) (aL.nm 0) ao)))))) cB)
  (av (aO fR.nd (aL.l 5) (aQ iR (aK (aL.nm 0) ao) (aL.nm 1)))
  (av (d8 (aQ tX (aK (aL.nm 0) ao) (aL.nm 1)) (aL.nm 0) ao)
  (aB (aV (aL.nm 5)))))))) yU
theorem qK:bS (KX w.params) mg "_law_number" "_law_number" gh ["_law_hand_here","_law_kind"] 246 (Hd.fd gh "_law_number" "_law_number" dY 245):=Hd.jr e.X e.G (by kernel_rfl) fun _ _ _ _ _ _ _ _=>rfl
theorem yq:bo PW w (KX w.params) mg base cE 2 246 (Hd.fd gh "_law_number" "_law_number" dY 245) ["_law_hand_here","_law_kind"] (cJ jR):=by
 have B:=Bt e
 have Q:=Qt e
 exact bW (N:=jT) (qK e).fn pM (fun cdv A outer s H E hr=>(av (cV (bV (jo hr) (bc _) (bJ.nm 1) ao) (av (aO pM.nd (bJ.l 2) (aQ eF (aQ cU (a_ (cG e) (cM e) (hr.mono (by decide)) (aa (bJ.nm 0) (aa (aQ wD ao ao) aj)) (bJ.d 0) (bJ.g 0)) (aQ wD ao ao)) (a_ (cG e) (cM e) (hr.mono (by decide)) (aa (bJ.nm 0) (aa (aQ wD ao ao) aj)) (bJ.d 0) (bJ.g 0))))
  (aB (aV (aQ cU (bJ.nm 2) (aK (lY (aa ao (aa (jG ao) (aa ao aj)))) (a_ (cG e) (cM e) (hr.mono (by decide)) (aa (bJ.nm 0) (aa ao aj)) (bJ.d 0) (bJ.g 0))))))) cB)
  (aB (aV (aK (lY (aa ao (aa ao (aa (jG ao) (aa (aQ kU (a_ (cG e) (cM e) (hr.mono (by decide)) (aa (bJ.nm 0) (aa ao aj)) (bJ.d 0) (bJ.g 0)) ao) aj))))) (a_ (cG e) (cM e) (hr.mono (by decide)) (aa (bJ.nm 0) (aa ao aj)) (bJ.d 0) (bJ.g 0))))))) wb
theorem uG:bS (KX w.params) mg "_law_rows" "_law_rows" fk ["_law_hand_here","_law_many","_law_wide","_law_kind"] 251 (Hd.fd fk "_law_rows" "_law_rows" dY 250):=Hd.Nu e.X e.G (by kernel_rfl) fun _ _ _ _ _ _ _ _ _ _=>rfl
theorem Ay:bo PW w (KX w.params) mg base cE 3 251 (Hd.fd fk "_law_rows" "_law_rows" dY 250) ["_law_hand_here","_law_many","_law_wide","_law_kind"] (cJ pD):=by
 have B:=Bt e
 have Q:=Qt e
 exact bW (N:=md) (uG e).fn eO (fun cdv A outer s H E hr=>(av (aO eO.nd (aN.l 4) (wC aj))
  (av (gc (iG (aN.g 0) B.gR (aa (aN.nm 1) aj)) (dH eO.nd (by first|exact Or.inl rfl|exact Or.inr rfl) (by first|exact .inl rfl|exact .inr rfl)) (av (mz eO.nd (aN.l 6) (Nc:=["_law_j","_law_hand_here","_law_kind"]) (ba.look (ai fk) ["_law_hand_here","_law_many","_law_wide","_law_kind","_law_rows_here","_law_k","_law_row","_law_way"] (by decide+kernel)) (iG (aN.g 0) B.gR (aa (aN.nm 2) aj)) (fun _ _ _ _=>(dH (show(["_law_j","_law_hand_here","_law_kind"]:List Str).Nodup by decide+kernel) (by first|exact Or.inl rfl|exact Or.inr rfl) (by first|exact .inl rfl|exact .inr rfl))) (fun _ _ _ _=>ck) (fun _ _ _ _=>(a_ (qK e) (yq e) (hr.mono (by decide)) (aa c_ (aa c_ aj)) (by decide+kernel) rfl)) cf)
  (av (aO eO.nd (aN.l 7) (a_ (cG e) (cM e) (hr.mono (by decide)) (aa (aN.nm 0) (aa ao aj)) (aN.d 1) (aN.g 1)))
  (av (cV (bV (jo hr) (bc _) (aN.nm 7) ao) (aB (aO eO.nd (aN.l 6) (aQ cU (lY (aa ao aj)) (aN.nm 2)))) cB)
  (av (cV (hZ (qu (bV (jo hr) (bc _) (aN.nm 7) ao) (oF (bV oh (bc _) (aN.nm 5) ao)))) (aB (aO eO.nd (aN.l 6) (et i3 (aa (aK (aN.nm 4) (aQ kU (aN.nm 5) ao)) aj) B.fO rfl eZ (aN.d 2) (aN.g 2)))) cB)
  (av (cV (hZ (qu (bV (jo hr) (bc _) (aN.nm 7) ao) (oF (bV oh (bc _) (aN.nm 5) ao)))) (aB (mz eO.nd (aN.l 6) (Nc:=["_law_one","_law_other"]) (ba.look (ai fk) ["_law_hand_here","_law_many","_law_wide","_law_kind","_law_rows_here","_law_k","_law_row","_law_way"] (by decide+kernel)) (pC (aN.g 3) B.pe (aa (aK (aN.nm 4) (aQ kU (aN.nm 5) ao)) (aa (aK (aN.nm 4) (aQ kU (aN.nm 5) ao)) aj))) (fun _ _ _ _=>(iL rfl (show(["_law_one","_law_other"]:List Str).Nodup by decide+kernel) (by first|exact Or.inl rfl|exact Or.inr rfl) (by first|exact .inl rfl|exact .inr rfl) (by first|exact Or.inl rfl|exact Or.inr rfl) (by first|exact .inl rfl|exact .inr rfl))) (fun _ _ _ _=>ck) (fun _ _ _ _=>(aQ eF c_ c_)) rJ)) cB)
  (av (cV (hZ (qu (bV (jo hr) (bc _) (aN.nm 3) ao) (oF (bV xJ (bc _) (aN.nm 7) ao)))) (aB (mz eO.nd (aN.l 6) (Nc:=["_law_number_here"]) (ba.look (ai fk) ["_law_hand_here","_law_many","_law_wide","_law_kind","_law_rows_here","_law_k","_law_row","_law_way"] (by decide+kernel)) (dZ (aN.nm 6)) (fun _ _ _ _=>(dH (show(["_law_number_here"]:List Str).Nodup by decide+kernel) (by first|exact Or.inl rfl|exact Or.inr rfl) (by first|exact .inl rfl|exact .inr rfl))) (fun _ _ _ _=>ck) (fun _ _ _ _=>(aQ iR c_ ao)) cf)) cB)
  (aB (gS (lz (aN.nm 4) (et eg (aa (aN.nm 6) aj) B.cQ rfl cC (aN.d 4) (aN.g 4))))))))))))
  (aB (aV (et eg (aa (aN.nm 4) aj) B.cQ rfl cC (aN.d 4) (aN.g 4))))))) yW
theorem sv:bS (KX w.params) mg "_law_sizes" "_law_sizes" gX ["_law_hand_here"] 258 (Hd.fd gX "_law_sizes" "_law_sizes" dY 257):=Hd.qj e.X e.G (by kernel_rfl) fun _ _ _ _ _ _ _=>rfl
theorem y8:bo PW w (KX w.params) mg base cE 2 258 (Hd.fd gX "_law_sizes" "_law_sizes" dY 257) ["_law_hand_here"] (cJ nP):=by
 have B:=Bt e
 have Q:=Qt e
 exact bW (N:=kO) (sv e).fn yl (fun cdv A outer s H E hr=>(av (cV (bV (jo hr) (bc _) (a_ (cG e) (cM e) (hr.mono (by decide)) (aa (cH.nm 0) (aa ao aj)) (cH.d 0) (cH.g 0)) ao) (aB (aV (fy (aa (aQ eF ao (a_ (cG e) (cM e) (hr.mono (by decide)) (aa (cH.nm 0) (aa ao aj)) (cH.d 0) (cH.g 0))) (aa (aQ eF ao (a_ (cG e) (cM e) (hr.mono (by decide)) (aa (cH.nm 0) (aa ao aj)) (cH.d 0) (cH.g 0))) aj))))) cB)
  (aB (aV (fy (aa (aQ eF ao (a_ (cG e) (cM e) (hr.mono (by decide)) (aa (cH.nm 0) (aa ao aj)) (cH.d 0) (cH.g 0))) (aa (aQ eF ao (a_ (cG e) (cM e) (hr.mono (by decide)) (aa (cH.nm 0) (aa ao aj)) (cH.d 0) (cH.g 0))) aj))))))) xa
theorem nD:bS (KX w.params) mg "_law_some_rows" "_law_some_rows" eV ["_law_hand_here","_law_kinds"] 265 (Hd.fd eV "_law_some_rows" "_law_some_rows" dY 264):=Hd.jr e.X e.G (by kernel_rfl) fun _ _ _ _ _ _ _ _=>rfl
theorem uI:bo PW w (KX w.params) mg base cE 4 265 (Hd.fd eV "_law_some_rows" "_law_some_rows" dY 264) ["_law_hand_here","_law_kinds"] (cJ jU):=by
 have B:=Bt e
 have Q:=Qt e
 exact bW (N:=h8) (nD e).fn m_ (fun cdv A outer s H E hr=>(av (xf (a_ (sv e) (y8 e) (hr.mono (by decide)) (aa (cw.nm 0) aj) (cw.d 0) (cw.g 0)) (iL rfl m_.nd (by first|exact Or.inl rfl|exact Or.inr rfl) (by first|exact .inl rfl|exact .inr rfl) (by first|exact Or.inl rfl|exact Or.inr rfl) (by first|exact .inl rfl|exact .inr rfl)))
  (aB (aV (a_ (uG e) (Ay e) (hr.mono (by decide)) (aa (cw.nm 0) (aa (cw.nm 2) (aa (cw.nm 3) (aa (a_ (cG e) (cM e) (hr.mono (by decide)) (aa (cw.nm 0) (aa (cw.nm 1) aj)) (cw.d 1) (cw.g 1)) aj)))) (cw.d 2) (cw.g 2)))))) tE
theorem qk:bS (KX w.params) mg "_law_lowest" "_law_lowest" dO ["_law_top","_law_bottom"] 272 (Hd.fd dO "_law_lowest" "_law_lowest" dY 271):=Hd.jr e.X e.G (by kernel_rfl) fun _ _ _ _ _ _ _ _=>rfl
theorem ye:bo PW w (KX w.params) mg base cE 1 272 (Hd.fd dO "_law_lowest" "_law_lowest" dY 271) ["_law_top","_law_bottom"] (cJ mI):=by
 have B:=Bt e
 have Q:=Qt e
 exact bW (N:=jX) (qk e).fn fe (fun cdv A outer s H E hr=>(av (Cy fe.nd (by decide) (show(ai dO).names.lookup ("_law_one":Str)=some .local by decide+kernel) (show(ai dO).names.lookup ("_law_other":Str)=some .local by decide+kernel) (aa (cv pG (aa (cY.nm 0) aj) B.pq rfl mO (cY.d 0) (cY.g 0)) (aa (cY.nm 1) aj)))
  (av (tI (bV oh (bc _) (cY.nm 3) ao) (aB (Cy fe.nd (by decide) (show(ai dO).names.lookup ("_law_one":Str)=some .local by decide+kernel) (show(ai dO).names.lookup ("_law_other":Str)=some .local by decide+kernel) (aa (cY.nm 3) (aa (aQ iR (cY.nm 2) (cY.nm 3)) aj)))))
  (aB (aV (fy (aa (aQ (mx hr rfl fe.gen fe.co) (cY.nm 0) (cY.nm 2)) (aa (aQ (mx hr rfl fe.gen fe.co) (cY.nm 1) (cY.nm 2)) aj)))))))) vV
theorem pS:bS (KX w.params) mg "_law_is_part" "_law_is_part" ff ["_law_found"] 277 (Hd.fd ff "_law_is_part" "_law_is_part" dY 276):=Hd.qj e.X e.G (by kernel_rfl) fun _ _ _ _ _ _ _=>rfl
theorem vX:bo PW w (KX w.params) mg base cE 2 277 (Hd.fd ff "_law_is_part" "_law_is_part" dY 276) ["_law_found"] (cJ lI):=by
 have B:=Bt e
 have Q:=Qt e
 exact bW (N:=jf) (pS e).fn u5 (fun cdv A outer s H E hr=>(av (cV (hZ (jW (gL (fg (cv jQ (aa (bg.nm 0) (aa (fy (aa (j8 B.cQ rfl cC (bg.d 1) (bg.g 1)) (aa (j8 B.fO rfl eZ (bg.d 0) (bg.g 0)) aj))) aj)) B.dh rfl cW (bg.d 2) (bg.g 2)))) (j5 (bV pk (bc _) (cv eG (aa (bg.nm 0) aj) B.eC rfl du (bg.d 3) (bg.g 3)) ao)))) (aB (aV ip)) cB)
  (av (cV (gL (fg (cv (uL rfl) (aa (dS (Nc:=["_law_one"]) (ba.look (ai ff) ["_law_found"] (by decide+kernel)) (dZ (bg.nm 0)) (fun _ _ _ _=>(dH (show(["_law_one"]:List Str).Nodup by decide+kernel) (by first|exact Or.inl rfl|exact Or.inr rfl) (by first|exact .inl rfl|exact .inr rfl))) (fun _ _ _ _=>ck) (fun _ _ _ _=>(AM (cv jQ (aa c_ (aa (j8 B.AV rfl yg (by decide+kernel) rfl) aj)) B.dh rfl cW (by decide+kernel) rfl) (we (Fw (cv jQ (aa c_ (aa (j8 B.Bd rfl zt (by decide+kernel) rfl) aj)) B.dh rfl cW (by decide+kernel) rfl))))) cf) aj) B.uy rfl qt (bg.d 4) (bg.g 4)))) (aB (aV ip)) cB)
  (aB (aV (AM (nK oh (bc _) (aK (bg.nm 0) ao) ao) (we (nK (jo hr) (bc _) (a_ (qk e) (ye e) (hr.mono (by decide)) (aa (aK (bg.nm 0) ao) (aa (aK (bg.nm 0) ao) aj)) (bg.d 5) (bg.g 5)) (fy (aa (aK (bg.nm 0) ao) (aa (aK (bg.nm 0) ao) aj))))))))))) vj
theorem nR:bS (KX w.params) mg "_law_worth" "_law_worth" gT ["_law_parts","_law_row"] 284 (Hd.fd gT "_law_worth" "_law_worth" dY 283):=Hd.jr e.X e.G (by kernel_rfl) fun _ _ _ _ _ _ _ _=>rfl
theorem sF:bo PW w (KX w.params) mg base cE 1 284 (Hd.fd gT "_law_worth" "_law_worth" dY 283) ["_law_parts","_law_row"] (cJ kK):=by
 have B:=Bt e
 have Q:=Qt e
 exact bW (N:=kW) (nR e).fn gj (fun cdv A outer s H E hr=>(av (aO gj.nd (cz.l 2) ao)
  (av (aO gj.nd (cz.l 3) ao)
  (av (gc (pC (cz.g 0) B.pe (aa (cz.nm 0) (aa (cz.nm 1) aj))) (iL rfl gj.nd (by first|exact Or.inl rfl|exact Or.inr rfl) (by first|exact .inl rfl|exact .inr rfl) (by first|exact Or.inl rfl|exact Or.inr rfl) (by first|exact .inl rfl|exact .inr rfl)) (av (aO gj.nd (cz.l 2) (aQ eF (aQ cU (cz.nm 2) (aK (cz.nm 4) ao)) (aQ cU (aQ cU (aK (cz.nm 4) ao) (cz.nm 5)) (cz.nm 3))))
  (aB (aO gj.nd (cz.l 3) (aQ cU (cz.nm 3) (aK (cz.nm 4) ao))))))
  (aB (aV (fy (aa (cz.nm 2) (aa (cz.nm 3) aj))))))))) yw
theorem r8:bS (KX w.params) mg "_law_shown" "_law_shown" eP ["_law_rows_here","_law_row","_law_found"] 289 (Hd.fd eP "_law_shown" "_law_shown" dY 288):=Hd.CS e.X e.G (by kernel_rfl) fun _ _ _ _ _ _ _ _ _=>rfl
theorem y0:bo PW w (KX w.params) mg base cE 3 289 (Hd.fd eP "_law_shown" "_law_shown" dY 288) ["_law_rows_here","_law_row","_law_found"] (cJ n_):=by
 have B:=Bt e
 have Q:=Qt e
 exact bW (N:=kT) (r8 e).fn gu (fun cdv A outer s H E hr=>(av (cV (hZ (jW (gL (fg (cv jQ (aa (ax.nm 2) (aa (fy (aa (j8 B.cQ rfl cC (ax.d 1) (ax.g 1)) (aa (j8 B.fO rfl eZ (ax.d 0) (ax.g 0)) aj))) aj)) B.dh rfl cW (ax.d 2) (ax.g 2)))) (j5 (bV pk (bc _) (cv eG (aa (ax.nm 2) aj) B.eC rfl du (ax.d 3) (ax.g 3)) ao)))) (aB (aV ip)) cB)
  (av (cV (hZ (jW (gL (fg (cv jQ (aa (aK (ax.nm 2) ao) (aa (j8 B.KU rfl IV (ax.d 4) (ax.g 4)) aj)) B.dh rfl cW (ax.d 2) (ax.g 2)))) (j5 (gL (fg (cv jQ (aa (aK (ax.nm 2) ao) (aa (fy (aa (j8 B.cQ rfl cC (ax.d 1) (ax.g 1)) (aa (j8 B.fO rfl eZ (ax.d 0) (ax.g 0)) aj))) aj)) B.dh rfl cW (ax.d 2) (ax.g 2))))))) (aB (aV ip)) cB)
  (av (aO gu.nd (ax.l 3) (aK (ax.nm 2) ao))
  (av (cV (bV (jo hr) (bc _) (aK (ax.nm 2) ao) rD) (av (cV (hZ (jW (bV pk (bc _) (cv eG (aa (ax.nm 3) aj) B.eC rfl du (ax.d 3) (ax.g 3)) (cv eG (aa (ax.nm 0) aj) B.eC rfl du (ax.d 3) (ax.g 3))) (j5 (gL (fg (cv (uL rfl) (aa (dS (Nc:=["_law_one"]) (ba.look (ai eP) ["_law_rows_here","_law_row","_law_found","_law_told","_law_sums","_law_step","_law_top","_law_bottom"] (by decide+kernel)) (dZ (ax.nm 3)) (fun _ _ _ _=>(dH (show(["_law_one"]:List Str).Nodup by decide+kernel) (by first|exact Or.inl rfl|exact Or.inr rfl) (by first|exact .inl rfl|exact .inr rfl))) (fun _ _ _ _=>ck) (fun _ _ _ _=>(AM (cv jQ (aa c_ (aa (j8 B.AV rfl yg (by decide+kernel) rfl) aj)) B.dh rfl cW (by decide+kernel) rfl) (we (Fw (cv jQ (aa c_ (aa (j8 B.Bd rfl zt (by decide+kernel) rfl) aj)) B.dh rfl cW (by decide+kernel) rfl))))) cf) aj) B.uy rfl qt (ax.d 5) (ax.g 5))))))) (aB (aV ip)) cB)
  (av (mz gu.nd (ax.l 4) (Nc:=["_law_j","_law_told","_law_rows_here"]) (ba.look (ai eP) ["_law_rows_here","_law_row","_law_found","_law_told","_law_sums","_law_step","_law_top","_law_bottom"] (by decide+kernel)) (iG (ax.g 6) B.gR (aa (cv eG (aa (ax.nm 1) aj) B.eC rfl du (ax.d 3) (ax.g 3)) aj)) (fun _ _ _ _=>(dH (show(["_law_j","_law_told","_law_rows_here"]:List Str).Nodup by decide+kernel) (by first|exact Or.inl rfl|exact Or.inr rfl) (by first|exact .inl rfl|exact .inr rfl))) (fun _ _ _ _=>ck) (fun _ _ _ _=>(cv (Ld rfl) (aa (dS (Nc:=["_law_often","_law_step","_law_j"]) (ba.E2 (by decide+kernel)) (pC rfl B.pe (aa c_ (aa c_ aj))) (fun _ _ _ _=>(iL rfl (show(["_law_often","_law_step","_law_j"]:List Str).Nodup by decide+kernel) (by first|exact Or.inl rfl|exact Or.inr rfl) (by first|exact .inl rfl|exact .inr rfl) (by first|exact Or.inl rfl|exact Or.inr rfl) (by first|exact .inl rfl|exact .inr rfl))) (fun _ _ _ _=>ck) (fun _ _ _ _=>(aQ cU c_ (aK c_ c_))) rJ) aj) B.LV rfl IL (by decide+kernel) rfl)) cf)
  (aB (aV (nK (jo hr) (bc _) (ax.nm 4) (et i3 (aa (ax.nm 1) aj) B.fO rfl eZ (ax.d 0) (ax.g 0))))))) cB)
  (av (cV (hZ (jW (bV (wx hr) (bc _) (aK (ax.nm 2) ao) rD) (jW (bV pk (bc _) (cv eG (aa (ax.nm 3) aj) B.eC rfl du (ax.d 3) (ax.g 3)) (cv eG (aa (ax.nm 1) aj) B.eC rfl du (ax.d 3) (ax.g 3))) (j5 (gL (fg (cv (uL rfl) (aa (dS (Nc:=["_law_one"]) (ba.look (ai eP) ["_law_rows_here","_law_row","_law_found","_law_told","_law_sums","_law_step","_law_top","_law_bottom"] (by decide+kernel)) (dZ (ax.nm 3)) (fun _ _ _ _=>(dH (show(["_law_one"]:List Str).Nodup by decide+kernel) (by first|exact Or.inl rfl|exact Or.inr rfl) (by first|exact .inl rfl|exact .inr rfl))) (fun _ _ _ _=>ck) (fun _ _ _ _=>(a_ (pS e) (vX e) (hr.mono (by decide)) (aa c_ aj) (by decide+kernel) rfl)) cf) aj) B.uy rfl qt (ax.d 5) (ax.g 5)))))))) (aB (aV ip)) cB)
  (av (gc (dZ (ax.nm 0)) (dH gu.nd (by first|exact Or.inl rfl|exact Or.inr rfl) (by first|exact .inl rfl|exact .inr rfl)) (av (xf (a_ (nR e) (sF e) (hr.mono (by decide)) (aa (ax.nm 3) (aa (ax.nm 5) aj)) (ax.d 7) (ax.g 7)) (iL rfl gu.nd (by first|exact Or.inl rfl|exact Or.inr rfl) (by first|exact .inl rfl|exact .inr rfl) (by first|exact Or.inl rfl|exact Or.inr rfl) (by first|exact .inl rfl|exact .inr rfl)))
  (aB (cV (bV pk (bc _) (aQ iR (ax.nm 6) (ax.nm 7)) ao) (aB (aV ip)) cB))))
  (av (xf (a_ (nR e) (sF e) (hr.mono (by decide)) (aa (ax.nm 3) (aa (ax.nm 1) aj)) (ax.d 7) (ax.g 7)) (iL rfl gu.nd (by first|exact Or.inl rfl|exact Or.inr rfl) (by first|exact .inl rfl|exact .inr rfl) (by first|exact Or.inl rfl|exact Or.inr rfl) (by first|exact .inl rfl|exact .inr rfl)))
  (aB (aV (nK pk (bc _) (aQ iR (ax.nm 6) (ax.nm 7)) ao))))))))))) yz
theorem sh:bS (KX w.params) mg "_law_cases" "_law_cases" dG ["_law_hand_here","_law_rows_here"] 294 (Hd.fd dG "_law_cases" "_law_cases" dY 293):=Hd.jr e.X e.G (by kernel_rfl) fun _ _ _ _ _ _ _ _=>rfl
theorem zd:bo PW w (KX w.params) mg base cE 2 294 (Hd.fd dG "_law_cases" "_law_cases" dY 293) ["_law_hand_here","_law_rows_here"] (cJ oa):=by
 have B:=Bt e
 have Q:=Qt e
 exact bW (N:=kQ) (sh e).fn cZ (fun cdv A outer s H E hr=>(av (aO cZ.nd (ay.l 2) (cv eG (aa (aK (ay.nm 1) ao) aj) B.eC rfl du (ay.d 0) (ay.g 0)))
  (av (aO cZ.nd (ay.l 3) (nK oh (bc _) (cv (Cu rfl) (aa (dS (Nc:=["_law_row"]) (ba.look (ai dG) ["_law_hand_here","_law_rows_here","_law_wide","_law_great","_law_total","_law_k","_law_row","_law_often","_law_cases_here","_law_at","_law_bent"] (by decide+kernel)) (dZ (ay.nm 1)) (fun _ _ _ _=>(dH (show(["_law_row"]:List Str).Nodup by decide+kernel) (by first|exact Or.inl rfl|exact Or.inr rfl) (by first|exact .inl rfl|exact .inr rfl))) (fun _ _ _ _=>ck) (fun _ _ _ _=>(cv (Cu rfl) (aa (dS (Nc:=["_law_one"]) (ba.E2 (by decide+kernel)) (dZ c_) (fun _ _ _ _=>(dH (show(["_law_one"]:List Str).Nodup by decide+kernel) (by first|exact Or.inl rfl|exact Or.inr rfl) (by first|exact .inl rfl|exact .inr rfl))) (fun _ _ _ _=>ck) (fun _ _ _ _=>(cv pG (aa c_ aj) B.pq rfl mO (by decide+kernel) rfl)) cf) aj) B.EX rfl Cz (by decide+kernel) rfl)) cf) aj) B.EX rfl Cz (ay.d 1) (ay.g 1)) ao))
  (av (aO cZ.nd (ay.l 4) (aQ cU (lY (aa ao aj)) (ay.nm 2)))
  (av (gc (BH (ay.g 2) B.sj (aa (ay.nm 1) aj)) (iL rfl cZ.nd (by first|exact Or.inl rfl|exact Or.inr rfl) (by first|exact .inl rfl|exact .inr rfl) (by first|exact Or.inl rfl|exact Or.inr rfl) (by first|exact .inl rfl|exact .inr rfl)) (av (aO cZ.nd (ay.l 7) (aQ kU (a_ (cG e) (cM e) (hr.mono (by decide)) (aa (ay.nm 0) (aa ao aj)) (ay.d 3) (ay.g 3)) ao))
  (av (cV (hZ (qu (fg (ay.nm 3)) (oF (bV oh (bc _) (ay.nm 5) ao)))) (aB (aO cZ.nd (ay.l 7) ao)) (aB (cV (gL (fg (ay.nm 3))) (aB (aO cZ.nd (ay.l 7) (aQ kU (a_ (cG e) (cM e) (hr.mono (by decide)) (aa (ay.nm 0) (aa ao aj)) (ay.d 3) (ay.g 3)) ao))) cB)))
  (aB (mz cZ.nd (ay.l 4) (Nc:=["_law_one","_law_other","_law_often"]) (ba.look (ai dG) ["_law_hand_here","_law_rows_here","_law_wide","_law_great","_law_total","_law_k","_law_row","_law_often","_law_cases_here","_law_at","_law_bent"] (by decide+kernel)) (pC (ay.g 4) B.pe (aa (ay.nm 4) (aa (ay.nm 6) aj))) (fun _ _ _ _=>(iL rfl (show(["_law_one","_law_other","_law_often"]:List Str).Nodup by decide+kernel) (by first|exact Or.inl rfl|exact Or.inr rfl) (by first|exact .inl rfl|exact .inr rfl) (by first|exact Or.inl rfl|exact Or.inr rfl) (by first|exact .inl rfl|exact .inr rfl))) (fun _ _ _ _=>ck) (fun _ _ _ _=>(aQ eF c_ (aQ cU c_ c_))) rJ)))))
  (av (aO cZ.nd (ay.l 8) (wC (aa (fy (aa (et eg (aa (ay.nm 4) aj) B.cQ rfl cC (ay.d 5) (ay.g 5)) (aa ip aj))) aj)))
  (av (aO cZ.nd (ay.l 9) (a_ (cG e) (cM e) (hr.mono (by decide)) (aa (ay.nm 0) (aa (ay.nm 2) aj)) (ay.d 3) (ay.g 3)))
  (av (aO cZ.nd (ay.l 10) (aQ kU (aQ eF (aK (ay.nm 4) (ay.nm 9)) ao) (aQ cU ao (et LZ (aa (nK oh (bc _) (aK (ay.nm 4) (ay.nm 9)) ao) aj) B.AV rfl yg (ay.d 6) (ay.g 6)))))
  (av (gS (lz (ay.nm 8) (fy (aa (et eg (aa (aQ eF (aQ eF (oo (ay.nm 4) oR (ot (ay.nm 9))) (lY (aa (ay.nm 10) aj))) (oo (ay.nm 4) (ot (aQ eF (ay.nm 9) ao)) oR)) aj) B.cQ rfl cC (ay.d 5) (ay.g 5)) (aa ip aj)))))
  (av (gS (lz (ay.nm 8) (fy (aa (et eg (aa (dS (Nc:=["_law_one","_law_hand_here"]) (ba.look (ai dG) ["_law_hand_here","_law_rows_here","_law_wide","_law_great","_law_total","_law_k","_law_row","_law_often","_law_cases_here","_law_at","_law_bent"] (by decide+kernel)) (dZ (ay.nm 4)) (fun _ _ _ _=>(dH (show(["_law_one","_law_hand_here"]:List Str).Nodup by decide+kernel) (by first|exact Or.inl rfl|exact Or.inr rfl) (by first|exact .inl rfl|exact .inr rfl))) (fun _ _ _ _=>ck) (fun _ _ _ _=>(aQ kU (a_ (cG e) (cM e) (hr.mono (by decide)) (aa c_ (aa ao aj)) (by decide+kernel) rfl) ao)) cf) aj) B.cQ rfl cC (ay.d 5) (ay.g 5)) (aa ip aj)))))
  (av (cV (fg (cv (uL rfl) (aa (dS (Nc:=["_law_one"]) (ba.look (ai dG) ["_law_hand_here","_law_rows_here","_law_wide","_law_great","_law_total","_law_k","_law_row","_law_often","_law_cases_here","_law_at","_law_bent"] (by decide+kernel)) (dZ (ay.nm 4)) (fun _ _ _ _=>(dH (show(["_law_one"]:List Str).Nodup by decide+kernel) (by first|exact Or.inl rfl|exact Or.inr rfl) (by first|exact .inl rfl|exact .inr rfl))) (fun _ _ _ _=>ck) (fun _ _ _ _=>(nK (jo hr) (bc _) (aQ iR c_ ao) ao)) cf) aj) B.uy rfl qt (ay.d 7) (ay.g 7))) (aB (gS (lz (ay.nm 8) (fy (aa (et eg (aa (dS (Nc:=["_law_one"]) (ba.look (ai dG) ["_law_hand_here","_law_rows_here","_law_wide","_law_great","_law_total","_law_k","_law_row","_law_often","_law_cases_here","_law_at","_law_bent"] (by decide+kernel)) (dZ (ay.nm 4)) (fun _ _ _ _=>(dH (show(["_law_one"]:List Str).Nodup by decide+kernel) (by first|exact Or.inl rfl|exact Or.inr rfl) (by first|exact .inl rfl|exact .inr rfl))) (fun _ _ _ _=>ck) (fun _ _ _ _=>(aQ tX c_ ao)) cf) aj) B.cQ rfl cC (ay.d 5) (ay.g 5)) (aa ip aj)))))) cB)
  (aB (aV (ay.nm 8)))))))))))))) yr
theorem ny:bS (KX w.params) mg "_law_told_well" "_law_told_well" d6 ["_law_found"] 299 (Hd.fd d6 "_law_told_well" "_law_told_well" dY 298):=Hd.qj e.X e.G (by kernel_rfl) fun _ _ _ _ _ _ _=>rfl
theorem ug:bo PW w (KX w.params) mg base cE 1 299 (Hd.fd d6 "_law_told_well" "_law_told_well" dY 298) ["_law_found"] (cJ jM):=by
 have B:=Bt e
 have Q:=Qt e
 exact bW (N:=h_) (ny e).fn sI (fun cdv A outer s H E hr=>(av (cV (hZ (jW (gL (fg (cv jQ (aa (bQ.nm 0) (aa (j8 B.cQ rfl cC (bQ.d 0) (bQ.g 0)) aj)) B.dh rfl cW (bQ.d 1) (bQ.g 1)))) (j5 (gL (fg (cv jQ (aa (aK (bQ.nm 0) ao) (aa (j8 B.cQ rfl cC (bQ.d 0) (bQ.g 0)) aj)) B.dh rfl cW (bQ.d 1) (bQ.g 1))))))) (aB (aV ip)) cB)
  (aB (aV (MR (nK (jo hr) (bc _) (aK (bQ.nm 0) ao) rD) (we (cv (uL rfl) (aa (dS (Nc:=["_law_one"]) (ba.look (ai d6) ["_law_found"] (by decide+kernel)) (dZ (aK (bQ.nm 0) ao)) (fun _ _ _ _=>(dH (show(["_law_one"]:List Str).Nodup by decide+kernel) (by first|exact Or.inl rfl|exact Or.inr rfl) (by first|exact .inl rfl|exact .inr rfl))) (fun _ _ _ _=>ck) (fun _ _ _ _=>(cv jQ (aa c_ (aa (j8 B.cQ rfl cC (by decide+kernel) rfl) aj)) B.dh rfl cW (by decide+kernel) rfl)) cf) aj) B.uy rfl qt (bQ.d 2) (bQ.g 2)))))))) tu
theorem LY:bS (KX w.params) mg "law" "law" kR ["_law_script"] 304 (Hd.fd kR "law" "law" dY 303):=Hd.qj e.X e.G (by kernel_rfl) fun _ _ _ _ _ _ _=>rfl
theorem LJ:bo PW w (KX w.params) mg base cE 7 304 (Hd.fd kR "law" "law" dY 303) ["_law_script"] (cJ Fs):=by
 have B:=Bt e
 have Q:=Qt e
 exact bW (N:=wj) (LY e).fn mV (fun cdv A outer s H E hr=>(av (aO mV.nd (bO.l 1) (a_ (uh e) (A6 e) (hr.mono (by decide)) (aa (bO.nm 0) aj) (bO.d 0) (bO.g 0)))
  (av (aO mV.nd (bO.l 2) (a_ (nD e) (uI e) (hr.mono (by decide)) (aa (bO.nm 1) (aa ao aj)) (bO.d 1) (bO.g 1)))
  (av (gc (dZ (a_ (sh e) (zd e) (hr.mono (by decide)) (aa (bO.nm 1) (aa (bO.nm 2) aj)) (bO.d 2) (bO.g 2))) (iL rfl mV.nd (by first|exact Or.inl rfl|exact Or.inr rfl) (by first|exact .inl rfl|exact .inr rfl) (by first|exact Or.inl rfl|exact Or.inr rfl) (by first|exact .inl rfl|exact .inr rfl)) (av (aO mV.nd (bO.l 5) (a_ (sT e) (wU e) (hr.mono (by decide)) (aa (bO.nm 2) (aa (bO.nm 3) aj)) (bO.d 3) (bO.g 3)))
  (av (cV (hZ (jW (gL (fg (a_ (r8 e) (y0 e) (hr.mono (by decide)) (aa (bO.nm 2) (aa (bO.nm 3) (aa (bO.nm 5) aj))) (bO.d 4) (bO.g 4)))) (jW (gL (fg (a_ (ny e) (ug e) (hr.mono (by decide)) (aa (bO.nm 5) aj) (bO.d 5) (bO.g 5)))) (j5 (hZ (qu (fg (bO.nm 4)) (oF (bV (wx hr) (bc _) (aK (bO.nm 5) ao) rD)))))))) (aB (aV ip)) cB)
  (av (aO mV.nd (bO.l 6) (lY (aa (dS (Nc:=["_law_step"]) (ba.look (ai kR) ["_law_script","_law_hand_here","_law_rows_here","_law_row","_law_built","_law_found","_law_handed","_law_again"] (by decide+kernel)) (dZ (bO.nm 2)) (fun _ _ _ _=>(dH (show(["_law_step"]:List Str).Nodup by decide+kernel) (by first|exact Or.inl rfl|exact Or.inr rfl) (by first|exact .inl rfl|exact .inr rfl))) (fun _ _ _ _=>ck) (fun _ _ _ _=>(et i3 (aa c_ aj) B.fO rfl eZ (by decide+kernel) rfl)) cf) (aa (et i3 (aa (bO.nm 3) aj) B.fO rfl eZ (bO.d 6) (bO.g 6)) aj))))
  (av (aO mV.nd (bO.l 7) (a_ (sT e) (wU e) (hr.mono (by decide)) (aa (aK (bO.nm 6) ao) (aa (aK (bO.nm 6) ao) aj)) (bO.d 3) (bO.g 3)))
  (aB (cV (hZ (jW (bV (wx hr) (bc _) (bO.nm 7) (bO.nm 5)) (j5 (bV (wx hr) (bc _) (bO.nm 6) (lY (aa (dS (Nc:=["_law_step"]) (ba.look (ai kR) ["_law_script","_law_hand_here","_law_rows_here","_law_row","_law_built","_law_found","_law_handed","_law_again"] (by decide+kernel)) (dZ (bO.nm 2)) (fun _ _ _ _=>(dH (show(["_law_step"]:List Str).Nodup by decide+kernel) (by first|exact Or.inl rfl|exact Or.inr rfl) (by first|exact .inl rfl|exact .inr rfl))) (fun _ _ _ _=>ck) (fun _ _ _ _=>(et i3 (aa c_ aj) B.fO rfl eZ (by decide+kernel) rfl)) cf) (aa (et i3 (aa (bO.nm 3) aj) B.fO rfl eZ (bO.d 6) (bO.g 6)) aj))))))) (aB (aV ip)) cB)))))))
  (aB (aV ip)))))) HH
end
noncomputable def dL:DefRec:=match kR with
 | .FunctionDef n a b _ _ _ sc _ _ pos=>⟨n,a,b,sc,pos⟩
 |_=>⟨"",L2.jC (.Pass ⟨0,0,0,0⟩),[],L2.ai (.Pass ⟨0,0,0,0⟩),⟨0,0,0,0⟩⟩
theorem ED:PySem.Challenge.rw_latticeworks_k16_inside_or_not.wellSaid=true:=by decide+kernel
end Row
open PySem PySem.W PyProof.Rows
set_option maxRecDepth 100000 in
set_option maxHeartbeats 0 in
theorem PySem.Challenge.cw_latticeworks_k16_inside_or_not_holds : PySem.Challenge.rw_latticeworks_k16_inside_or_not.Holds := by
 refine PySem.W.holds_law Row.ED fun ED=>?_
 refine PySem.W.holds_open (r:=PySem.Challenge.rw_latticeworks_k16_inside_or_not.row) (q:=PySem.W.view Row.PW [1,2,3,4,5,6,7,9,10,11,12,13,14,15,17,18,19,20,21,22,23,25,26,27,28,30,31,32,33,34,35,36,37,38,39,40,41,42]) (loose:=[]) (Xt:=fun _=>true) (XP:=fun _ _=>True) (YP:=(PySem.W.kmHook Row.KX Row.KA (fun _=>rfl) [161]).says) (d:=Row.dL) (kwd:=[]) Row.left ((PySem.W.kmHook Row.KX Row.KA (fun _=>rfl) [161]).of) ((PySem.W.kmHook Row.KX Row.KA (fun _=>rfl) [161]).keeps) (fun _ _=>trivial) (fun _ _ _ _ _=>trivial) (by kernel_rfl) (by kernel_rfl) (by kernel_rfl) (fun s _=>PySem.W.recFacts_of (R:=[]) rfl) (by kernel_rfl) ED (by decide+kernel) ⟨rfl,rfl,rfl,rfl,rfl,by decide+kernel⟩ ?hw ?hc
 case hw=>w_witness2
 refine L2.LN (n:=63) (k:=7) (x:="_law_script") (ts:=[(163,161)]) (K:=Row.KX) (sp:=fun w=>L3.Bg (Row.KX w.params) [(163,161)]) rfl (by decide) (by kernel_rfl) ⟨rfl,by decide,by decide⟩ (by kernel_rfl) rfl (fun w h Y=>⟨PySem.W.km_in_of Y,⟨(fun q hq=>by rcases List.mem_cons.mp hq with rfl|hq;kernel_rfl;cases hq),(fun q hq=>by rcases List.mem_cons.mp hq with rfl|hq;kernel_rfl;cases hq),fun q hq=>PySem.W.km_tabs_of Y _ (List.mem_map_of_mem (f:=Prod.snd) hq)⟩⟩) ?F fun _ _ a ns hl hE=>⟨a,ns,rfl,hE,hl,fun _=>rfl⟩
 intro w mg fa h X G hmg
 have e2:=hmg.symm.trans (PySem.W.mg_of (v:= .ref 304) X G (by kernel_rfl))
 cases e2
 exact⟨Hd.fd Row.kR "law" "law" Row.dY 303,fun s v=> .of_eq rfl,fun base _ _=>(Row.LJ ⟨X,G⟩).imp fun vs H Q E h=>L3.CI (tl:=[(161,⟨82,32,82,66⟩,"Bench.live_rows.<locals>.<lambda>")]) (by kernel_rfl) rfl (by decide) h⟩
