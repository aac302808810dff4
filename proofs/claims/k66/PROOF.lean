import PyProof.Rows.All
import Wide.All
import OpenK.AllK
import Wide.FinOn
import Lean
import PyProof.EqAt
import PyProof.EqKinds
import PyProof.TupleCall
import PyProof.NeKinds
import KE.KUnpack
import PySem.Challenge.RW_latticeworks_k66_spaces_carried
set_option Elab.async false
set_option linter.all false
set_option maxRecDepth 100000
namespace L2
open PySem PySem.Spec PyProof.Rows
noncomputable abbrev Key:=Sum Int Str
noncomputable def F6:Key→Value→Bool
 | .inl k,v=>Value.isInt k v
 | .inr x,v=>Value.isStrOf x v
noncomputable def Oi(w:World):Key→Int
 | .inl k=>hashInt k
 | .inr x=>hashStr w x
theorem eS:∀ {k:Key} {v:Value},F6 k v=true→(∃i t,k=Sum.inl i∧v=Value.int i t)∨(∃x t,k=Sum.inr x∧v=Value.str x t)
 | .inl i,v,h=>by
   obtain⟨t,e⟩:=Value.isInt_shape (k:=i) (v:=v) h
   exact .inl ⟨i,t,rfl,e⟩
 | .inr x,v,h=>by
   obtain⟨t,e⟩:=Value.isStrOf_shape (x:=x) (v:=v) h
   exact .inr ⟨x,t,rfl,e⟩
theorem Kc(a b:Int):decide ((Sum.inl a:Key)=Sum.inl b)=(a==b):=by
 by_cases e:a=b
 · subst e;simp
 · have h:¬(Sum.inl a:Key)=Sum.inl b:=fun q=>e (Sum.inl.inj q)
   rw[decide_eq_false h]
   exact(beq_eq_false_iff_ne.mpr e).symm
theorem Ln(a b:Str):decide ((Sum.inr a:Key)=Sum.inr b)=decide (a=b):=by
 by_cases e:a=b
 · subst e;simp
 · have h:¬(Sum.inr a:Key)=Sum.inr b:=fun q=>e (Sum.inr.inj q)
   rw[decide_eq_false h,decide_eq_false e]
theorem KR(a:Int)(b:Str):decide ((Sum.inl a:Key)=Sum.inr b)=false:=decide_eq_false (fun q=>nomatch q)
theorem Jj(a:Str)(b:Int):decide ((Sum.inr a:Key)=Sum.inl b)=false:=decide_eq_false (fun q=>nomatch q)
noncomputable def AQ(prog:Program)(w:World):PySem.KeyKind prog w Key where
 is:=F6
 hash:=Oi w
 inj:=fun v a b ha hb=>by
  rcases eS ha with⟨i,t,rfl,rfl⟩|⟨x,t,rfl,rfl⟩
  · rcases eS hb with⟨j,u,rfl,e⟩|⟨y,u,rfl,e⟩
    · injection e with e1 _;rw[e1]
    · exact nomatch e
  · rcases eS hb with⟨j,u,rfl,e⟩|⟨y,u,rfl,e⟩
    · exact nomatch e
    · injection e with e1 _;rw[e1]
 byValue:=fun k v h=>by
  rcases eS h with⟨i,t,rfl,rfl⟩|⟨x,t,rfl,rfl⟩<;>rfl
 pyHash:=fun hv h=>by
  rcases eS hv with⟨i,t,rfl,rfl⟩|⟨x,t,rfl,rfl⟩
  · exact wpAny_pyHash_int h
  · exact wpAny_pyHash_str h
 eqBool:=fun hu hv h=>by
  rcases eS hu with⟨i,t,rfl,rfl⟩|⟨x,t,rfl,rfl⟩
  · rcases eS hv with⟨j,u,rfl,rfl⟩|⟨y,u,rfl,rfl⟩
    · rw[Kc]at h;exact wpAny_eqBool_int h
    · rw[KR]at h;exact SeqAt.EqAt.int_str i t y u _ _ _ _ h
  · rcases eS hv with⟨j,u,rfl,rfl⟩|⟨y,u,rfl,rfl⟩
    · rw[Jj]at h;exact SeqAt.EqAt.str_int x t j u _ _ _ _ h
    · rw[Ln]at h;exact wpAny_eqBool_str h
 «strs» :=fun k x t v h=>by
  rcases eS h with⟨i,u,rfl,e⟩|⟨y,u,rfl,e⟩
  · exact nomatch e
  · injection e with e1 _
    subst e1
    cases v<;>rfl
end L2
namespace L2
open PySem PySem.Spec PyProof.Rows
inductive V where
 |aK|bl (b:Bool)|int (i:Int)|str (x:Str)|sO (b:Array UInt8)|sW (b:UInt64)|ref (a:Addr)|ty (n:String)
 deriving DecidableEq
noncomputable def RelV:V→Value→Prop
 | .aK,u=>u=Value.none
 | .bl b,u=>u=Value.bool b
 | .int i,u=>∃t,u=Value.int i t
 | .str x,u=>∃t,u=Value.str x t
 | .sO b,u=>∃t,u=Value.bytes b t
 | .sW b,u=>∃t,u=Value.float b t
 | .ref a,u=>u=Value.ref a
 | .ty n,u=>u=Value.type n
noncomputable abbrev Vals:List V→List Value→Prop:=Paired RelV
theorem Vals.length{xs:List V}{us:List Value}(r:Vals xs us):xs.length=us.length:=Paired.length r
theorem Vals.get:∀ {xs:List V} {us:List Value} {i:Nat} {x:V},Vals xs us→xs[i]?=some x→∃u,us[i]?=some u∧RelV x u
 |_,_,_,_,.nil,e=>by simp at e
 |_,_,0,_,.cons r _,e=>by simp at e;subst e;exact⟨_,rfl,r⟩
 |_,_,i+1,x,.cons _ t,e=>by
  obtain⟨u,h1,h2⟩:=Vals.get (i:=i) (x:=x) t (by simpa using e)
  exact⟨u,by simpa using h1,h2⟩
theorem Vals.set{x:V}{u:Value}(r:RelV x u):∀ {xs:List V} {us:List Value} (i:Nat),Vals xs us→Vals (xs.set i x) (us.set i u)
 |_,_,_,.nil=> .nil
 |_,_,0,.cons _ t=> .cons r t
 |_,_,i+1,.cons q t=> .cons q (Vals.set r i t)
theorem Vals.append:∀ {xs ys:List V} {us ws:List Value},Vals xs us→Vals ys ws→Vals (xs++ys) (us++ws)
 |_,_,_,_,.nil,s=>s
 |_,_,_,_,.cons r t,s=> .cons r (Vals.append t s)
theorem Vals.take:∀ {xs:List V} {us:List Value} (n:Nat),Vals xs us→Vals (xs.take n) (us.take n)
 |_,_,0,_=> .nil
 |_,_,_+1,.nil=> .nil
 |_,_,n+1,.cons r t=> .cons r (Vals.take n t)
theorem Vals.drop:∀ {xs:List V} {us:List Value} (n:Nat),Vals xs us→Vals (xs.drop n) (us.drop n)
 |_,_,0,r=>r
 |_,_,_+1,.nil=> .nil
 |_,_,n+1,.cons _ t=>Vals.drop n t
noncomputable def oH:Option V→Option Value→Prop
 |some v,some u=>RelV v u
 |none,none=>True
 |_,_=>False
noncomputable def KV{κ:Type}:List (κ×V)→List (κ×Value)→Prop:=Paired fun(p:κ×V) (q:κ×Value)=>p.1=q.1∧RelV p.2 q.2
noncomputable def kV:Key→V
 | .inl i=> .int i
 | .inr x=> .str x
inductive HO where
 |lst (xs:List V)
 |tup (xs:List V)
 |dK (kvs:List (Key×V))|dT (kvs:List (List Key×V))
 |set (S:Int→Bool) (n:Nat)
 |ins (C dx:Addr) (fs:List (Str×V))
 |own (x:Addr)
 |xd (fs:List (Str×V))
 |met (f x:Addr)
 |K_ (lo hi:Int)
 |gb (o:Obj) (u:HO)
 |jC (ps:Array Value)
 |ext (φ:Heap→Prop)
noncomputable abbrev Hp:=Addr→Option HO
noncomputable def upd(H:Hp)(a:Addr)(o:HO):Hp:=fun b=>if b=a then some o else H b
theorem aZ{H:Hp}{a:Addr}{o:HO}:upd H a o a=some o:=by unfold upd;rw[if_pos rfl]
theorem az{H:Hp}{a b:Addr}{o:HO}(h:b≠a):upd H a o b=H b:=by unfold upd;rw[if_neg h]
theorem Ib{H:Hp}{a:Addr}{o u:HO}:upd (upd H a o) a u=upd H a u:=by
 funext b;unfold upd;split<;>rfl
theorem dm{H:Hp}{a b:Addr}{o:HO}(h:H a=some o)(h':H b=none):a≠b:=by
 intro e;subst e;rw[h]at h';cases h'
section
variable (P:Program)(w:World)
noncomputable def dv(H:Hp)(h:Heap)(a:Addr):HO→Prop
 | .lst xs=>xs.length≤sizeLine∧∃(its:List Value) (n:Nat),Vals xs its∧h.get? a=some {cls:= .type "list",data:= .seq its.toArray n}
 | .tup xs=>xs.length≤sizeLine∧∃its:List Value,Vals xs its∧IsTup h a its.toArray
 | .dK kvs=>kvs.length≤sizeLine∧(a==sysModules)=false∧∃vs,KV kvs vs∧h.DictOf (AQ P w) a vs
 | .dT kvs=>kvs.length≤sizeLine∧(a==sysModules)=false∧∃xs:List (List Key×Addr×Value),
    Paired (fun(p:List Key×V) (q:List Key×Addr×Value)=>p.1=q.1∧H q.2.1=some (.tup (p.1.map kV))∧RelV p.2 q.2.2) kvs xs∧
    ∃o es ep,h.get? a=some o∧o.ExactDict∧o.data= .dict es ep∧es.toList=xs.map (entryOfKey (tupleKind (AQ P w)))∧(xs.map (·.1)).Nodup
 | .set S n=>h.SetOf (intKind P w) a S n
 | .ins C dx fs=>H dx=some (.own a)∧fs.length≤1000∧dx≠a∧h.get? a=some (PySem.W.instObj C dx)∧
    ∃mA,h.Ns1 dx mA∧(∀f,oH (fs.lookup f) (mA f))∧PySem.Within mA (fs.map (·.1))
 | .own _=>∃o,h.get? a=some o
 | .xd fs=>∃mA,h.Ns1 a mA∧∀f,oH (fs.lookup f) (mA f)
 | .K_ lo hi=>∃t u v,h.get? a=some {cls:= .type "range",data:= .fields #[.int lo t,.int hi u,.int 1 v]}
 | .gb o u=>h.get? a=some o∧dv H h a u
 | .jC ps=>h.get? a=some {cls:= .none,data:= .fields ps}
 | .met f x=>h.get? a=some (PySem.W.methodObj (.ref f) (.ref x))
 | .ext φ=>φ h∧(∃o,h.get? a=some o)∧∀h1 h2:Heap,φ h1→(∀o,h1.get? a=some o→h2.get? a=some o)→φ h2
noncomputable def gR(H:Hp)(h:Heap):Prop:=∀a o,H a=some o→dv P w H h a o
end
section
variable {P:Program}{w:World}{H H':Hp}{h h':Heap}{a:Addr}{o:HO}
theorem dv.lt(x:dv P w H h a o):a<h.objs.size:=by
 cases o with
 |lst xs=>obtain⟨_,_,_,_,e⟩:=x;exact Heap.lt_size e
 |tup xs=>obtain⟨_,_,_,p⟩:=x;exact p.lt
 |dK kvs=>obtain⟨_,_,_,_,o,_,_,e,_⟩:=x;exact Heap.lt_size e
 |dT kvs=>obtain⟨_,_,_,_,o,_,_,e,_⟩:=x;exact Heap.lt_size e
 |set S n=>obtain⟨o,_,_,_,e,_⟩:=x;exact Heap.lt_size e
 |ins C dx fs=>obtain⟨_,_,_,e,_⟩:=x;exact Heap.lt_size e
 |own y=>obtain⟨_,e⟩:=x;exact Heap.lt_size e
 |xd fs=>obtain⟨_,⟨_,_,_,e,_⟩,_⟩:=x;exact Heap.lt_size e
 |K_ lo hi=>obtain⟨_,_,_,e⟩:=x;exact Heap.lt_size e
 |gb ob u=>obtain⟨e,_⟩:=x;exact Heap.lt_size e
 |jC ps=>exact Heap.lt_size (show h.get? a=some _ from x)
 |met f y=>exact Heap.lt_size (show h.get? a=some _ from x)
 |ext φ=>obtain⟨_,⟨_,e⟩,_⟩:=x;exact Heap.lt_size e
theorem Paired.EU{α β:Type}{F G:α→β→Prop}:∀ {l₁:List α} {l₂:List β},Paired F l₁ l₂→(∀a b,F a b→G a b)→Paired G l₁ l₂
 |_,_,.nil,_=> .nil
 |_,_,.cons r t,f=> .cons (f _ _ r) (Paired.EU t f)
theorem dv.oN(x:dv P w H h a o)(k:∀b u,(b=a∨H b=some (.own a))→h.get? b=some u→h'.get? b=some u)
 (ho:∀b,H b=some (.own a)→H' b=some (.own a)) (ht:∀b xs,H b=some (.tup xs)→H' b=some (.tup xs)):dv P w H' h' a o:=by
 induction o with
 |lst xs=>obtain⟨z,its,n,r,e⟩:=x;exact⟨z,its,n,r,k _ _ (.inl rfl) e⟩
 |tup xs=>obtain⟨z,its,r,ob,e,c⟩:=x;exact⟨z,its,r,ob,k _ _ (.inl rfl) e,c⟩
 |dK kvs=>obtain⟨z,y,vs,r,ob,es,ep,e,c⟩:=x;exact⟨z,y,vs,r,ob,es,ep,k _ _ (.inl rfl) e,c⟩
 |dT kvs=>
  obtain⟨z,y,xs,r,ob,es,ep,e,c⟩:=x
  exact⟨z,y,xs,Paired.EU r fun p q z=>⟨z.1,ht _ _ z.2.1,z.2.2⟩,ob,es,ep,k _ _ (.inl rfl) e,c⟩
 |set S n=>obtain⟨ob,es,ep,t,e,c⟩:=x;exact⟨ob,es,ep,t,k _ _ (.inl rfl) e,c⟩
 |ins C dx fs=>
  obtain⟨d,z,ne,e,mA,⟨od,es,ep,e2,c⟩,r⟩:=x
  exact⟨ho _ d,z,ne,k _ _ (.inl rfl) e,mA,⟨od,es,ep,k _ _ (.inr d) e2,c⟩,r⟩
 |own y=>obtain⟨ob,e⟩:=x;exact⟨ob,k _ _ (.inl rfl) e⟩
 |xd fs=>obtain⟨mA,⟨od,es,ep,e,c⟩,r⟩:=x;exact⟨mA,⟨od,es,ep,k _ _ (.inl rfl) e,c⟩,r⟩
 |K_ lo hi=>obtain⟨t,u,v,e⟩:=x;exact⟨t,u,v,k _ _ (.inl rfl) e⟩
 |gb ob u ih=>obtain⟨e,q⟩:=x;exact⟨k _ _ (.inl rfl) e,ih q⟩
 |jC ps=>
  have e:h.get? a=some {cls:= .none,data:= .fields ps}:=x
  show h'.get? a=some {cls:= .none,data:= .fields ps}
  exact k a _ (.inl rfl) e
 |met f y=>
  have e:h.get? a=some (PySem.W.methodObj (.ref f) (.ref y)):=x
  show h'.get? a=some (PySem.W.methodObj (.ref f) (.ref y))
  exact k a _ (.inl rfl) e
 |ext φ=>obtain⟨p,⟨o,e⟩,st⟩:=x;exact⟨st _ _ p fun o q=>k _ _ (.inl rfl) q,⟨o,k _ _ (.inl rfl) e⟩,st⟩
theorem gR.lt(x:gR P w H h)(e:H a=some o):a<h.objs.size:=(x a o e).lt
theorem gR.fresh(x:gR P w H h)(e:h.objs.size≤a):H a=none:=by
 cases q:H a with
 |none=>rfl
 |some u=>exact absurd (Nat.lt_of_lt_of_le (x.lt q) e) (Nat.lt_irrefl _)
theorem gR.kept(x:gR P w H h)(k:∀b u,h.get? b=some u→h'.get? b=some u):gR P w H h':=fun a o e=>
 (x a o e).oN (fun b u _ q=>k b u q) (fun _ q=>q) fun _ _ q=>q
theorem gR.laid(x:gR P w H h)(k:∀b u,h.get? b=some u→h'.get? b=some u)(hp:h.objs.size≤a)(new:dv P w (upd H a o) h' a o):gR P w (upd H a o) h':=fun b u e=>by
 have hn:=x.fresh hp
 by_cases hb:b=a
 · subst hb;rw[aZ]at e;cases e;exact new
 · rw[az hb]at e
   exact(x b u e).oN (fun c v _ q=>k c v q) (fun c q=>by rw[az (dm q hn)];exact q) fun c xs q=>by rw[az (dm q hn)];exact q
end
noncomputable def Rd(H:Hp)(a:Addr)(u:HO):Prop:=H a=some u∨∃o,H a=some (.gb o u)
theorem Rd.of{H:Hp}{a:Addr}{u:HO}(h:H a=some u):Rd H a u:= .inl h
theorem Rd.ok{P:Program}{w:World}{H:Hp}{h:Heap}{a:Addr}{u:HO}(r:Rd H a u)(x:gR P w H h):dv P w H h a u:=by
 rcases r with r|⟨o,r⟩
 · exact x a u r
 · obtain⟨_,q⟩:=x a _ r
   exact q
noncomputable def F2:Option HO→Prop
 |some (.lst _)=>True
 |some (.dK _)=>True
 |some (.dT _)=>True
 |some (.set _ _)=>True
 |some (.ins _ _ _)=>True
 |some (.ext _)=>True
 |_=>False
section
variable {P:Program}{w:World}{H:Hp}{h h':Heap}{x e:Addr}{o':HO}
theorem gR.write(ok:gR P w H h)(mu:F2 (H x))(he:e=x∨H e=some (.own x))(k:∀b u,b≠e→h.get? b=some u→h'.get? b=some u)(heo:∃u,h'.get? e=some u)
 (new:dv P w (upd H x o') h' x o'):gR P w (upd H x o') h':=fun b u q=>by
 have nown:∀c y,H c=some (.own y)→c≠x:=fun c y r z=>by subst z;rw[r]at mu;exact mu
 have ntup:∀c xs,H c=some (.tup xs)→c≠x:=fun c xs r z=>by subst z;rw[r]at mu;exact mu
 by_cases hb:b=x
 · subst hb;rw[aZ]at q;cases q;exact new
 · rw[az hb]at q
   by_cases hbe:b=e
   · have q':H b=some (.own x):=by
      rcases he with z|z
      · exact absurd (hbe.trans z) hb
      · rw[hbe];exact z
     rw[q]at q';cases q'
     obtain⟨v,hv⟩:=heo
     exact⟨v,by rw[hbe];exact hv⟩
   · refine(ok b u q).oN (fun c v hc r=>k c v ?_ r) (fun c r=>by rw[az (nown c b r)];exact r) fun c xs r=>by rw[az (ntup c xs r)];exact r
     rcases hc with rfl|hc
     · exact hbe
     · rintro rfl
       rcases he with z|z
       · exact nown c b hc z
       · rw[hc]at z;cases z;exact hb rfl
end
structure Un(fs ex:List Addr)(H H':Hp)(h h':Heap):Prop where
 keep:∀b o,h.get? b=some o→H b=none→b∉fs→b∉ex→h'.get? b=some o
 slot:∀b o,h.get? b=some o→H b=none→b∈fs→b∉ex→∃sl,h'.get? b=some {o with slots:=sl}
 free:∀b o,h.get? b=some o→H b=none→b∉ex→H' b=none
 there:∀b o,h.get? b=some o→b∉ex→∃o',h'.get? b=some o'
 oO:∀b xs,H b=some (.tup xs)→H' b=some (.tup xs)
 nA:∀b o u,H b=some (.gb o u)→H' b=some (.gb o u)
 nO:∀b ps,H b=some (.jC ps)→∃more,H' b=some (.jC (ps++more))
section
variable {fs fs' ex ex':List Addr}{H H1 H2:Hp}{h h1 h2 h':Heap}{a x e:Addr}{o:HO}
theorem Un.any(u:Un fs ex H H1 h h1){b:Addr}{ob:Obj}(q:h.get? b=some ob)(n:H b=none)(hx:b∉ex):∃sl,h1.get? b=some {ob with slots:=sl}:=by
 by_cases hb:b∈fs
 · exact u.slot b ob q n hb hx
 · exact⟨ob.slots,u.keep b ob q n hb hx⟩
theorem Un.kept(k:∀b u,h.get? b=some u→h'.get? b=some u):Un fs ex H H h h':=
 ⟨fun b ob q _ _ _=>k b ob q,fun b ob q _ _ _=>⟨ob.slots,k b ob q⟩,fun _ _ _ n _=>n,fun b ob q _=>⟨ob,k b ob q⟩,fun _ _ q=>q,fun _ _ _ q=>q,fun _ ps q=>⟨#[],by rw[q];simp⟩⟩
theorem Un.refl:Un fs ex H H h h:=Un.kept fun _ _ q=>q
theorem Un.laid(k:∀b u,h.get? b=some u→h'.get? b=some u)(hp:h.objs.size≤a)(hn:H a=none):Un fs ex H (upd H a o) h h' where
 keep:=fun b u q _ _ _=>k b u q
 slot:=fun b u q _ _ _=>⟨u.slots,k b u q⟩
 free:=fun b u q n _=>by rw[az (Nat.ne_of_lt (Nat.lt_of_lt_of_le (Heap.lt_size q) hp))];exact n
 there:=fun b u q _=>⟨u,k b u q⟩
 oO:=fun b xs q=>by rw[az (dm q hn)];exact q
 nA:=fun b u xs q=>by rw[az (dm q hn)];exact q
 nO:=fun b ps q=>⟨#[],by rw[az (dm q hn),q];simp⟩
theorem Un.write(mu:F2 (H x))(he:e=x∨H e=some (.own x))(k:∀b u,b≠e→h.get? b=some u→h'.get? b=some u)(heo:∃u,h'.get? e=some u):Un fs ex H (upd H x o) h h':=by
 have hx:∀b,H b=none→b≠x:=fun b n z=>by subst z;rw[n]at mu;exact mu
 have hb:∀b,H b=none→b≠e:=fun b n z=>by
  subst z
  rcases he with r|r
  · exact hx b n r
  · rw[n]at r;cases r
 have hm:∀b u,H b=some u→¬F2 (some u)→b≠x:=fun b u q nm z=>by subst z;rw[q]at mu;exact nm mu
 refine⟨fun b u q n _ _=>k b u (hb b n) q,fun b u q n _ _=>⟨u.slots,k b u (hb b n) q⟩,fun b u q n _=>by rw[az (hx b n)];exact n,fun b u q _=>?_,
  fun b xs q=>by rw[az (hm b _ q fun z=>z)];exact q,fun b u xs q=>by rw[az (hm b _ q fun z=>z)];exact q,fun b ps q=>⟨#[],by rw[az (hm b _ q fun z=>z),q];simp⟩⟩
 by_cases hbe:b=e
 · subst hbe;exact heo
 · exact⟨u,k b u hbe q⟩
end
noncomputable def FV(h:Heap)(H:Hp):List Addr:=(List.range h.objs.size).filter fun a=>(H a).isSome
noncomputable def oX(h:Heap)(H:Hp):Heap:=PySem.W.hideAll h (FV h H)
theorem D5(h:Heap)(H:Hp):(oX h H).objs.size=h.objs.size:=PySem.W.hideAll_size _ _
theorem pJ{h:Heap}{H:Hp}{b:Addr}{o:Obj}(e:h.get? b=some o)(n:H b=none):(oX h H).get? b=some o:=
 PySem.W.hideAll_get _ e fun hm=>by
  have q:(H b).isSome=true:=(List.mem_filter.mp hm).2
  rw[n]at q;simp at q
theorem HM{h:Heap}{H:Hp}{b:Addr}{o:Obj}(e:(oX h H).get? b=some o):h.get? b=some o∧H b=none:=by
 have e':h.get? b=some o:=PySem.W.of_hideAll (FV h H) e
 refine⟨e',?_⟩
 cases q:H b with
 |none=>rfl
 |some x=>
  have hm:b∈FV h H:=List.mem_filter.mpr ⟨List.mem_range.mpr (Heap.lt_size e'),by simp[q]⟩
  have z:(oX h H).get? b=none:=PySem.W.hideAll_none (FV h H) hm
  rw[z]at e;cases e
noncomputable def HK(g h:Heap)(L:Addr):List (Addr×Obj):=(List.range h.objs.size).filterMap fun a=>if a=L∨(g.get? a).isSome=true then none else(h.get? a).map fun o=>(a,o)
noncomputable def rest(g h:Heap)(L d:Addr):List (Addr×Obj):=(HK g h L).filter fun p=>decide (p.1≠d)
end L2
namespace L2
open PySem PySem.Spec PyProof.Rows
structure Mod(K:PySem.W.Frag)(mg:Str→Option Value)(base:Heap):Prop where
 C4:K.In base
 glob:base.Ns mainGlobals mg
 blt:∃mb,base.Ns builtinsNs mb∧∀x:Str,x≠"__name__"→mb x=bootBuiltins x
 nolimit:base.NoLimit
 seer:base.NoSeer
 bmain:∃bm ob,mg "__builtins__"=some (.ref bm)∧bm≠builtinsNs∧base.get? bm=some ob∧ob.cls= .type "module"∧ob.dict=some builtinsNs∧ob.data= .plain
structure Cx where
 prog:Program
 w:World
 K:PySem.W.Frag
 mg:Str→Option Value
 base:Heap
 A:Around
 N:List Str
 s₀:Shared
 H₀:Hp
 env:Env
 outer:List Env
 stack:List Env
 ex:List Addr
 fn:Str→Bool
 calm:Bool
 pn:List (Addr×Obj)
 xe:Value→Shared→Prop
noncomputable def pC(l:List Env):List Addr:=l.filterMap (·.frame)
noncomputable abbrev Cx.fs(X:Cx):List Addr:=pC X.outer
noncomputable def yT(sc:Scope)(x:Str):Prop:=sc.names.lookup x=some .local∨sc.names.lookup x=some .cell∨sc.names.lookup x=some .free
noncomputable def Loc(sc:Scope)(x:Str):Prop:=sc.names.lookup x=some .local∨sc.names.lookup x=some .cell
noncomputable def Look(env:Env)(h:Heap)(m:Str→Option Value)(x:Str)(u:Value):Prop:=
 (env.kindOf x=some .local∧m x=some u)∨((env.kindOf x=some .cell∨env.kindOf x=some .free)∧∃c,env.cells.lookup x=some c∧h.IsCell c (some u))
structure Cx.Ok(X:Cx):Prop where
 mod:Mod X.K X.mg X.base
 kind:X.env.scope.kind= .function
 glob:X.env.globals=mainGlobals
 blt:X.env.builtins=builtinsNs
 above:X.s₀.heap.objs.size≤X.env.locals
 inj:∀x y c,X.env.cells.lookup x=some c→X.env.cells.lookup y=some c→x=y
 has:∀x,(X.env.kindOf x=some .cell∨X.env.kindOf x=some .free)→∃c,X.env.cells.lookup x=some c
 ym:∀x c,X.fn x=true→X.env.cells.lookup x=some c→X.s₀.heap.objs.size≤c
 hd:X.calm=true→X.A.handled=none
 frames:X.A.frames=some X.stack
 Ah:X.stack=X.outer∨(X.stack=X.env::X.outer∧X.env.frame=some X.env.locals)
 D7:∀b∈X.ex,b≠X.env.locals∧∀x c,X.env.cells.lookup x=some c→c≠b
 bs:∀b o,X.base.get? b=some o→X.s₀.heap.get? b=some o∧X.H₀ b=none
 qD:X.base.objs.size≤X.s₀.heap.objs.size
 tL:∀b o,X.base.get? b=some o→b∉X.ex
 tU:∀b∈X.ex,b∉X.fs
 ka:X.s₀.heap.FunFrames X.base X.outer
 uU:∀b∈X.fs,X.H₀ b=none
 gt:X.prog.given.tree=none
structure Inv(X:Cx)(pins:List (Addr×Obj))(σ:List (Option V))(H:Hp)(s:Shared):Prop where
 ok:X.Ok
 os:s.os=X.s₀.os
 bare:AllBare s.gens
 base:Un X.fs X.ex X.H₀ H X.s₀.heap s.heap
 loc:∃m,s.heap.Ns X.env.locals m∧∀(i:Nat) (x:Str) (v:V),X.N[i]?=some x→σ[i]?=some (some v)→yT X.env.scope x→∃u,RelV v u∧Look X.env s.heap m x u
 cell:∀x c,X.env.cells.lookup x=some c→∃v,s.heap.IsCell c v
 free:H X.env.locals=none
 hZ:∀x c,X.env.cells.lookup x=some c→H c=none
 pin:∀p∈X.pn++pins,s.heap.get? p.1=some p.2∧H p.1=none∧p.1≠X.env.locals∧p.1∉X.fs∧∀v,p.2.data≠ .cell v
 aN:gR X.prog X.w H s.heap
 len:σ.length=X.N.length
section
variable {X:Cx}{pins:List (Addr×Obj)}{σ:List (Option V)}{H H':Hp}{s:Shared}{h':Heap}
theorem Cx.Ok.Oq(ok:X.Ok){b:Addr}{o:Obj}(e:X.base.get? b=some o):b∉X.fs:=fun hb=>by
 have:=(ok.ka.mem hb).1
 rw[e]at this;cases this
theorem Inv.bs(I:Inv X pins σ H s):∀b o,X.base.get? b=some o→s.heap.get? b=some o∧H b=none:=fun b o e=>
 ⟨I.base.keep b o (I.ok.bs b o e).1 (I.ok.bs b o e).2 (I.ok.Oq e) (I.ok.tL b o e),I.base.free b o (I.ok.bs b o e).1 (I.ok.bs b o e).2 (I.ok.tL b o e)⟩
theorem Inv.bk(I:Inv X pins σ H s):∀b o,X.base.get? b=some o→s.heap.get? b=some o:=fun b o e=>(I.bs b o e).1
theorem Inv.mod(I:Inv X pins σ H s):Mod X.K X.mg X.base:=I.ok.mod
theorem Inv.gB(I:Inv X pins σ H s):X.K.In s.heap:=I.ok.mod.C4.keeps I.bk
theorem Inv.nolimit(I:Inv X pins σ H s):s.heap.NoLimit:=I.ok.mod.nolimit.keeps I.bk
theorem Inv.lt(I:Inv X pins σ H s):X.env.locals<s.heap.objs.size:=let⟨_,hn,_⟩:=I.loc;hn.lt
theorem Inv.sz(I:Inv X pins σ H s):X.s₀.heap.objs.size≤s.heap.objs.size:=Nat.le_trans I.ok.above (Nat.le_of_lt I.lt)
theorem Inv.JN(I:Inv X pins σ H s){a:Addr}(h:s.heap.objs.size≤a):a∉X.fs:=fun hb=>by
 obtain⟨_,o,ho,_⟩:=I.ok.ka.mem hb
 exact absurd (Nat.lt_of_lt_of_le (Heap.lt_size ho) (Nat.le_trans I.sz h)) (Nat.lt_irrefl _)
theorem Inv.x9(I:Inv X pins σ H s):∀x c,X.env.cells.lookup x=some c→c≠X.env.locals:=fun x c e z=>by
 obtain⟨v,o,ho,hd⟩:=I.cell x c e
 obtain⟨m,⟨o',es,ep,ho',hd',_⟩,_⟩:=I.loc
 rw[z,ho']at ho;cases ho;rw[hd']at hd;cases hd
theorem Inv.ka(I:Inv X pins σ H s):s.heap.FunFrames X.base X.outer:=by
 have all:∀(l:List Env),(∀b∈pC l,b∈X.fs)→X.s₀.heap.FunFrames X.base l→s.heap.FunFrames X.base l:=by
  intro l
  induction l with
  |nil=>intro _ _;trivial
  |cons env r ih=>
   intro hs hl
   obtain⟨hk,⟨L,o,hf,hn,ho,hd⟩,hr⟩:=hl
   have hL:L∈X.fs:=hs L (by unfold pC;rw[List.filterMap_cons,hf];exact List.mem_cons_self)
   obtain⟨sl,e⟩:=I.base.slot L o ho (I.ok.uU L hL) hL fun z=>I.ok.tU L z hL
   exact⟨hk,⟨L,_,hf,hn,e,hd⟩,ih (fun b hb=>hs b (by unfold pC;rw[List.filterMap_cons,hf];exact List.mem_cons_of_mem _ hb)) hr⟩
 exact all X.outer (fun _ hb=>hb) I.ok.ka
theorem Inv.stack(I:Inv X pins σ H s):s.heap.FunFrames X.base X.stack:=by
 rcases I.ok.Ah with e|⟨e,hf⟩
 · rw[e];exact I.ka
 · rw[e]
   obtain⟨m,hn,_⟩:=I.loc
   refine .cons (by rw[I.ok.kind];decide) hf hn ?_ I.ka
   exact Heap.get?_none_of_le (Nat.le_trans I.ok.qD I.ok.above)
theorem Inv.yr(I:Inv X pins σ H s):∀b∈pC X.stack,b∈X.env.locals::X.fs:=fun b hb=>by
 rcases I.ok.Ah with e|⟨e,hf⟩
 · rw[e]at hb;exact List.mem_cons_of_mem _ hb
 · rw[e]at hb
   unfold pC at hb
   rw[List.filterMap_cons,hf]at hb
   exact hb
theorem Inv.vT(I:Inv X pins σ H s):∀b∈pC X.stack,H b=none:=fun b hb=>by
 rcases List.mem_cons.mp (I.yr b hb)with e|hb
 · rw[e];exact I.free
 · obtain⟨_,o,ho,_⟩:=I.ok.ka.mem hb
   exact I.base.free b o ho (I.ok.uU b hb) fun z=>I.ok.tU b z hb
theorem Inv.step{g':Array GenState}{t':Nat}{d':Drawn}{ch:List Addr}(I:Inv X pins σ H s)
 (hch:∀b∈ch,(b∈X.ex∨X.s₀.heap.objs.size≤b)∧b≠X.env.locals∧(∀x c,X.env.cells.lookup x=some c→c≠b)∧∀p∈X.pn++pins,p.1≠b)
 (keep:∀b o,b≠X.env.locals→b∉X.fs→b∉ch→s.heap.get? b=some o→H b=none→h'.get? b=some o)
 (slot:∀b o,b≠X.env.locals→b∈X.fs→b∉ch→s.heap.get? b=some o→H b=none→∃sl,h'.get? b=some {o with slots:=sl}) (free:∀b o,b∉ch→s.heap.get? b=some o→H b=none→H' b=none)
 (there:∀b o,b∉ch→s.heap.get? b=some o→∃o',h'.get? b=some o')
 (oO:∀b xs,H b=some (.tup xs)→H' b=some (.tup xs)) (nA:∀b o u,H b=some (.gb o u)→H' b=some (.gb o u)) (nO:∀b ps,H b=some (.jC ps)→∃more,H' b=some (.jC (ps++more)))
 (ns:∀m,s.heap.Ns X.env.locals m→h'.Ns X.env.locals m) (aN:gR X.prog X.w H' h') (hg:AllBare g'):
 Inv X pins σ H' {s with heap:=h',gens:=g',drawn:=d',toks:=t'}:=by
 have neL:∀b o,X.s₀.heap.get? b=some o→b≠X.env.locals:=fun b o e=>Nat.ne_of_lt (Nat.lt_of_lt_of_le (Heap.lt_size e) I.ok.above)
 have neC:∀b o,X.s₀.heap.get? b=some o→b∉X.ex→b∉ch:=fun b o e hx hb=>by
  rcases(hch b hb).1 with z|z
  · exact hx z
  · exact absurd (Nat.lt_of_lt_of_le (Heap.lt_size e) z) (Nat.lt_irrefl _)
 have cellK:∀x c,X.env.cells.lookup x=some c→∀v,s.heap.IsCell c v→h'.IsCell c v:=fun x c e v ⟨o,ho,hd⟩=>by
  have nch:c∉ch:=fun z=>(hch c z).2.2.1 x c e rfl
  by_cases hc:c∈X.fs
  · obtain⟨sl,q⟩:=slot c o (I.x9 x c e) hc nch ho (I.hZ x c e)
    exact⟨_,q,hd⟩
  · exact⟨o,keep c o (I.x9 x c e) hc nch ho (I.hZ x c e),hd⟩
 refine⟨I.ok,I.os,hg,⟨fun b o e n hb hx=>?_,fun b o e n hb hx=>?_,fun b o e n hx=>?_,fun b o e hx=>?_,fun b xs e=>oO b xs (I.base.oO b xs e),fun b o xs e=>nA b o xs (I.base.nA b o xs e),fun b ps e=>?_⟩,?_,fun x c e=>?_,?_,fun x c e=>?_,fun p hp=>?_,aN,I.len⟩
 · exact keep b o (neL b o e) hb (neC b o e hx) (I.base.keep b o e n hb hx) (I.base.free b o e n hx)
 · obtain⟨sl,e1⟩:=I.base.slot b o e n hb hx
   obtain⟨sl',e2⟩:=slot b _ (neL b o e) hb (neC b o e hx) e1 (I.base.free b o e n hx)
   exact⟨sl',e2⟩
 · obtain⟨o',e1⟩:=I.base.there b o e hx
   exact free b o' (neC b o e hx) e1 (I.base.free b o e n hx)
 · obtain⟨o',e1⟩:=I.base.there b o e hx
   exact there b o' (neC b o e hx) e1
 · obtain⟨m1,e1⟩:=I.base.nO b ps e
   obtain⟨m2,e2⟩:=nO b _ e1
   exact⟨m1++m2,by rw[e2,Array.append_assoc]⟩
 · obtain⟨m,hn,hl⟩:=I.loc
   refine⟨m,ns m hn,fun i x v e1 e2 e3=>?_⟩
   obtain⟨u,r,l⟩:=hl i x v e1 e2 e3
   refine⟨u,r,?_⟩
   rcases l with l|⟨k,c,e,z⟩
   · exact .inl l
   · exact .inr ⟨k,c,e,cellK x c e _ z⟩
 · obtain⟨v,z⟩:=I.cell x c e
   exact⟨v,cellK x c e v z⟩
 · obtain⟨m,⟨o,_,_,ho,_⟩,_⟩:=I.loc
   exact free _ o (fun z=>(hch _ z).2.1 rfl) ho I.free
 · obtain⟨v,o,ho,hd⟩:=I.cell x c e
   exact free c o (fun z=>(hch c z).2.2.1 x c e rfl) ho (I.hZ x c e)
 · obtain⟨e,n,ne,nf,d⟩:=I.pin p hp
   have nch:p.1∉ch:=fun z=>(hch p.1 z).2.2.2 p hp rfl
   exact⟨keep p.1 p.2 ne nf nch e n,free p.1 p.2 nch e n,ne,nf,d⟩
theorem Inv.un{t':Nat}(I:Inv X pins σ H s)(u:Un X.fs [] H H' s.heap h')(aN:gR X.prog X.w H' h'):Inv X pins σ H' {s with heap:=h',toks:=t'}:=by
 obtain⟨m,⟨o,es,ep,ho,r⟩,_⟩:=id I.loc
 obtain⟨sl,hL⟩:=u.any ho I.free (by simp)
 exact I.step (g':=s.gens) (d':=s.drawn) (ch:=[]) (fun _ z=>nomatch z) (fun b o _ hb _ e n=>u.keep b o e n hb (by simp)) (fun b o _ hb _ e n=>u.slot b o e n hb (by simp)) (fun b o _ e n=>u.free b o e n (by simp)) (fun b o _ e=>u.there b o e (by simp)) u.oO u.nA u.nO (fun m' hm=>by
  obtain⟨o',es',ep',ho',r'⟩:=hm
  rw[ho]at ho';cases ho'
  exact⟨_,es',ep',hL,r'⟩) aN I.bare
theorem Inv.call{g':Array GenState}{t':Nat}{d':Drawn}{ch:List Addr}(I:Inv X pins σ H s)(u:Un (pC X.stack) ch H H' s.heap h')(aN:gR X.prog X.w H' h')(hg:AllBare g')
 (hch:∀b∈ch,(b∈X.ex∨X.s₀.heap.objs.size≤b)∧b≠X.env.locals∧(∀x c,X.env.cells.lookup x=some c→c≠b)∧∀p∈X.pn++pins,p.1≠b):
 Inv X pins σ H' {s with heap:=h',gens:=g',drawn:=d',toks:=t'}:=by
 obtain⟨m,⟨o,es,ep,ho,r⟩,_⟩:=id I.loc
 obtain⟨sl,hL⟩:=u.any ho I.free fun z=>(hch _ z).2.1 rfl
 exact I.step (ch:=ch) hch (fun b o hL hb hc e n=>u.keep b o e n (fun z=>(List.mem_cons.mp (I.yr b z)).elim hL hb) hc) (fun b o _ _ hc e n=>u.any e n hc) (fun b o hc e n=>u.free b o e n hc) (fun b o hc e=>u.there b o e hc) u.oO u.nA u.nO (fun m' hm=>by
  obtain⟨o',es',ep',ho',r'⟩:=hm
  rw[ho]at ho';cases ho'
  exact⟨_,es',ep',hL,r'⟩) aN hg
theorem Inv.turned{t':Nat}{it:Addr}(I:Inv X pins σ H s)(k:∀b o,b≠it→s.heap.get? b=some o→h'.get? b=some o)(hn:H it=none)(hL:it≠X.env.locals)
 (h1:it∈X.ex∨X.s₀.heap.objs.size≤it) (h2:∀x c,X.env.cells.lookup x=some c→c≠it) (h3:∀p∈X.pn++pins,p.1≠it):Inv X pins σ H {s with heap:=h',toks:=t'}:=by
 have nit:∀b u,H b=some u→b≠it:=fun b u e z=>by rw[z,hn]at e;cases e
 refine I.step (g':=s.gens) (d':=s.drawn) (ch:=[it]) (fun b hb=>?_) (fun b o _ _ hc e _=>k b o (fun z=>hc (by simp[z])) e) (fun b o _ _ hc e _=>⟨o.slots,k b o (fun z=>hc (by simp[z])) e⟩) (fun _ _ _ _ n=>n)
  (fun b o hc e=>⟨o,k b o (fun z=>hc (by simp[z])) e⟩) (fun _ _ e=>e) (fun _ _ _ e=>e) (fun b ps e=>⟨#[],by rw[e];simp⟩) (fun m hm=>?_) (fun b u e=>?_) I.bare
 · have e:b=it:=by simpa using hb
   subst e
   exact⟨h1,hL,h2,h3⟩
 · obtain⟨o,es,ep,ho,r⟩:=hm
   exact⟨o,es,ep,k _ o (Ne.symm hL) ho,r⟩
 · refine(I.aN b u e).oN (fun c v hc q=>k c v ?_ q) (fun _ q=>q) fun _ _ q=>q
   rcases hc with z|z
   · rw[z];exact nit b u e
   · exact nit c _ z
theorem Inv.tok(I:Inv X pins σ H s)(t:Nat):Inv X pins σ H {s with toks:=t}:=I.un (h':=s.heap) (t':=t) Un.refl I.aN
theorem Inv.kept{t':Nat}(I:Inv X pins σ H s)(k:∀b u,s.heap.get? b=some u→h'.get? b=some u):Inv X pins σ H {s with heap:=h',toks:=t'}:=I.un (Un.kept k) (I.aN.kept k)
theorem Inv.laid{a:Addr}{o:HO}{t':Nat}(I:Inv X pins σ H s)(k:∀b u,s.heap.get? b=some u→h'.get? b=some u)(hp:s.heap.objs.size≤a)(new:dv X.prog X.w (upd H a o) h' a o):
 Inv X pins σ (upd H a o) {s with heap:=h',toks:=t'}:=I.un (Un.laid k hp (I.aN.fresh hp)) (I.aN.laid k hp new)
theorem Inv.write{x e:Addr}{o:HO}{t':Nat}(I:Inv X pins σ H s)(mu:F2 (H x))(he:e=x∨H e=some (.own x))(k:∀b u,b≠e→s.heap.get? b=some u→h'.get? b=some u)(heo:∃u,h'.get? e=some u)
 (new:dv X.prog X.w (upd H x o) h' x o):Inv X pins σ (upd H x o) {s with heap:=h',toks:=t'}:=I.un (Un.write mu he k heo) (I.aN.write mu he k heo new)
theorem Inv.sh{pins':List (Addr×Obj)}(I:Inv X pins σ H s)(h:∀p∈pins',s.heap.get? p.1=some p.2∧H p.1=none∧p.1≠X.env.locals∧p.1∉X.fs∧∀v,p.2.data≠ .cell v):Inv X pins' σ H s:=
 ⟨I.ok,I.os,I.bare,I.base,I.loc,I.cell,I.free,I.hZ,fun p hp=>(List.mem_append.mp hp).elim (fun z=>I.pin p (List.mem_append_left _ z)) (h p),I.aN,I.len⟩
theorem ye{N:List Str}(hN:N.Nodup){i j:Nat}{x:Str}(a:N[i]?=some x)(b:N[j]?=some x):i=j:=by
 obtain⟨h1,e1⟩:=List.getElem?_eq_some_iff.mp a
 obtain⟨h2,e2⟩:=List.getElem?_eq_some_iff.mp b
 exact(List.getElem_inj hN).mp (e1.trans e2.symm)
theorem wN{M:Model}{A:Around}{E:Value→Shared→Prop}{i:Nat}{x:Str}{v:V}{u:Value}{Q:Unit→Shared→Prop}(I:Inv X pins σ H s)(hN:X.N.Nodup)(hi:X.N[i]?=some x)(hx:Loc X.env.scope x)(r:RelV v u)
 (h:∀s',Inv X pins (σ.set i (some v)) H s'→(∃a,Heap.SameBut a s.heap s'.heap∧(a=X.env.locals∨X.env.cells.lookup x=some a))→Q () s') (hf:X.fn x=true∨X.env.scope.names.lookup x=some .local:=by first|exact .inl rfl|exact .inr rfl|assumption):wpAny M A (storeName X.env x u) Q E s:=by
 obtain⟨m,hn,hl⟩:=id I.loc
 have hcls:(X.env.scope.kind== .class||(X.env.scope.kind== .module&&X.env.locals != X.env.globals))=false:=by rw[I.ok.kind];rfl
 have hiσ:i<σ.length:=by rw[I.len];exact(List.getElem?_eq_some_iff.mp hi).1
 have x9:=I.x9
 have tracked:∀ {a:Addr} {h':Heap},(∃o,s.heap.get? a=some o∧H a=none)→Heap.SameBut a s.heap h'→gR X.prog X.w H h':=fun{a h'} ha hs b ob e=>by
  obtain⟨_,_,hfree⟩:=ha
  refine(I.aN b ob e).oN (fun c w' hc q=>(hs.2 c ?_).trans q) (fun _ q=>q) fun _ _ q=>q
  rintro rfl
  rcases hc with rfl|hc
  · rw[hfree]at e;cases e
  · rw[hfree]at hc;cases hc
 rcases hx with hk|hk
 · refine wpAny_storeName_local hk hn (fun h' hn' hs=>?_) hcls
   obtain⟨oL,_,_,hoL,_⟩:=id hn
   refine h _ ⟨I.ok,I.os,I.bare,⟨fun b o e n hb hx=>?_,fun b o e n hb hx=>?_,I.base.free,fun b o e hx=>?_,I.base.oO,I.base.nA,I.base.nO⟩,⟨_,hn',fun j y v' e1 e2 e3=>?_⟩,fun y c e=>?_,I.free,I.hZ,fun p hp=>?_,tracked ⟨oL,hoL,I.free⟩ hs,by simpa using I.len⟩ ⟨_,hs,.inl rfl⟩
   · exact(hs.2 b (Nat.ne_of_lt (Nat.lt_of_lt_of_le (Heap.lt_size e) I.ok.above))).trans (I.base.keep b o e n hb hx)
   · obtain⟨sl,e1⟩:=I.base.slot b o e n hb hx
     exact⟨sl,(hs.2 b (Nat.ne_of_lt (Nat.lt_of_lt_of_le (Heap.lt_size e) I.ok.above))).trans e1⟩
   · obtain⟨o',e1⟩:=I.base.there b o e hx
     exact⟨o',(hs.2 b (Nat.ne_of_lt (Nat.lt_of_lt_of_le (Heap.lt_size e) I.ok.above))).trans e1⟩
   · by_cases hj:j=i
     · subst hj
       rw[hi]at e1;cases e1
       rw[List.getElem?_set_self hiσ]at e2
       cases e2
       exact⟨u,r,.inl ⟨hk,by simp⟩⟩
     · rw[List.getElem?_set_ne (Ne.symm hj)]at e2
       obtain⟨u',r',q⟩:=hl j y v' e1 e2 e3
       refine⟨u',r',?_⟩
       rcases q with⟨k,e⟩|⟨k,c,e,z⟩
       · refine .inl ⟨k,?_⟩
         have:y≠x:=fun e=>hj (ye hN e1 (e▸hi))
         simp[this,e]
       · exact .inr ⟨k,c,e,z.sameBut hs (x9 y c e)⟩
   · obtain⟨w',z⟩:=I.cell y c e
     exact⟨w',z.sameBut hs (x9 y c e)⟩
   · obtain⟨e,n,ne,nf,d⟩:=I.pin p hp
     exact⟨(hs.2 p.1 ne).trans e,n,ne,nf,d⟩
 · have hfn:X.fn x=true:=by
    rcases hf with z|z
    · exact z
    · rw[z]at hk;cases hk
   obtain⟨c,hc⟩:=I.ok.has x (.inl hk)
   obtain⟨w',z⟩:=I.cell x c hc
   refine wpAny_storeName_cell I.ok.kind hk hc z (fun h' hc' hs=>?_)
   obtain⟨oc,hoc,hocd⟩:=id z
   refine h {s with heap:=h'} ⟨I.ok,I.os,I.bare,⟨fun b o e n hb hx=>?_,fun b o e n hb hx=>?_,I.base.free,fun b o e hx=>?_,I.base.oO,I.base.nA,I.base.nO⟩,⟨m,hn.sameBut hs (Ne.symm (x9 x c hc)),fun j y v' e1 e2 e3=>?_⟩,fun y c' e=>?_,I.free,I.hZ,fun p hp=>?_,tracked ⟨oc,hoc,I.hZ x c hc⟩ hs,by simpa using I.len⟩ ⟨c,hs,.inr hc⟩
   · exact(hs.2 b (Nat.ne_of_lt (Nat.lt_of_lt_of_le (Heap.lt_size e) (I.ok.ym x c hfn hc)))).trans (I.base.keep b o e n hb hx)
   · obtain⟨sl,e1⟩:=I.base.slot b o e n hb hx
     exact⟨sl,(hs.2 b (Nat.ne_of_lt (Nat.lt_of_lt_of_le (Heap.lt_size e) (I.ok.ym x c hfn hc)))).trans e1⟩
   · obtain⟨o',e1⟩:=I.base.there b o e hx
     exact⟨o',(hs.2 b (Nat.ne_of_lt (Nat.lt_of_lt_of_le (Heap.lt_size e) (I.ok.ym x c hfn hc)))).trans e1⟩
   · by_cases hj:j=i
     · subst hj
       rw[hi]at e1;cases e1
       rw[List.getElem?_set_self hiσ]at e2
       cases e2
       exact⟨u,r,.inr ⟨.inl hk,c,hc,hc'⟩⟩
     · rw[List.getElem?_set_ne (Ne.symm hj)]at e2
       obtain⟨u',r',q⟩:=hl j y v' e1 e2 e3
       refine⟨u',r',?_⟩
       rcases q with q|⟨k,c',e,z'⟩
       · exact .inl q
       · refine .inr ⟨k,c',e,z'.sameBut hs ?_⟩
         rintro rfl
         exact hj (ye hN e1 (I.ok.inj _ _ _ e hc▸hi))
   · by_cases hcc:c'=c
     · subst hcc;exact⟨_,hc'⟩
     · obtain⟨w2,z2⟩:=I.cell y c' e
       exact⟨w2,z2.sameBut hs hcc⟩
   · obtain⟨e,n,ne,nf,d⟩:=I.pin p hp
     refine⟨(hs.2 p.1 ?_).trans e,n,ne,nf,d⟩
     intro q
     rw[q,hoc]at e
     have q':oc=p.2:=Option.some.inj e
     exact d w' (by rw[←q'];exact hocd)
theorem tZ{M:Model}{A:Around}{E:Value→Shared→Prop}{i:Nat}{x:Str}{v:V}{u:Value}{Q:Unit→Shared→Prop}(I:Inv X pins σ H s)(hN:X.N.Nodup)(hi:X.N[i]?=some x)(hx:Loc X.env.scope x)(r:RelV v u)
 (h:∀s',Inv X pins (σ.set i (some v)) H s'→Q () s') (hf:X.fn x=true∨X.env.scope.names.lookup x=some .local:=by first|exact .inl rfl|exact .inr rfl|assumption):wpAny M A (storeName X.env x u) Q E s:=
 wN I hN hi hx r (fun s' I' _=>h s' I') hf
theorem Inv.Cg{s':Shared}{ch:List Addr}(I:Inv X pins σ H s)(ho:s'.os=s.os)(u:Un (pC X.stack) ch H H' s.heap s'.heap)(aN:gR X.prog X.w H' s'.heap)(hg:AllBare s'.gens)
 (hch:∀b∈ch,(b∈X.ex∨X.s₀.heap.objs.size≤b)∧b≠X.env.locals∧(∀x c,X.env.cells.lookup x=some c→c≠b)∧∀p∈X.pn++pins,p.1≠b):Inv X pins σ H' s':=by
 obtain⟨h',g',d',t',o'⟩:=s'
 have e:o'=s.os:=ho
 subst e
 exact I.call (g':=g') (t':=t') (d':=d') u aN hg hch
end
noncomputable abbrev XK:=Value→Option Addr→Hp→Prop
noncomputable abbrev St:=List (Option V)
noncomputable abbrev VK:=V→Hp→Prop
noncomputable abbrev TE:=St→Hp→VK→Prop
noncomputable abbrev TT:=St→Hp→(Bool→Hp→Prop)→Prop
noncomputable abbrev TA:=St→Hp→(List V→Hp→Prop)→Prop
structure Ends where
 nx:St→Hp→Prop
 rt:VK
 bk:St→Hp→Prop:=fun _ _=>False
 ct:St→Hp→Prop:=fun _ _=>False
noncomputable abbrev TS:=Ends→St→Hp→Prop
noncomputable def EP(X:Cx)(pins:List (Addr×Obj))(σ:St)(Q:VK)(u:Value)(s':Shared):Prop:=∃v H',Inv X pins σ H' s'∧RelV v u∧Q v H'
noncomputable def TP(X:Cx)(pins:List (Addr×Obj))(σ:St)(Q:Bool→Hp→Prop)(b:Bool)(s':Shared):Prop:=∃H',Inv X pins σ H' s'∧Q b H'
noncomputable def AP(X:Cx)(pins:List (Addr×Obj))(σ:St)(Q:List V→Hp→Prop)(us:List Value)(s':Shared):Prop:=∃vs H',Inv X pins σ H' s'∧Vals vs us∧Q vs H'
noncomputable def SP(X:Cx)(pins:List (Addr×Obj))(D:Ends)(f:Flow)(s':Shared):Prop:=
 match f with
 | .next=>∃σ' H',Inv X pins σ' H' s'∧D.nx σ' H'
 | .brk=>∃σ' H',Inv X pins σ' H' s'∧D.bk σ' H'
 | .cont=>∃σ' H',Inv X pins σ' H' s'∧D.ct σ' H'
 | .ret u=>∃v σ' H',Inv X pins σ' H' s'∧RelV v u∧D.rt v H'
noncomputable def PE(X:Cx)(e:Expr)(t:TE):Prop:=
 ∀(pins:List (Addr×Obj)) (s:Shared) (σ:St) (H:Hp) (Q:VK),Inv X pins σ H s→t σ H Q→wpAny (model X.prog X.w) X.A (eval e X.env) (EP X pins σ Q) X.xe s
noncomputable def PT(X:Cx)(e:Expr)(t:TT):Prop:=
 ∀(pins:List (Addr×Obj)) (s:Shared) (σ:St) (H:Hp) (Q:Bool→Hp→Prop),Inv X pins σ H s→t σ H Q→wpAny (model X.prog X.w) X.A (isTrue e X.env (eval e X.env)) (TP X pins σ Q) X.xe s
noncomputable def PW(X:Cx)(e:Expr)(t:TT):Prop:=
 ∀(whole:Sem Value) (pins:List (Addr×Obj)) (s:Shared) (σ:St) (H:Hp) (Q:Bool→Hp→Prop),Inv X pins σ H s→t σ H Q→wpAny (model X.prog X.w) X.A (isTrue e X.env whole) (TP X pins σ Q) X.xe s
theorem PW.pt{X:Cx}{e:Expr}{t:TT}(h:PW X e t):PT X e t:=h _
noncomputable def PA(X:Cx)(es:List Expr)(t:TA):Prop:=
 ∀(pos:Pos) (pins:List (Addr×Obj)) (s:Shared) (σ:St) (H:Hp) (Q:List V→Hp→Prop),Inv X pins σ H s→t σ H Q→wpAny (model X.prog X.w) X.A (spliced (backTo pos (starEach es X.env))) (AP X pins σ Q) X.xe s
noncomputable def PS(X:Cx)(st:Stmt)(t:TS):Prop:=
 ∀(pins:List (Addr×Obj)) (s:Shared) (σ:St) (H:Hp) (D:Ends),Inv X pins σ H s→t D σ H→wpAny (model X.prog X.w) X.A (exec st X.env) (SP X pins D) X.xe s
noncomputable def gz(X:Cx)(st:List Stmt)(t:TS):Prop:=
 ∀(pins:List (Addr×Obj)) (s:Shared) (σ:St) (H:Hp) (D:Ends),Inv X pins σ H s→t D σ H→wpAny (model X.prog X.w) X.A (execs st X.env) (SP X pins D) X.xe s
theorem bR{α:Type}{t:Sem α}{Q Q':α→Shared→Prop}{M:Model}{A:Around}{E:Value→Shared→Prop}{s:Shared}(h:wpAny M A t Q E s)(hQ:∀a s,Q a s→Q' a s):wpAny M A t Q' E s:=wpAny_mono h hQ fun _ _ x=>x
end L2
namespace L2
open PySem PySem.Spec PyProof.Rows
section
variable {X:Cx}
noncomputable def JD(i:Nat):TE:=fun σ H Q=>∃v,σ[i]?=some (some v)∧Q v H
noncomputable def tC(v:V):TE:=fun _ H Q=>Q v H
theorem JU{i:Nat}{x:Str}{pos:Pos}(hN:X.N[i]?=some x)(hv:yT X.env.scope x)(hd:(x==("__debug__":Str))=false:=by decide)(hcd:(x==("__classdict__":Str))=false:=by decide):PE X (.Name x pos) (JD i):=by
 intro pins s σ H Q I h
 obtain⟨v,e,h⟩:=h
 obtain⟨m,hn,hl⟩:=I.loc
 obtain⟨u,r,l⟩:=hl i x v hN e hv
 have fin:EP X pins σ Q u s:=⟨v,H,I,r,h⟩
 rcases l with⟨hk,hm⟩|⟨hk,c,hc,hcell⟩
 · exact wpAny_Name (wpAny_loadName_local I.ok.kind hk hn hm fin) hd
 · rcases hk with hk|hk
   · exact wpAny_Name (wpAny_loadName_cell I.ok.kind hk hc hcell fin) hd
   · exact wpAny_Name (wpAny_loadName_free I.ok.kind hk hc hcell fin hcd) hd
theorem JP{i j pos}:PE X (.Constant (.int i) j pos) (tC (.int i)):=fun _ _ _ H _ I h=>wpAny_Constant_int ⟨.int i,H,I.tok _,⟨_,rfl⟩,h⟩
theorem M5{b j pos}:PE X (.Constant (.bool b) j pos) (tC (.bl b)):=fun _ _ _ H _ I h=>Constant_bool ⟨.bl b,H,I,rfl,h⟩
theorem Jt{j pos}:PE X (.Constant .none j pos) (tC .aK):=fun _ _ _ H _ I h=>Constant_none ⟨.aK,H,I,rfl,h⟩
theorem Ks{x j pos}:PE X (.Constant (.str x) j pos) (tC (.str x)):=fun _ _ _ H _ I h=>Calls.Constant_str ⟨.str x,H,I.tok _,⟨_,rfl⟩,h⟩
noncomputable def Gl(X:Cx)(x:Str):Prop:=X.env.kindOf x=some .globalImplicit
theorem AR{E:Value→Shared→Prop}{pins:List (Addr×Obj)}{s:Shared}{σ:St}{H:Hp}{x:Str}{u:Value}{pos:Pos}{Q:Value→Shared→Prop}(I:Inv X pins σ H s)(hg:Gl X x)(hm:X.mg x=some u)(h:Q u s)
 (hd:(x==("__debug__":Str))=false:=by decide):wpAny (model X.prog X.w) X.A (eval (.Name x pos) X.env) Q E s:=
 Calls.Name_function_global I.ok.kind hg (Calls.loadGlobal_global (by rw[I.ok.glob];exact I.mod.glob.keeps I.bk) hm h) hd
theorem jT{E:Value→Shared→Prop}{pins:List (Addr×Obj)}{s:Shared}{σ:St}{H:Hp}{x:Str}{u:Value}{pos:Pos}{Q:Value→Shared→Prop}(I:Inv X pins σ H s)(hg:Gl X x)(hm:X.mg x=none)(hv:bootBuiltins x=some u)(h:Q u s)
 (hn:x≠"__name__":=by decide) (hd:(x==("__debug__":Str))=false:=by decide):wpAny (model X.prog X.w) X.A (eval (.Name x pos) X.env) Q E s:=by
 obtain⟨mb,h1,h2⟩:=I.mod.blt
 exact Calls.Name_function_global I.ok.kind hg (Calls.loadGlobal_builtin (by rw[I.ok.glob];exact I.mod.glob.keeps I.bk) hm (by rw[I.ok.blt];exact h1.keeps I.bk) ((h2 x hn).trans hv) h) hd
theorem IQ{x:Str}{v:V}{u:Value}{pos:Pos}(hg:Gl X x)(hm:X.mg x=none)(hv:bootBuiltins x=some u)(r:RelV v u)(hn:x≠"__name__":=by decide)(hd:(x==("__debug__":Str))=false:=by decide):PE X (.Name x pos) (tC v):=
 fun _ _ _ H _ I h=>jT I hg hm hv ⟨v,H,I,r,h⟩ hn hd
variable {a b:Expr}{ta tb:TE}{pos:Pos}
noncomputable def tB(t:TE):TT:=fun σ H Q=>t σ H fun x H1=>∃c,x= .bl c∧Q c H1
theorem JJ{e:Expr}{t:TE}(h:PE X e t)(he:∀whole,isTrue e X.env whole=(do let v ←whole;standAt e.pos;holding [v] (truthy v)):=by intro _;rfl):PT X e (tB t):=by
 intro pins s σ H Q I hw
 refine isTrue_plain (bR (h pins s σ H _ I hw) fun v s1 ⟨x,H1,I1,r1,q1⟩=>?_) (he _)
 obtain⟨d,rfl,q⟩:=q1
 cases r1
 exact wpAny_truthy_bool ⟨H1,I1,q⟩
variable {tA tB':TT}{rest:List Expr}
noncomputable def K6(t u:TT):TT:=fun σ H Q=>t σ H fun c H1=>if c=true then u σ H1 Q else Q false H1
noncomputable def ND(t u:TT):TT:=fun σ H Q=>t σ H fun c H1=>if c=true then Q true H1 else u σ H1 Q
noncomputable def Oe(t:TT):TT:=fun σ H Q=>t σ H fun c H1=>Q (!c) H1
theorem pw_and1(ha:PT X a tA):PW X (.BoolOp .And [a] pos) tA:=by
 intro wh pins s σ H Q I h
 refine isTrue_and (bR (ha pins s σ H Q I h) fun c s1 e=>?_)
 cases c with
 |true=>exact isTrue_and_nil e
 |false=>exact e
theorem pw_or1(ha:PT X a tA):PW X (.BoolOp .Or [a] pos) tA:=by
 intro wh pins s σ H Q I h
 refine isTrue_or (bR (ha pins s σ H Q I h) fun c s1 e=>?_)
 cases c with
 |false=>exact isTrue_or_nil e
 |true=>exact e
theorem pw_and(ha:PT X a tA)(hb:PW X (.BoolOp .And (b::rest) pos) tB'):PW X (.BoolOp .And (a::b::rest) pos) (K6 tA tB'):=by
 intro wh pins s σ H Q I h
 refine isTrue_and (bR (ha pins s σ H _ I h) fun c s1 ⟨H1,I1,q1⟩=>?_)
 cases c with
 |true=>exact hb wh pins s1 σ H1 Q I1 q1
 |false=>exact⟨H1,I1,q1⟩
theorem pw_or(ha:PT X a tA)(hb:PW X (.BoolOp .Or (b::rest) pos) tB'):PW X (.BoolOp .Or (a::b::rest) pos) (ND tA tB'):=by
 intro wh pins s σ H Q I h
 refine isTrue_or (bR (ha pins s σ H _ I h) fun c s1 ⟨H1,I1,q1⟩=>?_)
 cases c with
 |true=>exact⟨H1,I1,q1⟩
 |false=>exact hb wh pins s1 σ H1 Q I1 q1
theorem IT(ha:PT X a tA):PT X (.UnaryOp .Not a pos) (Oe tA):=by
 intro pins s σ H Q I h
 exact isTrue_not (ha pins s σ H (fun c H1=>Q (!c) H1) I h)
noncomputable def Mn(ta tb:TE):TE:=fun σ H Q=>ta σ H fun x H1=>∃c,x= .bl c∧if c=true then tb σ H1 Q else Q (.bl false) H1
noncomputable def MY(ta:TE):TE:=fun σ H Q=>ta σ H fun x H1=>∃c,x= .bl c∧Q (.bl (!c)) H1
theorem Jv{op}{t:TE}(h:PE X a t):PE X (.BoolOp op [a] pos) t:=fun pins s σ H Q I hw=>BoolOp_one (h pins s σ H Q I hw)
theorem Kj(ha:PE X a ta)(hb:PE X (.BoolOp .And (b::rest) pos) tb):PE X (.BoolOp .And (a::b::rest) pos) (Mn ta tb):=by
 intro pins s σ H Q I h
 refine BoolOp_and (bR (ha pins s σ H _ I h) fun v s1 ⟨x,H1,I1,r1,q1⟩=>?_)
 obtain⟨c,rfl,q1⟩:=q1
 cases r1
 refine wpAny_truthy_bool ?_
 cases c with
 |true=>exact hb pins s1 σ H1 Q I1 q1
 |false=>exact⟨.bl false,H1,I1,rfl,q1⟩
theorem KN(ha:PE X a ta):PE X (.UnaryOp .Not a pos) (MY ta):=by
 intro pins s σ H Q I h
 refine UnaryOp_ (bR (ha pins s σ H _ I h) fun v s1 ⟨x,H1,I1,r1,q1⟩=>?_)
 obtain⟨c,rfl,q1⟩:=q1
 cases r1
 exact not_of (wpAny_truthy_bool ⟨.bl (!c),H1,I1,rfl,q1⟩)
noncomputable def O0(t:TT)(ta tb:TE):TE:=fun σ H Q=>t σ H fun c H1=>if c=true then ta σ H1 Q else tb σ H1 Q
theorem EB{c:Expr}(hc:PT X c tA)(ha:PE X a ta)(hb:PE X b tb):PE X (.IfExp c a b pos) (O0 tA ta tb):=by
 intro pins s σ H Q I h
 refine wpAny_IfExp (bR (hc pins s σ H _ I h) fun d s1 ⟨H1,I1,q1⟩=>?_)
 cases d with
 |true=>exact ha pins s1 σ H1 Q I1 q1
 |false=>exact hb pins s1 σ H1 Q I1 q1
end
end L2
namespace L2
open PySem PySem.Spec PyProof.Rows
noncomputable def lE(K:PySem.W.Frag)(H:Hp)(a:Addr)(xs:List V):Prop:=
 Rd H a (.lst xs)∨
  ∃(o:Obj) (its:Array Value) (n:Nat),K.lookup a=some o∧o.cls= .type "list"∧o.dict=none∧o.data= .seq its n∧its.size≤sizeLine∧Vals xs its.toList
noncomputable def ib(K:PySem.W.Frag)(H:Hp)(a:Addr)(xs:List V):Prop:=
 Rd H a (.tup xs)∨
  ∃(o:Obj) (its:Array Value) (n:Nat),K.lookup a=some o∧o.cls= .type "tuple"∧o.data= .seq its n∧its.size≤sizeLine∧Vals xs its.toList
noncomputable def N8:Value→Option V
 | .none=>some .aK
 | .bool b=>some (.bl b)
 | .int i _=>some (.int i)
 | .str x _=>some (.str x)
 | .bytes b _=>some (.sO b)
 | .float b _=>some (.sW b)
 | .ref a=>some (.ref a)
 | .type n=>some (.ty n)
 |_=>none
theorem RelV.abs{x:V}{u:Value}(r:RelV x u):N8 u=some x:=by
 cases x with
 |aK=>cases r;rfl
 |bl _=>cases r;rfl
 |int _=>obtain⟨t,rfl⟩:=r;rfl
 |str _=>obtain⟨t,rfl⟩:=r;rfl
 |sO _=>obtain⟨t,rfl⟩:=r;rfl
 |sW _=>obtain⟨t,rfl⟩:=r;rfl
 |ref _=>cases r;rfl
 |ty _=>cases r;rfl
theorem RelV.inj{x y:V}{u:Value}(r:RelV x u)(q:RelV y u):x=y:=Option.some.inj (r.abs.symm.trans q.abs)
theorem Vals.inj:∀ {xs ys:List V} {us:List Value},Vals xs us→Vals ys us→xs=ys
 |_,_,_,.nil,.nil=>rfl
 |_,_,_,.cons r t,.cons r' t'=>by rw[r.inj r',Vals.inj t t']
section
variable {X:Cx}{pins:List (Addr×Obj)}{σ:St}{H:Hp}{s:Shared}{a:Addr}{xs ys:List V}
theorem lE.of{K:PySem.W.Frag}(h:H a=some (.lst xs)):lE K H a xs:= .inl (.inl h)
theorem ib.of{K:PySem.W.Frag}(h:H a=some (.tup xs)):ib K H a xs:= .inl (.inl h)
theorem Inv.list(I:Inv X pins σ H s)(h:lE X.K H a xs):∃its:List Value,Vals xs its∧PlainL s.heap a its.toArray∧xs.length≤sizeLine:=by
 rcases h with h|⟨o,its,n,hk,hc,hd,hs,hz,r⟩
 · obtain⟨z,its,n,r,e⟩:=h.ok I.aN
   exact⟨its,r,⟨_,n,e,rfl,rfl,rfl⟩,z⟩
 · refine⟨its.toList,r,⟨o,n,I.gB a o hk,hc,hd,by simpa using hs⟩,?_⟩
   have e:=r.length
   simp only[Array.length_toList]at e
   omega
theorem Inv.tuple(I:Inv X pins σ H s)(h:ib X.K H a xs):∃its:List Value,Vals xs its∧IsTup s.heap a its.toArray∧xs.length≤sizeLine:=by
 rcases h with h|⟨o,its,n,hk,hc,hs,hz,r⟩
 · obtain⟨z,its,r,p⟩:=h.ok I.aN
   exact⟨its,r,p,z⟩
 · refine⟨its.toList,r,⟨o,I.gB a o hk,hc,n,by simpa using hs⟩,?_⟩
   have e:=r.length
   simp only[Array.length_toList]at e
   omega
theorem Inv.yh(I:Inv X pins σ H s)(h:lE X.K H a xs)(h':lE X.K H a ys):xs=ys:=by
 obtain⟨its,r,⟨o,n,e,_,_,d⟩,_⟩:=I.list h
 obtain⟨its',r',⟨o',n',e',_,_,d'⟩,_⟩:=I.list h'
 rw[e]at e';cases e'
 rw[d]at d'
 injection d' with d1 _
 have:its=its':=by simpa using congrArg Array.toList d1
 subst this
 exact r.inj r'
theorem Inv.wO(I:Inv X pins σ H s)(h:ib X.K H a xs)(h':ib X.K H a ys):xs=ys:=by
 obtain⟨its,r,⟨o,e,_,n,d⟩,_⟩:=I.tuple h
 obtain⟨its',r',⟨o',e',_,n',d'⟩,_⟩:=I.tuple h'
 rw[e]at e';cases e'
 rw[d]at d'
 injection d' with d1 _
 have:its=its':=by simpa using congrArg Array.toList d1
 subst this
 exact r.inj r'
end
noncomputable abbrev Cx.oJ(X:Cx)(E:Value→Shared→Prop):Cx:={X with xe:=E}
noncomputable abbrev Cx.vb(X:Cx):Cx:=X.oJ fun _ _=>False
theorem Cx.Ok.oJ{X:Cx}(ok:X.Ok)(E:Value→Shared→Prop):(X.oJ E).Ok:=
 ⟨ok.mod,ok.kind,ok.glob,ok.blt,ok.above,ok.inj,ok.has,ok.ym,ok.hd,ok.frames,ok.Ah,ok.D7,ok.bs,ok.qD,ok.tL,ok.tU,ok.ka,ok.uU,ok.gt⟩
theorem Cx.Ok.lT{X:Cx}{E:Value→Shared→Prop}(ok:(X.oJ E).Ok):X.Ok:=
 ⟨ok.mod,ok.kind,ok.glob,ok.blt,ok.above,ok.inj,ok.has,ok.ym,ok.hd,ok.frames,ok.Ah,ok.D7,ok.bs,ok.qD,ok.tL,ok.tU,ok.ka,ok.uU,ok.gt⟩
section
variable {X:Cx}{pins:List (Addr×Obj)}{σ:St}{H:Hp}{s:Shared}{E:Value→Shared→Prop}
theorem Inv.oJ(I:Inv X pins σ H s)(E:Value→Shared→Prop):Inv (X.oJ E) pins σ H s:=⟨I.ok.oJ E,I.os,I.bare,I.base,I.loc,I.cell,I.free,I.hZ,I.pin,I.aN,I.len⟩
theorem Inv.lT(I:Inv (X.oJ E) pins σ H s):Inv X pins σ H s:=⟨I.ok.lT,I.os,I.bare,I.base,I.loc,I.cell,I.free,I.hZ,I.pin,I.aN,I.len⟩
theorem SP.lT{D:Ends}{f:Flow}{s':Shared}(h:SP (X.oJ E) pins D f s'):SP X pins D f s':=by
 cases f with
 |next=>obtain⟨σ',H',I,q⟩:=h;exact⟨σ',H',I.lT,q⟩
 |brk=>obtain⟨σ',H',I,q⟩:=h;exact⟨σ',H',I.lT,q⟩
 |cont=>obtain⟨σ',H',I,q⟩:=h;exact⟨σ',H',I.lT,q⟩
 |ret u=>obtain⟨v,σ',H',I,r,q⟩:=h;exact⟨v,σ',H',I.lT,r,q⟩
theorem gz.vb{st:List Stmt}{t:TS}(h:gz X.vb st t):gz X st t:=fun pins s σ H D I hw=>
 wpAny_mono (h pins s σ H D (I.oJ _) hw) (fun _ _ q=>q.lT) fun _ _ z=>False.elim z
end
section
variable {X:Cx}{st:Stmt}{rest:List Stmt}{t u:TS}{e:Expr}{te:TE}{pos:Pos}
noncomputable def Mc:TS:=fun D σ H=>D.nx σ H
noncomputable def Oa(t u:TS):TS:=fun D σ H=>t {D with nx:=u D} σ H
theorem Iv:gz X [] Mc:=fun _ _ σ H _ I h=>wpAny_execs_nil ⟨σ,H,I,h⟩
theorem Eo(h1:PS X st t)(h2:gz X rest u):gz X (st::rest) (Oa t u):=by
 intro pins s σ H D I h
 refine wpAny_execs_cons (bR (h1 pins s σ H {D with nx:=u D} I h) fun f s1 q=>?_)
 cases f with
 |next=>
  obtain⟨σ',H',I',q⟩:=q
  exact h2 pins s1 σ' H' D I' q
 |ret v=>exact q
 |brk=>exact q
 |cont=>exact q
theorem Hc(h1:PS X st t):gz X [st] t:=by
 intro pins s σ H D I h
 refine wpAny_execs_cons (bR (h1 pins s σ H D I h) fun f s1 q=>?_)
 cases f with
 |next=>exact wpAny_execs_nil q
 |ret v=>exact q
 |brk=>exact q
 |cont=>exact q
theorem Inv.quiet{pins:List (Addr×Obj)}{σ:St}{H:Hp}{s:Shared}(I:Inv X pins σ H s):interactive X.env=false:=by simp[interactive,I.ok.kind]
noncomputable def LH(te:TE):TS:=fun D σ H=>te σ H fun _ H1=>D.nx σ H1
theorem IK(he:PE X e te)(hs:swapsWith e none pos.line X.env=pure false:=by rfl):PS X (.Expr e pos) (LH te):=by
 intro pins s σ H D I h
 exact wpAny_Expr_any (bR (he pins s σ H _ I h) fun v s1 ⟨x,H1,I1,r1,q1⟩=>⟨σ,H1,I1,q1⟩) I.quiet hs
noncomputable def Ov(te:TE):TS:=fun D σ H=>te σ H D.rt
theorem Lv(he:PE X e te):PS X (.Return (some e) pos) (Ov te):=by
 intro pins s σ H D I h
 exact wpAny_Return_some (bR (he pins s σ H _ I h) fun v s1 ⟨x,H1,I1,r1,q1⟩=>⟨x,σ,H1,I1,r1,q1⟩)
noncomputable def Oh(c:TT)(t u:TS):TS:=fun D σ H=>c σ H fun b H1=>if b=true then t D σ H1 else u D σ H1
theorem MS{c:Expr}{a b:List Stmt}{tc:TT}(hc:PT X c tc)(ha:gz X a t)(hb:gz X b u):PS X (.If c a b pos) (Oh tc t u):=by
 intro pins s σ H D I h
 refine wpAny_If (bR (hc pins s σ H _ I h) fun d s1 ⟨H1,I1,q1⟩=>?_)
 cases d with
 |true=>exact ha pins s1 σ H1 D I1 q1
 |false=>exact hb pins s1 σ H1 D I1 q1
end
noncomputable abbrev TG:=V→St→Hp→(St→Hp→Prop)→Prop
noncomputable abbrev zd:=List V→St→Hp→(St→Hp→Prop)→Prop
noncomputable def PG(X:Cx)(target:Expr)(t:TG):Prop:=
 ∀(pins:List (Addr×Obj)) (s:Shared) (σ:St) (H:Hp) (v:V) (u:Value) (Q:St→Hp→Prop),Inv X pins σ H s→RelV v u→t v σ H Q→
  wpAny (model X.prog X.w) X.A (assign target X.env u) (fun _ s'=>∃σ' H',Inv X pins σ' H' s'∧Q σ' H') X.xe s
noncomputable def GW(X:Cx)(ts:List Expr)(t:zd):Prop:=
 ∀(pins:List (Addr×Obj)) (s:Shared) (σ:St) (H:Hp) (vs:List V) (us:List Value) (Q:St→Hp→Prop),Inv X pins σ H s→Vals vs us→t vs σ H Q→
  wpAny (model X.prog X.w) X.A (assignInOrder ((assignEach ts X.env).map (·.2)) us) (fun _ s'=>∃σ' H',Inv X pins σ' H' s'∧Q σ' H') X.xe s
noncomputable abbrev Fw:=V→V→V→Hp→(Hp→Prop)→Prop
noncomputable def Jw(X:Cx)(t:Fw):Prop:=
 ∀(pins:List (Addr×Obj)) (s:Shared) (σ:St) (H:Hp) (o i v:V) (ov iv u:Value) (Q:Hp→Prop),Inv X pins σ H s→RelV o ov→RelV i iv→RelV v u→t o i v H Q→
  wpAny (model X.prog X.w) X.A (setItem ov iv u) (fun _ s'=>∃H',Inv X pins σ H' s'∧Q H') X.xe s
noncomputable abbrev Gw:=V→V→Hp→VK→Prop
noncomputable def JL(X:Cx)(op:Operator)(t:Gw):Prop:=
 ∀(pins:List (Addr×Obj)) (s:Shared) (σ:St) (H:Hp) (x y:V) (v u:Value) (Q:VK),Inv X pins σ H s→RelV x v→RelV y u→t x y H Q→
  wpAny (model X.prog X.w) X.A (inplaceOp op v u) (EP X pins σ Q) X.xe s
section
variable {X:Cx}{pos:Pos}
noncomputable def mM(i:Nat):TG:=fun v σ H Q=>Q (σ.set i (some v)) H
theorem vY{i:Nat}{x:Str}(hN:X.N.Nodup)(hi:X.N[i]?=some x)(hx:Loc X.env.scope x)(hf:X.fn x=true∨X.env.scope.names.lookup x=some .local:=by first|exact .inl rfl|exact .inr rfl|assumption):PG X (.Name x pos) (mM i):=by
 intro pins s σ H v u Q I r h
 exact wpAny_assign_Name (tZ I hN hi hx r (fun s' I'=>⟨_,H,I',h⟩) hf)
noncomputable def Kb:zd:=fun vs σ H Q=>vs=[]∧Q σ H
noncomputable def AZ(t:TG)(u:zd):zd:=fun vs σ H Q=>∃v r,vs=v::r∧t v σ H fun σ' H'=>u r σ' H' Q
theorem HL:GW X [] Kb:=by
 intro pins s σ H vs us Q I r h
 obtain⟨e,h⟩:=h
 subst e
 cases r
 exact assignInOrder_nil ⟨σ,H,I,h⟩
theorem y9{e:Expr}{es:List Expr}{t:TG}{u:zd}(h1:PG X e t)(h2:GW X es u)
 (hs:(assignEach (e::es) X.env).map (·.2)=assign e X.env::(assignEach es X.env).map (·.2):=by rfl):GW X (e::es) (AZ t u):=by
 intro pins s σ H vs us Q I r h
 obtain⟨v,vr,e1,h⟩:=h
 subst e1
 cases r with
 |cons r rr=>
  rw[hs]
  refine assignInOrder_cons (bR (h1 pins s σ H _ _ _ I r h) fun _ s1 ⟨σ1,H1,I1,q1⟩=>?_)
  exact h2 pins s1 σ1 H1 _ _ Q I1 rr q1
noncomputable def JZ(K:PySem.W.Frag)(n:Nat)(t:zd):TG:=fun v σ H Q=>∃a xs,v= .ref a∧ib K H a xs∧xs.length=n∧t xs σ H Q
theorem IY{es:List Expr}{k:Nat}{t:zd}{n:Nat}(hc:X.calm=true)(h:GW X es t)
 (hn:(assignEach es X.env).length=n:=by rfl) (hst:(assignEach es X.env).findIdx? (·.1)=none:=by rfl):PG X (.Tuple es k pos) (JZ X.K n t):=by
 intro pins s σ H v u Q I r hw
 obtain⟨a,xs,e1,hq,hl,hw⟩:=hw
 subst e1
 cases r
 obtain⟨its,rv,ht,hz⟩:=I.tuple hq
 refine assign_Tuple_tuple (I.ok.hd hc) ht (by simp[hn,←hl,rv.length]) hst fun h' hx=>?_
 have I1:Inv X pins σ H {s with heap:=h'}:=I.kept (t':=s.toks) fun b o e=>hx b o (Nat.ne_of_lt (Heap.lt_size e)) e
 exact h pins _ σ H xs _ Q I1 (by simpa using rv) hw
noncomputable def AU(to ti:TE)(t:Fw):TG:=fun v σ H Q=>to σ H fun o H1=>ti σ H1 fun i H2=>t o i v H2 fun H3=>Q σ H3
theorem Kq{o i:Expr}{to ti:TE}{t:Fw}(ho:PE X o to)(hi:PE X i ti)(hs:Jw X t)
 (ha:∀v,assign (.Subscript o i pos) X.env v=(do
   let ov ←holding [v] (eval o X.env)
   let iv ←holding [v,ov] (eval i X.env)
   standAt pos
   holding [v,ov,iv] (setItem ov iv v)
   release [v,ov,iv] []):=by intro _;rfl):PG X (.Subscript o i pos) (AU to ti t):=by
 intro pins s σ H v u Q I r h
 rw[ha]
 refine wpAny_bind (wpAny_holding (bR (ho pins s σ H _ I h) fun ov s1 ⟨x,H1,I1,r1,q1⟩=>?_))
 refine wpAny_bind (wpAny_holding (bR (hi pins s1 σ H1 _ I1 q1) fun iv s2 ⟨y,H2,I2,r2,q2⟩=>?_))
 refine wpAny_bind (wpAny_standAt (wpAny_bind (wpAny_holding (bR (hs pins s2 σ H2 x y v ov iv u _ I2 r1 r2 r q2) fun _ s3 ⟨H3,I3,q3⟩=>?_))))
 exact wpAny_release ⟨σ,H3,I3,q3⟩
noncomputable def oF(te:TE)(g:TG):TS:=fun D σ H=>te σ H fun x H1=>g x σ H1 D.nx
theorem DX{tg e:Expr}{te:TE}{g:TG}(he:PE X e te)(hg:PG X tg g)(hs:swapsWithSole [tg] e pos.line X.env=pure false:=by rfl)(hw:swappedStores [tg] e X.env=pure none:=by rfl)
 (h1:(assignEach [tg] X.env).map (·.2)=[assign tg X.env]:=by rfl):PS X (.Assign [tg] e pos) (oF te g):=by
 intro pins s σ H D I h
 refine wpAny_Assign_stores (bR (he pins s σ H _ I h) fun v s1 ⟨x,H1,I1,r1,q1⟩=>?_) hs hw
 rw[h1]
 exact bR (hg pins s1 σ H1 x v _ I1 r1 q1) fun _ s2 q=>q
theorem Lr{i:Nat}{x:Str}{e:Expr}{te:TE}{pos':Pos}(hN:X.N.Nodup)(hi:X.N[i]?=some x)(hx:Loc X.env.scope x)(he:PE X e te)(hs:swapsWith e (some (.Name x pos')) pos.line X.env=pure false:=by rfl)(hf:X.fn x=true∨X.env.scope.names.lookup x=some .local:=by first|exact .inl rfl|exact .inr rfl|assumption):
 PS X (.Assign [.Name x pos'] e pos) (oF te (mM i)):=by
 intro pins s σ H D I h
 refine wpAny_Assign_Name (bR (he pins s σ H _ I h) fun v s1 ⟨y,H1,I1,r1,q1⟩=>?_) hs
 exact tZ I1 hN hi hx r1 (fun s2 I2=>⟨_,H1,I2,q1⟩) hf
noncomputable def Ll(i:Nat)(te:TE)(ti:Gw):TS:=fun D σ H=>∃x,σ[i]?=some (some x)∧te σ H fun y H1=>ti x y H1 fun z H2=>D.nx (σ.set i (some z)) H2
theorem Jh{i:Nat}{x:Str}{e:Expr}{te:TE}{op:Operator}{ti:Gw}{pos':Pos}(hN:X.N.Nodup)(hi:X.N[i]?=some x)(hx:Loc X.env.scope x)(he:PE X e te)(ho:JL X op ti)(hf:X.fn x=true∨X.env.scope.names.lookup x=some .local:=by first|exact .inl rfl|exact .inr rfl|assumption):
 PS X (.AugAssign (.Name x pos') op e pos) (Ll i te ti):=by
 intro pins s σ H D I h
 obtain⟨v,e1,h⟩:=h
 obtain⟨m,hn,hl⟩:=I.loc
 have vis:yT X.env.scope x:=by rcases hx with k|k;exact .inl k;exact .inr (.inl k)
 obtain⟨u,r,l⟩:=hl i x v hi e1 vis
 refine wpAny_AugAssign_Name ?_
 have go:wpAny (model X.prog X.w) X.A (eval e X.env) (fun w s₂=>wpAny (model X.prog X.w) X.A (inplaceOp op u w) (fun r s₃=>wpAny (model X.prog X.w) X.A (storeName X.env x r) (fun _=>SP X pins D .next) X.xe s₃) X.xe s₂) X.xe s:=by
  refine bR (he pins s σ H _ I h) fun w s1 ⟨y,H1,I1,r1,q1⟩=>?_
  refine bR (ho pins s1 σ H1 v y u w _ I1 r r1 q1) fun z s2 ⟨zv,H2,I2,r2,q2⟩=>?_
  exact tZ I2 hN hi hx r2 (fun s3 I3=>⟨_,H2,I3,q2⟩) hf
 rcases l with⟨hk,hm⟩|⟨hk,c,hc,hcell⟩
 · exact wpAny_loadName_local I.ok.kind hk hn hm go
 · rcases hk with hk|hk
   · exact wpAny_loadName_cell I.ok.kind hk hc hcell go
   · rcases hx with k|k
     · have:X.env.scope.names.lookup x=some .free:=hk
       rw[k]at this;cases this
     · have:X.env.scope.names.lookup x=some .free:=hk
       rw[k]at this;cases this
noncomputable def Ls(f:Int→Int→Int):Gw:=fun x y H Q=>∃i j,x= .int i∧y= .int j∧Q (.int (f i j)) H
theorem Kp:JL X .Add (Ls fun i j=>i+j):=by
 intro pins s σ H x y v u Q I r1 r2 h
 obtain⟨i,j,e1,e2,q⟩:=h
 subst e1;subst e2
 obtain⟨t,rfl⟩:=r1
 obtain⟨t',rfl⟩:=r2
 exact iadd_int ⟨.int _,H,I.tok _,⟨_,rfl⟩,q⟩
end
section
variable {X:Cx}{pos:Pos}
noncomputable def CD(c:TT)(tb:TS):TS:=fun D σ H=>∃W:Nat→St→Hp→Prop,(∃m,W m σ H)∧∀m σ H,W m σ H→
 c σ H fun b H1=>if b=true then∃N:St→Hp→Prop,(∀σ' H',N σ' H'→∃m',m'<m∧W m' σ' H')∧tb {D with nx:=N,ct:=N,bk:=D.nx} σ H1 else D.nx σ H1
theorem Fl{c:Expr}{body:List Stmt}{tc:TT}{tb:TS}(hp:PassesOwn (model X.prog X.w) X.A X.env X.xe)(hc:PT X c tc)(hb:gz X body tb):PS X (.While c body [] pos) (CD tc tb):=by
 intro pins s σ H D I h
 obtain⟨W,⟨m0,w0⟩,turn⟩:=h
 refine wpAny_While (codeAny_whileLoop (fun n s'=>∃σ' H',Inv X pins σ' H' s'∧W n σ' H') ?_ m0 ⟨σ,H,I,w0⟩)
 rintro n s1 ⟨σ1,H1,I1,w1⟩
 refine wpAny_passesOwn hp (bR (hc pins s1 σ1 H1 _ I1 (turn n σ1 H1 w1)) fun b s2 ⟨H2,I2,q2⟩=>?_)
 cases b with
 |true=>
  obtain⟨N,hN,q2⟩:=q2
  rw[if_pos rfl]
  refine wpAny_passesOwn hp (bR (hb pins s2 σ1 H2 _ I2 q2) fun f s3 q3=>?_)
  cases f with
  |next=>
   obtain⟨σ3,H3,I3,n3⟩:=q3
   obtain⟨m',hm,w3⟩:=hN σ3 H3 n3
   exact⟨m',hm,σ3,H3,I3,w3⟩
  |cont=>
   obtain⟨σ3,H3,I3,n3⟩:=q3
   obtain⟨m',hm,w3⟩:=hN σ3 H3 n3
   exact⟨m',hm,σ3,H3,I3,w3⟩
  |brk=>exact q3
  |ret v=>exact q3
 |false=>
  rw[if_neg Bool.false_ne_true]
  exact wpAny_execs_nil ⟨σ1,H2,I2,q2⟩
end
structure It where
 go:Nat→Hp→Prop
 og:Nat→Hp→V→Hp→Prop
 stop:Nat→Hp→Prop
noncomputable def kj(X:Cx)(pins:List (Addr×Obj))(H:Hp)(b:Addr):Prop:=
 H b=none∧b≠X.env.locals∧b∉X.fs∧(b∈X.ex∨X.s₀.heap.objs.size≤b)∧(∀x c,X.env.cells.lookup x=some c→c≠b)∧∀p∈X.pn++pins,p.1≠b
theorem Inv.t6{X:Cx}{pins:List (Addr×Obj)}{σ:St}{H H':Hp}{s:Shared}{b:Addr}(I:Inv X pins σ H s)(hb:s.heap.objs.size≤b)(hn:H' b=none):kj X pins H' b:=by
 refine⟨hn,Nat.ne_of_gt (Nat.lt_of_lt_of_le I.lt hb),I.JN hb,.inr (Nat.le_trans I.sz hb),fun x c e z=>?_,fun p hp z=>?_⟩
 · obtain⟨v,q⟩:=I.cell x c e
   exact absurd (Nat.lt_of_lt_of_le q.lt (by rw[z];exact hb)) (Nat.lt_irrefl _)
 · exact absurd (Nat.lt_of_lt_of_le (Heap.lt_size (I.pin p hp).1) (by rw[z];exact hb)) (Nat.lt_irrefl _)
structure Turn(P:Program)(w:World)(K:PySem.W.Frag)(tg:Expr)(J:It)(fp:List Addr)(it:Addr)(tn:Nat→Heap→Prop):Prop where
 mem:it∈fp
 obj:∀i h,tn i h→∀b∈fp,∃o,h.get? b=some o∧∀v,o.data≠ .cell v
 keep:∀i h h',tn i h→(∀b∈fp,∀o,h.get? b=some o→h'.get? b=some o)→tn i h'
 item:∀(X:Cx),X.prog=P→X.w=w→X.K=K→X.calm=true→∀(i:Nat) (pins:List (Addr×Obj)) (s:Shared) (σ:St) (H:Hp) (E:Value→Shared→Prop),Inv X pins σ H s→(∀b∈fp,kj X pins H b)→tn i s.heap→J.go i H→
  wpAny (model P w) X.A (pyNext (.ref it)) (fun r s1=>∃u,r=some u∧
   wpAny (model P w) X.A (letOwnedTupleGo tg (.ref it) u) (fun _ s2=>∃x H',Inv X pins σ H' s2∧RelV x u∧J.og i H x H'∧tn (i+1) s2.heap∧∀b∈fp,H' b=none) E s1) E s
 done:∀(X:Cx),X.prog=P→X.w=w→X.K=K→X.calm=true→∀(i:Nat) (pins:List (Addr×Obj)) (s:Shared) (σ:St) (H:Hp) (E:Value→Shared→Prop),Inv X pins σ H s→(∀b∈fp,kj X pins H b)→tn i s.heap→J.stop i H→
  wpAny (model P w) X.A (pyNext (.ref it)) (fun r s1=>r=none∧Inv X pins σ H s1) E s
 self:∀(A:Around) (i:Nat) (s:Shared) (Q:Value→Shared→Prop) (E:Value→Shared→Prop),tn i s.heap→Q (.ref it) s→wpAny (model P w) A (pyIter (.ref it)) Q E s
noncomputable abbrev TI:=St→Hp→(It→Hp→Prop)→Prop
noncomputable def Gv(X:Cx)(pins:List (Addr×Obj))(σ:St)(tg:Expr)(R:It→Hp→Prop)(itv:Value)(s2:Shared):Prop:=
 ∃(it:Addr) (fp:List Addr) (tn:Nat→Heap→Prop) (J:It) (H':Hp),itv= .ref it∧Inv X pins σ H' s2∧Turn X.prog X.w X.K tg J fp it tn∧tn 0 s2.heap∧(∀b∈fp,kj X pins H' b)∧R J H'
noncomputable def PI(X:Cx)(tg iter:Expr)(wi:TI):Prop:=
 ∀(pins:List (Addr×Obj)) (s:Shared) (σ:St) (H:Hp) (R:It→Hp→Prop),Inv X pins σ H s→wi σ H R→
  wpAny (model X.prog X.w) X.A (eval iter X.env) (fun v s1=>wpAny (model X.prog X.w) X.A (pyIter v) (Gv X pins σ tg R) X.xe s1) X.xe s
theorem xJ{M:Model}{A:Around}{E:Value→Shared→Prop}{s:Shared}{tg:Expr}{it:Addr}{u:Value}{o:Obj}{n:String}{vs:Array Value}{Q:Unit→Shared→Prop}(ho:s.heap.get? it=some o)(hc:o.cls= .type n)(hd:o.data= .fields vs)
 (hn: ["enumerate","zip","dict_itemiterator","dict_reverseitemiterator","odict_iterator","itertools.zip_longest","itertools.pairwise"].contains n=false) (hQ:Q () s):wpAny M A (letOwnedTupleGo tg (.ref it) u) Q E s:=by
 unfold letOwnedTupleGo
 cases tg<;>first
  |exact wpAny_pure hQ
  |(cases u<;>first
     |exact wpAny_pure hQ
     |(refine wpAny_bind (wpAny_load ho ?_)
       rw[hc,hd]
       show wpAny M A (if(["enumerate","zip","dict_itemiterator","dict_reverseitemiterator","odict_iterator","itertools.zip_longest","itertools.pairwise"].contains n&&vs[0]?==some (rawInt _))=true then _ else _) Q E s
       rw[if_neg (by intro h;rw[hn,Bool.false_and]at h;cases h)]
       exact wpAny_pure hQ))
noncomputable def Ke(K:PySem.W.Frag)(a:Addr):It:=
 ⟨fun i H=>∃xs x,lE K H a xs∧xs[i]?=some x,fun i H x H'=>H'=H∧∀xs,lE K H a xs→xs[i]?=some x,fun i H=>∃xs,lE K H a xs∧xs.length≤i⟩
noncomputable def KH(K:PySem.W.Frag)(a:Addr):It:=
 ⟨fun i H=>∃xs x,ib K H a xs∧xs[i]?=some x,fun i H x H'=>H'=H∧∀xs,ib K H a xs→xs[i]?=some x,fun i H=>∃xs,ib K H a xs∧xs.length≤i⟩
noncomputable def w9(lo:Int)(n:Nat):It:=⟨fun i _=>i<n,fun i H x H'=>H'=H∧x= .int (lo+i),fun i _=>n≤i⟩
theorem Dr{P:Program}{w:World}{K:PySem.W.Frag}{tg:Expr}(a it:Addr):Turn P w K tg (Ke K a) [it] it (fun i h=>h.IsListIter it a i) where
 mem:=by simp
 obj:=fun i h st b hb=>by
  have e:b=it:=by simpa using hb
  subst e
  obtain⟨o,e,c,d⟩:=st
  exact⟨o,e,fun v z=>by rw[d]at z;cases z⟩
 keep:=fun i h h' st k=>st.at fun o e=>k it (by simp) o e
 item:=by
  intro X hP hw hK hc i pins s σ H E I hf st hg
  subst hP hw hK
  obtain⟨xs,x,hq,hx⟩:=hg
  obtain⟨its,rv,p,hz⟩:=I.list hq
  obtain⟨u,hu,ru⟩:=rv.get hx
  obtain⟨f0,f1,f2,f3,f4,f5⟩:=hf it (by simp)
  refine wpAny_pyNext_list_item st p.isList (x:=u) (by simpa using hu) fun h' st' sb=>?_
  have I1:Inv X pins σ H {s with heap:=h'}:=I.turned (t':=s.toks) (fun b o hb e=>(sb.2 b hb).trans e) f0 f1 f3 f4 f5
  obtain⟨o,e,c,d⟩:=id st'
  exact⟨u,rfl,xJ (s:={s with heap:=h'}) e c d (by decide) ⟨x,H,I1,ru,⟨rfl,fun ys hy=>by rw[I.yh hy hq];exact hx⟩,st',fun b hb=>(hf b hb).1⟩⟩
 done:=by
  intro X hP hw hK hc i pins s σ H E I hf st hg
  subst hP hw hK
  obtain⟨xs,hq,hx⟩:=hg
  obtain⟨its,rv,p,hz⟩:=I.list hq
  obtain⟨f0,f1,f2,f3,f4,f5⟩:=hf it (by simp)
  have hl:=rv.length
  exact wpAny_pyNext_list_end (I.ok.hd hc) st p.isList (by simp;omega) fun h' eb=>⟨rfl,I.turned (t':=s.toks) (fun b o hb e=>eb b o hb e) f0 f1 f3 f4 f5⟩
 self:=fun _ _ _ _ _ st h=>wpAny_pyIter_listiter st h
theorem AY{P:Program}{w:World}{K:PySem.W.Frag}{tg:Expr}(a it:Addr):Turn P w K tg (KH K a) [it] it (fun i h=>h.IsTupleIter it a i) where
 mem:=by simp
 obj:=fun i h st b hb=>by
  have e:b=it:=by simpa using hb
  subst e
  obtain⟨o,e,c,d⟩:=st
  exact⟨o,e,fun v z=>by rw[d]at z;cases z⟩
 keep:=fun i h h' st k=>st.at fun o e=>k it (by simp) o e
 item:=by
  intro X hP hw hK hc i pins s σ H E I hf st hg
  subst hP hw hK
  obtain⟨xs,x,hq,hx⟩:=hg
  obtain⟨its,rv,p,hz⟩:=I.tuple hq
  obtain⟨u,hu,ru⟩:=rv.get hx
  obtain⟨f0,f1,f2,f3,f4,f5⟩:=hf it (by simp)
  refine wpAny_pyNext_tuple_item st (show s.heap.IsTuple a its.toArray from p) (x:=u) (by simpa using hu) fun h' st' sb=>?_
  have I1:Inv X pins σ H {s with heap:=h'}:=I.turned (t':=s.toks) (fun b o hb e=>(sb.2 b hb).trans e) f0 f1 f3 f4 f5
  obtain⟨o,e,c,d⟩:=id st'
  exact⟨u,rfl,xJ (s:={s with heap:=h'}) e c d (by decide) ⟨x,H,I1,ru,⟨rfl,fun ys hy=>by rw[I.wO hy hq];exact hx⟩,st',fun b hb=>(hf b hb).1⟩⟩
 done:=by
  intro X hP hw hK hc i pins s σ H E I hf st hg
  subst hP hw hK
  obtain⟨xs,hq,hx⟩:=hg
  obtain⟨its,rv,p,hz⟩:=I.tuple hq
  obtain⟨f0,f1,f2,f3,f4,f5⟩:=hf it (by simp)
  have hl:=rv.length
  exact wpAny_pyNext_tuple_end (I.ok.hd hc) st (show s.heap.IsTuple a its.toArray from p) (by simp;omega) fun h' eb=>⟨rfl,I.turned (t':=s.toks) (fun b o hb e=>eb b o hb e) f0 f1 f3 f4 f5⟩
 self:=fun _ _ _ _ _ st h=>wpAny_pyIter_tupleiter st h
theorem A7{P:Program}{w:World}{K:PySem.W.Frag}{tg:Expr}(it:Addr)(lo:Int)(n:Nat):Turn P w K tg (w9 lo n) [it] it (fun i h=>IsRangeIter h it (lo+(i:Nat)*1) ((n:Int)-(i:Nat)) 1) where
 mem:=by simp
 obj:=fun i h st b hb=>by
  have e:b=it:=by simpa using hb
  subst e
  exact⟨_,st,fun v z=>by
   have z':Data.fields _=Data.cell v:=z
   cases z'⟩
 keep:=fun i h h' st k=>k it (by simp) _ st
 item:=by
  intro X hP hw hK hc i pins s σ H E I hf st hg
  subst hP hw hK
  obtain⟨f0,f1,f2,f3,f4,f5⟩:=hf it (by simp)
  have W:=Walks.range (prog:=X.prog) (w:=X.w) (I.ok.hd hc) it lo 1 n
  refine W.item i s _ _ hg st fun v h' tk hv st' kk=>?_
  obtain⟨t,rfl⟩:=hv
  have I1:Inv X pins σ H {s with heap:=h',toks:=tk}:=I.turned (fun b o hb e=>kk b o (by simpa using hb) e) f0 f1 f3 f4 f5
  refine⟨_,rfl,xJ (s:={s with heap:=h',toks:=tk}) (n:="range_iterator") st' rfl rfl (by decide) ⟨.int (lo+i),H,I1,⟨t,?_⟩,⟨rfl,rfl⟩,st',fun b hb=>(hf b hb).1⟩⟩
  rw[Int.mul_one]
 done:=by
  intro X hP hw hK hc i pins s σ H E I hf st hg
  subst hP hw hK
  obtain⟨f0,f1,f2,f3,f4,f5⟩:=hf it (by simp)
  exact wpAny_pyNext_range_end (I.ok.hd hc) st (by have:n≤i:=hg;omega) fun h' eb=>⟨rfl,I.turned (t':=s.toks) (fun b o hb e=>eb b o hb e) f0 f1 f3 f4 f5⟩
 self:=fun _ _ _ _ _ st h=>wpAny_pyIter_rangeiter st h
end L2
namespace L2
open PySem PySem.Spec PyProof.Rows
section
variable {X:Cx}{tg:Expr}
theorem yo{pins:List (Addr×Obj)}{σ:St}{H:Hp}{s:Shared}{R:It→Hp→Prop}{E:Value→Shared→Prop}{lo hi:Int}{t u v:Tok}{tk:Nat}(I:Inv X pins σ H s)(h1: -(2^62)≤lo)(h2:lo<2^62)(h3: -(2^62)≤hi)(h4:hi<2^62)
 (q:R (w9 lo (hi-lo).toNat) H):wpAny (model X.prog X.w) X.A (pyIter (.ref s.heap.objs.size)) (Gv X pins σ tg R) E {s with heap:=s.heap.push {cls:= .type "range",data:= .fields #[.int lo t,.int hi u,.int 1 v]},toks:=tk}:=by
 refine wpAny_pyIter_range (IsRange.new ..) (small_one h1 h2 h3 h4) ?_
 have I1:Inv X pins σ H {s with heap:=s.heap.push {cls:= .type "range",data:= .fields #[.int lo t,.int hi u,.int 1 v]},toks:=tk}:=I.kept fun b o e=>Heap.get?_push_of_some _ e
 refine⟨(s.heap.push {cls:= .type "range",data:= .fields #[.int lo t,.int hi u,.int 1 v]}).objs.size,[(s.heap.push {cls:= .type "range",data:= .fields #[.int lo t,.int hi u,.int 1 v]}).objs.size],_,_,H,rfl,
  I1.kept (t':=tk) fun b o e=>Heap.get?_push_of_some _ e,A7 _ lo (hi-lo).toNat,?_,fun b hb=>?_,q⟩
 · have e1:lo+((0:Nat):Int)*1=lo:=by simp
   have e2:(((hi-lo).toNat:Nat):Int)-((0:Nat):Int)=Builtin.Range.rangeSize lo hi 1:=by rw[rangeSize_one];split<;>omega
   show IsRangeIter _ _ (lo+((0:Nat):Int)*1) ((((hi-lo).toNat:Nat):Int)-((0:Nat):Int)) 1
   rw[e1,e2]
   exact Heap.get?_push_size _ rfl
 · have e:b=(s.heap.push {cls:= .type "range",data:= .fields #[.int lo t,.int hi u,.int 1 v]}).objs.size:=by simpa using hb
   subst e
   exact I1.t6 (Nat.le_refl _) (I1.aN.fresh (Nat.le_refl _))
noncomputable def Bc(ta:TA):TI:=fun σ H R=>ta σ H fun vs H1=>∃j:Int,vs=[.int j]∧ -(2^62)≤j∧j<2^62∧R (w9 0 j.toNat) H1
noncomputable def A_(ta:TA):TI:=fun σ H R=>ta σ H fun vs H1=>∃i j:Int,vs=[.int i,.int j]∧(-(2^62)≤i∧i<2^62∧ -(2^62)≤j∧j<2^62)∧R (w9 i (j-i).toNat) H1
theorem C0{a:Expr}{ta:TA}{p pos:Pos}(hg:Gl X "range")(hm:X.mg "range"=none)(ha:PA X [a] ta)(hs:starEach [a] X.env=[(false,eval a X.env)]:=by rfl):PI X tg (.Call (.Name "range" p) [a] [] pos) (Bc ta):=by
 intro pins s σ H R I h
 refine Call_ (jT I hg hm boot_range (PyProof.Rows.callWith_type1 (bR (ha pos pins s σ H _ I h) fun us s1 ⟨vs,H1,I1,r1,q1⟩=>?_) hs rfl))
 obtain⟨j,e,q1,q2,q⟩:=q1
 subst e
 cases r1 with
 |cons r rr=>
  cases rr
  obtain⟨t,rfl⟩:=r
  exact call_range_1 (yo I1 (by omega) (by omega) q1 q2 (by simpa using q))
theorem Cr{a b:Expr}{ta:TA}{p pos:Pos}(hg:Gl X "range")(hm:X.mg "range"=none)(ha:PA X [a,b] ta)(hs:starEach [a,b] X.env=[(false,eval a X.env),(false,eval b X.env)]:=by rfl)(hs2:starEach [b] X.env=[(false,eval b X.env)]:=by rfl):
 PI X tg (.Call (.Name "range" p) [a,b] [] pos) (A_ ta):=by
 intro pins s σ H R I h
 refine Call_ (jT I hg hm boot_range (PyProof.Rows.callWith_type1 (bR (ha pos pins s σ H _ I h) fun us s1 ⟨vs,H1,I1,r1,q1⟩=>?_) (by rw[hs,hs2]) (by rw[hs2];rfl)))
 obtain⟨i,j,e,⟨q1,q2,q3,q4⟩,q⟩:=q1
 subst e
 cases r1 with
 |cons r rr=>
  cases rr with
  |cons r' rr=>
   cases rr
   obtain⟨t,rfl⟩:=r
   obtain⟨t',rfl⟩:=r'
   exact call_range_2 (yo I1 q1 q2 q3 q4 q)
noncomputable def Lg(wi:TI)(g:TG)(tb:TS):TS:=fun D σ H=>wi σ H fun J H1=>∃W:Nat→Nat→St→Hp→Prop,(∃m,W 0 m σ H1)∧∀i m σ H,W i m σ H→
 (J.stop i H∧D.nx σ H)∨(J.go i H∧∃N:St→Hp→Prop,(∀σ' H',N σ' H'→∃m',m'<m∧W (i+1) m' σ' H')∧∀x H',J.og i H x H'→g x σ H' fun σ2 H2=>tb {D with nx:=N,ct:=N,bk:=D.nx} σ2 H2)
noncomputable def rM(fp:List Addr)(h:Heap):List (Addr×Obj):=fp.filterMap fun b=>(h.get? b).map fun o=>(b,o)
theorem mF{fp:List Addr}{h:Heap}{b:Addr}{o:Obj}(hb:b∈fp)(e:h.get? b=some o):(b,o)∈rM fp h:=List.mem_filterMap.mpr ⟨b,hb,by rw[e];rfl⟩
theorem CO{fp:List Addr}{h:Heap}{p:Addr×Obj}(hp:p∈rM fp h):p.1∈fp∧h.get? p.1=some p.2:=by
 obtain⟨b,hb,e⟩:=List.mem_filterMap.mp hp
 cases q:h.get? b with
 |none=>rw[q]at e;cases e
 |some o=>
  rw[q]at e
  have e':(b,o)=p:=Option.some.inj e
  subst e'
  exact⟨hb,q⟩
theorem Inv.pinned{pins:List (Addr×Obj)}{σ:St}{H:Hp}{s:Shared}{fp:List Addr}(I:Inv X pins σ H s)(hf:∀b∈fp,kj X pins H b)(ho:∀b∈fp,∃o,s.heap.get? b=some o∧∀v,o.data≠ .cell v):Inv X (pins++rM fp s.heap) σ H s:=
 I.sh fun p hp=>(List.mem_append.mp hp).elim (fun z=>I.pin p (List.mem_append_right _ z)) fun z=>by
  obtain⟨hb,e⟩:=CO z
  obtain⟨f0,f1,f2,_⟩:=hf p.1 hb
  obtain⟨o,e',d⟩:=ho p.1 hb
  rw[e]at e';cases e'
  exact⟨e,f0,f1,f2,d⟩
theorem Inv.gD{pins pl:List (Addr×Obj)}{σ:St}{H:Hp}{s:Shared}(I:Inv X (pins++pl) σ H s):Inv X pins σ H s:=I.sh fun p hp=>I.pin p (List.mem_append_right _ (List.mem_append_left _ hp))
theorem J8{iter:Expr}{body:List Stmt}{wi:TI}{g:TG}{tb:TS}{pos:Pos}(hp:PassesOwn (model X.prog X.w) X.A X.env X.xe)(hc:X.calm=true)(hi:PI X tg iter wi)(hg:PG X tg g)(hb:gz X body tb)
 (hs:∀x,foldedSetIterable iter X.env x=pure x:=by intro _;rfl):PS X (.For tg iter body [] pos) (Lg wi g tb):=by
 intro pins s σ H D I h
 refine wpAny_For (bR (hi pins s σ H _ I h) fun v s1 h1=>bR h1 fun itv s2 h2=>?_) hs
 obtain⟨it,fp,tn,J,H2,e,I2,T,st2,f2,W,⟨m0,w0⟩,turn⟩:=h2
 subst e
 have stat:∀ {H':Hp},(∀b∈fp,H' b=none)→∀b∈fp,kj X pins H' b:=fun hn b hb=>⟨hn b hb,(f2 b hb).2⟩
 refine codeAny_forLoop_any (fun n s'=>∃i σ' H',Inv X pins σ' H' s'∧tn i s'.heap∧(∀b∈fp,H' b=none)∧W i n σ' H') ?_ m0 ⟨0,σ,H2,I2,st2,fun b hb=>(f2 b hb).1,w0⟩
 rintro n s3 ⟨i,σ3,H3,I3,st3,fr3,w3⟩
 rcases turn i n σ3 H3 w3 with⟨stop,qn⟩|⟨go,N,hN,step⟩
 · refine wpAny_passesOwn hp (bR (T.done X rfl rfl rfl hc i pins s3 σ3 H3 X.xe I3 (stat fr3) st3 stop) fun r s4 ⟨hr,I4⟩=>?_)
   subst hr
   exact wpAny_execs_nil ⟨σ3,H3,I4,qn⟩
 · refine wpAny_passesOwn hp (bR (T.item X rfl rfl rfl hc i pins s3 σ3 H3 X.xe I3 (stat fr3) st3 go) fun r s4 ⟨u,hr,h4⟩=>?_)
   subst hr
   refine wpAny_passesOwn hp (bR h4 fun _ s5 ⟨x,H5,I5,r5,y5,st5,fr5⟩=>?_)
   have I5':=I5.pinned (stat fr5) (T.obj _ _ st5)
   refine wpAny_passesOwn hp (bR (hg _ s5 σ3 H5 x u _ I5' r5 (step x H5 y5)) fun _ s6 ⟨σ6,H6,I6,q6⟩=>?_)
   refine wpAny_passesOwn hp (bR (hb _ s6 σ6 H6 _ I6 q6) fun f s7 q7=>?_)
   have again:∀ {σ7:St} {H7:Hp},Inv X (pins++rM fp s5.heap) σ7 H7 s7→N σ7 H7→∃m,m<n∧∃i σ' H',Inv X pins σ' H' s7∧tn i s7.heap∧(∀b∈fp,H' b=none)∧W i m σ' H':=fun{σ7 H7} I7 n7=>by
    obtain⟨m',hm,w7⟩:=hN σ7 H7 n7
    refine⟨m',hm,i+1,σ7,H7,I7.gD,T.keep _ _ _ st5 fun b hb o e=>(I7.pin (b,o) (List.mem_append_right _ (List.mem_append_right _ (mF hb e)))).1,fun b hb=>?_,w7⟩
    obtain⟨o,e,d⟩:=T.obj _ _ st5 b hb
    exact(I7.pin (b,o) (List.mem_append_right _ (List.mem_append_right _ (mF hb e)))).2.1
   cases f with
   |next=>obtain⟨σ7,H7,I7,n7⟩:=q7;exact again I7 n7
   |cont=>obtain⟨σ7,H7,I7,n7⟩:=q7;exact again I7 n7
   |brk=>obtain⟨σ7,H7,I7,q7⟩:=q7;exact⟨σ7,H7,I7.gD,q7⟩
   |ret v=>obtain⟨x7,σ7,H7,I7,r7,q7⟩:=q7;exact⟨x7,σ7,H7,I7.gD,r7,q7⟩
end
theorem lP{lo:Int}{n:Nat}{g:TG}{tb:TS}{D:Ends}{σ:St}{H:Hp}(Pv:Nat→St→Hp→Prop)(h0:Pv 0 σ H)
 (hs:∀i σ H,i<n→Pv i σ H→g (.int (lo+i)) σ H fun σ2 H2=>tb {D with nx:=Pv (i+1),ct:=Pv (i+1),bk:=D.nx} σ2 H2) (hd:∀σ H,Pv n σ H→D.nx σ H):
 ∃W:Nat→Nat→St→Hp→Prop,(∃m,W 0 m σ H)∧∀i m σ H,W i m σ H→
  ((w9 lo n).stop i H∧D.nx σ H)∨((w9 lo n).go i H∧∃N:St→Hp→Prop,(∀σ' H',N σ' H'→∃m',m'<m∧W (i+1) m' σ' H')∧∀x H',(w9 lo n).og i H x H'→g x σ H' fun σ2 H2=>tb {D with nx:=N,ct:=N,bk:=D.nx} σ2 H2):=by
 refine⟨fun i m σ H=>m=n-i∧i≤n∧Pv i σ H,⟨n,by simp,Nat.zero_le _,h0⟩,?_⟩
 rintro i m σ H ⟨rfl,hi,p⟩
 by_cases hlt:i<n
 · refine .inr ⟨hlt,Pv (i+1),fun σ' H' p'=>⟨n-(i+1),by omega,rfl,hlt,p'⟩,fun x H' y=>?_⟩
   obtain⟨e,y⟩:=y
   subst e y
   exact hs i σ _ hlt p
 · have e:i=n:=by omega
   subst e
   exact .inl ⟨Nat.le_refl _,hd σ H p⟩
end L2
namespace L2
open PySem PySem.Spec PyProof.Rows
noncomputable abbrev R2:=V→V→Hp→VK→Prop
noncomputable def bL(X:Cx)(f:Value→Value→Sem Value)(r:R2):Prop:=
 ∀(pins:List (Addr×Obj)) (s:Shared) (σ:St) (H:Hp) (x y:V) (v u:Value) (Q:VK),Inv X pins σ H s→RelV x v→RelV y u→r x y H Q→
  wpAny (model X.prog X.w) X.A (f v u) (EP X pins σ Q) X.xe s
noncomputable def AH(X:Cx)(f:Value→Sem Value)(r:V→Hp→VK→Prop):Prop:=
 ∀(pins:List (Addr×Obj)) (s:Shared) (σ:St) (H:Hp) (x:V) (v:Value) (Q:VK),Inv X pins σ H s→RelV x v→r x H Q→
  wpAny (model X.prog X.w) X.A (f v) (EP X pins σ Q) X.xe s
noncomputable def bD(X:Cx)(f:Value)(r:List V→Hp→VK→Prop):Prop:=
 ∀(pins:List (Addr×Obj)) (s:Shared) (σ:St) (H:Hp) (xs:List V) (us:List Value) (Q:VK),Inv X pins σ H s→Vals xs us→r xs H Q→
  wpAny (model X.prog X.w) X.A (call f us) (EP X pins σ Q) X.xe s
noncomputable def Ej(r:R2)(ta tb:TE):TE:=fun σ H Q=>ta σ H fun x H1=>tb σ H1 fun y H2=>r x y H2 Q
noncomputable def Nd(r:V→Hp→VK→Prop)(ta:TE):TE:=fun σ H Q=>ta σ H fun x H1=>r x H1 Q
noncomputable def rI(C:Int→Int→Prop)(g:Int→Int→V):R2:=fun x y H Q=>∃i j,x= .int i∧y= .int j∧C i j∧Q (g i j) H
noncomputable def u0(g:Int→Int→V):R2:=fun x y H Q=>∃i j,x= .int i∧y= .int j∧Q (g i j) H
noncomputable def rU(g:Int→V):V→Hp→VK→Prop:=fun x H Q=>∃i,x= .int i∧Q (g i) H
section
variable {X:Cx}{a b c:Expr}{ta tb tc:TE}{pos:Pos}
theorem Fe(ha:PE X a ta)(hb:PE X b tb){pins:List (Addr×Obj)}{s:Shared}{σ:St}{H:Hp}{R:V→V→Hp→Prop}(I:Inv X pins σ H s)
 (h:ta σ H fun x H1=>tb σ H1 fun y H2=>R x y H2) {Q:Value→Shared→Prop} {f:Value→Value→Sem Value}
 (hf:∀v u s2 x y H2,Inv X pins σ H2 s2→RelV x v→RelV y u→R x y H2→wpAny (model X.prog X.w) X.A (f v u) Q X.xe s2):
 wpAny (model X.prog X.w) X.A (eval a X.env) (fun v s₁=>wpAny (model X.prog X.w) X.A (eval b X.env) (fun u s₂=>wpAny (model X.prog X.w) X.A (f v u) Q X.xe s₂) X.xe s₁) X.xe s:=by
 refine bR (ha pins s σ H _ I h) fun v s1 ⟨x,H1,I1,r1,q1⟩=>?_
 refine bR (hb pins s1 σ H1 _ I1 q1) fun u s2 ⟨y,H2,I2,r2,q2⟩=>?_
 exact hf v u s2 x y H2 I2 r1 r2 q2
theorem Lx{op:Operator}{r:R2}(ho:bL X (binaryOp op) r)(ha:PE X a ta)(hb:PE X b tb):PE X (.BinOp a op b pos) (Ej r ta tb):=by
 intro pins s σ H Q I h
 exact wpAny_BinOp (Fe ha hb I h fun v u s2 x y H2 I2 rx ry q=>ho pins s2 σ H2 x y v u Q I2 rx ry q)
theorem Mw{op:UnaryOp}{r:V→Hp→VK→Prop}(ho:AH X (unaryOp op) r)(ha:PE X a ta):PE X (.UnaryOp op a pos) (Nd r ta):=by
 intro pins s σ H Q I h
 exact UnaryOp_ (bR (ha pins s σ H _ I h) fun v s1 ⟨x,H1,I1,r1,q1⟩=>ho pins s1 σ H1 x v Q I1 r1 q1)
theorem F9{f:Value→Value→Sem Value}{C:Int→Int→Prop}{g:Int→Int→Int}
 (rule:∀(i j:Int) (t u:Tok) (s:Shared) (Q:Value→Shared→Prop) (E:Value→Shared→Prop),C i j→Q (.int (g i j) s.toks) {s with toks:=s.toks+1}→wpAny (model X.prog X.w) X.A (f (.int i t) (.int j u)) Q E s):
 bL X f (rI C fun i j=> .int (g i j)):=by
 intro pins s σ H x y v u Q I rx ry h
 obtain⟨i,j,rfl,rfl,hc,q⟩:=h
 obtain⟨t,rfl⟩:=rx
 obtain⟨t',rfl⟩:=ry
 exact rule i j t t' s _ _ hc ⟨.int (g i j),H,I.tok _,⟨_,rfl⟩,q⟩
theorem KC{f:Value→Value→Sem Value}{g:Int→Int→Int}
 (rule:∀(i j:Int) (t u:Tok) (s:Shared) (Q:Value→Shared→Prop) (E:Value→Shared→Prop),Q (.int (g i j) s.toks) {s with toks:=s.toks+1}→wpAny (model X.prog X.w) X.A (f (.int i t) (.int j u)) Q E s):
 bL X f (u0 fun i j=> .int (g i j)):=by
 intro pins s σ H x y v u Q I rx ry h
 obtain⟨i,j,rfl,rfl,q⟩:=h
 obtain⟨t,rfl⟩:=rx
 obtain⟨t',rfl⟩:=ry
 exact rule i j t t' s _ _ ⟨.int (g i j),H,I.tok _,⟨_,rfl⟩,q⟩
theorem A3{f:Value→Value→Sem Value}{g:Int→Int→Bool}
 (rule:∀(i j:Int) (t u:Tok) (s:Shared) (Q:Value→Shared→Prop) (E:Value→Shared→Prop),Q (.bool (g i j)) s→wpAny (model X.prog X.w) X.A (f (.int i t) (.int j u)) Q E s):
 bL X f (u0 fun i j=> .bl (g i j)):=by
 intro pins s σ H x y v u Q I rx ry h
 obtain⟨i,j,rfl,rfl,q⟩:=h
 obtain⟨t,rfl⟩:=rx
 obtain⟨t',rfl⟩:=ry
 exact rule i j t t' s _ _ ⟨.bl (g i j),H,I,rfl,q⟩
noncomputable def EJ(i j:Int):Prop:=0≤j∧j≤1000000∧i.natAbs<2^64
theorem Kw:bL X (binaryOp .Add) (u0 fun i j=> .int (i+j)):=KC fun _ _ _ _ _ _ _ q=>add_int q
theorem Ju:bL X (binaryOp .Sub) (u0 fun i j=> .int (i-j)):=KC fun _ _ _ _ _ _ _ q=>sub_int q
theorem IE:bL X (binaryOp .Mod) (rI (fun _ j=>j≠0) fun i j=> .int (i.fmod j)):=F9 fun _ _ _ _ _ _ _ hc q=>mod_int' hc q
theorem J5:bL X (binaryOp .Pow) (rI EJ fun i j=> .int (i^j.toNat)):=F9 fun _ _ _ _ _ _ _ hc q=>pow_int_small hc.1 hc.2.1 hc.2.2 q
theorem OP{f:Value→Sem Value}{g:Int→Int}
 (rule:∀(i:Int) (t:Tok) (s:Shared) (Q:Value→Shared→Prop) (E:Value→Shared→Prop),Q (.int (g i) s.toks) {s with toks:=s.toks+1}→wpAny (model X.prog X.w) X.A (f (.int i t)) Q E s):
 AH X f (rU fun i=> .int (g i)):=by
 intro pins s σ H x v Q I rx h
 obtain⟨i,rfl,q⟩:=h
 obtain⟨t,rfl⟩:=rx
 exact rule i t s _ _ ⟨.int (g i),H,I.tok _,⟨_,rfl⟩,q⟩
theorem J3:AH X (unaryOp .USub) (rU fun i=> .int (-i)):=OP fun _ _ _ _ _ q=>neg_int q
end
noncomputable def Oy:V→V→Bool
 | .aK,.aK=>true| .aK,.int _=>true| .int _,.aK=>true| .aK,.bl _=>true| .bl _,.aK=>true| .aK,.str _=>true| .str _,.aK=>true
 | .int _,.int _=>true| .bl _,.bl _=>true| .str _,.str _=>true| .sO _,.sO _=>true
 | .int _,.str _=>true| .str _,.int _=>true| .bl _,.str _=>true| .str _,.bl _=>true
 |_,_=>false
noncomputable def OD:R2:=fun x y H Q=>Oy x y=true∧Q (.bl (!decide (x=y))) H
theorem Iq{i j:Int}:decide (V.int i=V.int j)=(i==j):=by
 rw[Bool.eq_iff_iff]
 simp
theorem J9{i j:Bool}:decide (V.bl i=V.bl j)=(i==j):=by
 rw[Bool.eq_iff_iff]
 simp
theorem G9{i j:Str}:decide (V.str i=V.str j)=(i==j):=by
 rw[Bool.eq_iff_iff]
 simp
theorem HX{i j:Array UInt8}:decide (V.sO i=V.sO j)=(i.toList==j.toList):=by
 rw[Bool.eq_iff_iff]
 cases i
 cases j
 simp
section
variable {X:Cx}{a b c:Expr}{ta tb tc:TE}{pos:Pos}
theorem fg{pins:List (Addr×Obj)}{σ:St}{H:Hp}{s:Shared}{Q:VK}{k k':Bool}(I:Inv X pins σ H s)(q:Q (.bl k) H)(e:k=k'):EP X pins σ Q (.bool k') s:=by
 subst e
 exact⟨.bl k,H,I,rfl,q⟩
theorem LP:bL X (compareOp .NotEq) OD:=by
 intro pins s σ H x y v u Q I rx ry h
 obtain⟨hs,q⟩:=h
 cases x with
 |aK=>
  cases rx
  cases y with
  |aK=>cases ry;exact PySem.EqNone.ne_none_none (fg I q (by simp))
  |bl j=>cases ry;exact PySem.EqNone.ne_none_bool (fg I q (by simp))
  |int j=>obtain⟨t',rfl⟩:=ry;exact PySem.EqNone.ne_none_int (fg I q (by simp))
  |str j=>obtain⟨t',rfl⟩:=ry;exact PySem.EqNone.ne_none_str (fg I q (by simp))
  |_=>exact absurd (show false=true from hs) Bool.false_ne_true
 |bl i=>
  cases rx
  cases y with
  |aK=>cases ry;exact PySem.EqNone.ne_bool_none (fg I q (by simp))
  |bl j=>cases ry;exact ne_bool (fg I q (congrArg not J9))
  |str j=>obtain⟨t',rfl⟩:=ry;exact PySem.EqMixed.ne_bool_str (fg I q (by simp))
  |_=>exact absurd (show false=true from hs) Bool.false_ne_true
 |int i=>
  obtain⟨t,rfl⟩:=rx
  cases y with
  |aK=>cases ry;exact PySem.EqNone.ne_int_none (fg I q (by simp))
  |int j=>obtain⟨t',rfl⟩:=ry;exact ne_int (fg I q (congrArg not Iq))
  |str j=>obtain⟨t',rfl⟩:=ry;exact PySem.EqMixed.ne_int_str (fg I q (by simp))
  |_=>exact absurd (show false=true from hs) Bool.false_ne_true
 |str i=>
  obtain⟨t,rfl⟩:=rx
  cases y with
  |aK=>cases ry;exact PySem.EqNone.ne_str_none (fg I q (by simp))
  |bl j=>cases ry;exact PySem.EqMixed.ne_str_bool (fg I q (by simp))
  |int j=>obtain⟨t',rfl⟩:=ry;exact PySem.EqMixed.ne_str_int (fg I q (by simp))
  |str j=>obtain⟨t',rfl⟩:=ry;exact ne_str (fg I q (congrArg not G9))
  |_=>exact absurd (show false=true from hs) Bool.false_ne_true
 |sO i=>
  obtain⟨t,rfl⟩:=rx
  cases y with
  |sO j=>obtain⟨t',rfl⟩:=ry;exact PySem.W.ne_bytes (fg I q (congrArg not HX))
  |_=>exact absurd (show false=true from hs) Bool.false_ne_true
 |_=>cases y<;>exact absurd (show false=true from hs) Bool.false_ne_true
theorem MT:bL X (compareOp .Lt) (u0 fun i j=> .bl (decide (i<j))):=A3 fun _ _ _ _ _ _ _ q=>lt_int q
theorem Mo:bL X (compareOp .LtE) (u0 fun i j=> .bl (decide (i≤j))):=A3 fun _ _ _ _ _ _ _ q=>le_int q
theorem M1:bL X (compareOp .Gt) (u0 fun i j=> .bl (decide (j<i))):=A3 fun _ _ _ _ _ _ _ q=>gt_int q
theorem L7:bL X (compareOp .GtE) (u0 fun i j=> .bl (decide (j≤i))):=A3 fun _ _ _ _ _ _ _ q=>ge_int q
theorem Hu:bL X (compareOp .IsNot) (fun x y H Q=>y= .aK∧Q (.bl (!decide (x= .aK))) H):=by
 intro pins s σ H x y v u Q I rx ry h
 obtain⟨rfl,q⟩:=h
 cases ry
 refine isnot_none_gen (fg I q ?_)
 cases x<;>first
  |(cases rx;rfl)
  |(obtain⟨t,rfl⟩:=rx;rfl)
theorem bj(b:Expr){op:CmpOp}(h:op≠ .In:=by decide)(h2:op≠ .NotIn:=by decide):behindInMarks op b=false:=by
 have e1:(op==CmpOp.In)=false:=by cases op<;>first|rfl|exact absurd rfl h
 have e2:(op==CmpOp.NotIn)=false:=by cases op<;>first|rfl|exact absurd rfl h2
 cases b<;>simp[behindInMarks,e1,e2]
theorem Hw{op:CmpOp}{r:R2}(ho:bL X (compareOp op) r)(ha:PE X a ta)(hb:PE X b tb)(hm:behindInMarks op b=false):PE X (.Compare a [op] [b] pos) (Ej r ta tb):=by
 intro pins s σ H Q I h
 exact wpAny_Compare1 (Fe ha hb I h fun v u s2 x y H2 I2 rx ry q=>ho pins s2 σ H2 x y v u Q I2 rx ry q) hm
noncomputable def LL(t:TE):TT:=fun σ H Q=>t σ H fun x H'=>∃k,x= .bl k∧Q k H'
theorem Iy{op:CmpOp}{r:R2}(ho:bL X (compareOp op) r)(ha:PE X a ta)(hb:PE X b tb)(hm:behindInMarks op b=false):PT X (.Compare a [op] [b] pos) (LL (Ej r ta tb)):=by
 intro pins s σ H Q I h
 refine wpAny_isTrue_Compare1 (bR (ha pins s σ H _ I h) fun v s1 ⟨x,H1,I1,r1,q1⟩=>bR (hb pins s1 σ H1 _ I1 q1) fun u s2 ⟨y,H2,I2,r2,q2⟩=>
  bR (ho pins s2 σ H2 x y v u _ I2 r1 r2 q2) fun c s3 ⟨z,H3,I3,r3,k,e,q3⟩=>?_) hm
 subst e
 cases r3
 exact wpAny_truthy_bool ⟨H3,I3,q3⟩
noncomputable def Dt(r r':R2)(ta tb tc:TE):TE:=fun σ H Q=>ta σ H fun x H1=>tb σ H1 fun y H2=>r x y H2 fun z H3=>∃k,z= .bl k∧
 (if k=true then tc σ H3 fun w' H4=>r' y w' H4 Q else Q (.bl false) H3)
theorem EC{op op':CmpOp}{r r':R2}(ho:bL X (compareOp op) r)(ho':bL X (compareOp op') r')(ha:PE X a ta)(hb:PE X b tb)(hc:PE X c tc)
 (hm:lastMarks [op,op'] [b,c]=false:=by with_unfolding_all rfl):PE X (.Compare a [op,op'] [b,c] pos) (Dt r r' ta tb tc):=by
 intro pins s σ H Q I h
 refine Compare_chain (bR (ha pins s σ H _ I h) fun v s1 ⟨x,H1,I1,r1,q1⟩=>chain_link (bR (hb pins s1 σ H1 _ I1 q1) fun u s2 ⟨y,H2,I2,r2,q2⟩=>
  bR (ho pins s2 σ H2 x y v u _ I2 r1 r2 q2) fun d s3 ⟨z,H3,I3,r3,k,e,q3⟩=>?_)) hm
 subst e
 cases r3
 refine wpAny_truthy_bool ?_
 cases k with
 |false=>exact ite_ff ⟨.bl false,H3,I3,rfl,q3⟩
 |true=>exact ite_tt (chain_last (bR (hc pins s3 σ H3 _ I3 q3) fun w' s4 ⟨z',H4,I4,r4,q4⟩=>ho' pins s4 σ H4 y z' u w' Q I4 r2 r4 q4))
theorem qG:(sizeLine:Nat)<2^63:=by rw[sizeLine_eq];decide
theorem Ca:bL X (binaryOp .Add) (fun x y H Q=>∃i j,x= .str i∧y= .str j∧i.length+j.length≤sizeLine∧Q (.str (i++j)) H):=by
 intro pins s σ H x y v u Q I rx ry h
 obtain⟨i,j,rfl,rfl,hz,q⟩:=h
 obtain⟨t,rfl⟩:=rx
 obtain⟨t',rfl⟩:=ry
 exact add_str (fun t' tk=>⟨.str (i++j),H,I.tok _,⟨_,rfl⟩,q⟩) hz
theorem vals1{x:V}{us:List Value}(r:Vals [x] us):∃u,us=[u]∧RelV x u:=by
 cases r with
 |cons r1 r2=>cases r2;exact⟨_,rfl,r1⟩
theorem vals2{x y:V}{us:List Value}(r:Vals [x,y] us):∃u w',us=[u,w']∧RelV x u∧RelV y w':=by
 cases r with
 |cons r1 r2=>
  cases r2 with
  |cons r3 r4=>cases r4;exact⟨_,_,rfl,r1,r3⟩
theorem E_:bD X (.builtin "abs") (fun xs H Q=>∃i,xs=[.int i]∧Q (.int (if i<0 then-i else i)) H):=by
 intro pins s σ H xs us Q I r h
 obtain⟨i,rfl,q⟩:=h
 obtain⟨u,rfl,t,rfl⟩:=vals1 r
 exact call_abs_int fun u tk=>⟨.int (if i<0 then-i else i),H,I.tok _,⟨_,rfl⟩,q⟩
theorem CQ(hc:X.calm=true):bD X (.builtin "max") (fun xs H Q=>∃i j,xs=[.int i,.int j]∧Q (.int (if j>i then j else i)) H):=by
 intro pins s σ H xs us Q I r h
 obtain⟨i,j,rfl,q⟩:=h
 obtain⟨u,w',rfl,⟨t,rfl⟩,⟨t',rfl⟩⟩:=vals2 r
 refine max_two_ints (I.ok.hd hc) fun h' tk k=>⟨_,H,I.kept k,?_,q⟩
 by_cases hj:j>i
 · rw[if_pos hj,if_pos hj];exact⟨_,rfl⟩
 · rw[if_neg hj,if_neg hj];exact⟨_,rfl⟩
theorem C6(hc:X.calm=true):bD X (.builtin "min") (fun xs H Q=>∃i j,xs=[.int i,.int j]∧Q (.int (if j<i then j else i)) H):=by
 intro pins s σ H xs us Q I r h
 obtain⟨i,j,rfl,q⟩:=h
 obtain⟨u,w',rfl,⟨t,rfl⟩,⟨t',rfl⟩⟩:=vals2 r
 refine min_two_ints (I.ok.hd hc) fun h' tk k=>⟨_,H,I.kept k,?_,q⟩
 by_cases hj:j<i
 · rw[if_pos hj,if_pos hj];exact⟨_,rfl⟩
 · rw[if_neg hj,if_neg hj];exact⟨_,rfl⟩
theorem D3:bD X (.type "int") (fun xs H Q=>(∃i,xs=[.int i]∧Q (.int i) H)∨∃k,xs=[.bl k]∧Q (.int (if k then 1 else 0)) H):=by
 intro pins s σ H xs us Q I r h
 rcases h with⟨i,rfl,q⟩|⟨k,rfl,q⟩
 · obtain⟨u,rfl,t,rfl⟩:=vals1 r
   exact call_int_int ⟨.int i,H,I,⟨_,rfl⟩,q⟩
 · obtain⟨u,rfl,r1⟩:=vals1 r
   cases r1
   exact call_int_bool ⟨.int (if k then 1 else 0),H,I.tok _,⟨_,rfl⟩,q⟩
end
end L2
namespace L2
open PySem PySem.Spec PyProof.Rows
structure tH(h:Heap)(x dx C:Addr)(mA:Str→Option Value):Prop where
 obj:h.get? x=some (PySem.W.instObj C dx)
 ns:h.Ns1 dx mA
 ne:dx≠x
theorem Eh{h:Heap}{dx:Addr}{mA:Str→Option Value}(n:h.Ns1 dx mA):∃od,h.get? dx=some od∧∀name,PySem.W.lookIn name od=some (mA name):=by
 obtain⟨o,es,ep,ho,hd,hk,_,hm⟩:=n
 refine⟨o,ho,fun name=>?_⟩
 have e:=hm name
 unfold nsFind findBy at e
 rw[←Array.find?_toList]at e
 unfold PySem.W.lookIn
 rw[hd]
 dsimp only
 split
 · rename_i y q
   rw[q]at e
   exact congrArg some e
 · rename_i q
   rw[q]at e
   have a:es.toList.any (·.refKey)=false:=by
    rw[List.any_eq_false]
    intro y hy
    obtain⟨z,t,hkey⟩:=hk y (Array.mem_toList_iff.mp hy)
    simp[DictEntry.refKey,hkey]
   have a':¬es.toList.any (·.refKey)=true:=by rw[a];exact Bool.false_ne_true
   rw[if_neg a']
   exact congrArg some e
theorem tH.look{h:Heap}{x dx C:Addr}{mA:Str→Option Value}(I:tH h x dx C mA):∃od,PySem.W.InstAt h x (PySem.W.instObj C dx) C (some od)∧∀name,PySem.W.lookIn name od=some (mA name):=
 let⟨od,ho,hl⟩:=Eh I.ns
 ⟨od,⟨I.obj,rfl,rfl,ho⟩,hl⟩
section
variable {prog:Program}{w:World}{A:Around}{E:Value→Shared→Prop}{s:Shared}{K:PySem.W.Frag}{x dx C f:Addr}{mA:Str→Option Value}{name:Str}{v:Value}
theorem get_map{expr:Bool}{Q:Value→Shared→Prop}(X:K.In s.heap)(I:tH s.heap x dx C mA)(hg:PySem.W.plainGet K C name=true)(hh:PySem.W.hasDictIn K C=true)
 (ha:PySem.W.findIn K (.ref C) name=some none) (hv:mA name=some v) (hv':PySem.W.handedIn v=true) (h:Q v {s with toks:=s.toks+1}):
 wpAny (model prog w) A (getAttr (.ref x) name expr) Q E s:=by
 obtain⟨od,J,hl⟩:=I.look
 exact PySem.W.get_value X J (PySem.W.plainGet_of hg).1 (PySem.W.findObj_own hh ha rfl (by rw[hl,hv])) hv' h
theorem Fz{pl:Sem Bool}{Q:Value×List Value→Shared→Prop}(X:K.In s.heap)(I:tH s.heap x dx C mA)(hg:PySem.W.plainGet K C name=true)
 (hf:PySem.W.findIn K (.ref C) name=some (some (.ref f))) (ht:PySem.W.isFn K (.ref f)=true) (hv:mA name=none) (h:Q (.ref f,[.ref x]) s):
 wpAny (model prog w) A (getMethod (.ref x) name pl) Q E s:=by
 obtain⟨od,J,hl⟩:=I.look
 exact PySem.W.method_fn X J (PySem.W.plainGet_of hg).1 (PySem.W.plainGet_of hg).2 hf (beq_iff_eq.mp ht) (by show(PySem.W.lookIn name od).map (·.isSome)=some false;rw[hl,hv];rfl) h
theorem gY{ns:List Str}{Q:Unit→Shared→Prop}(X:K.In s.heap)(I:tH s.heap x dx C mA)
 (hs:PySem.W.findIn K (.ref C) "__setattr__"=some (some (.builtin "object.__setattr__"))) (hp:PySem.W.plainOver K C=true) (ht:PySem.W.takerIn K C name=some none) (hh:PySem.W.hasDictIn K C=true)
 (hw:PySem.Within mA ns) (hsz:ns.length≤sizeLine)
 (h:∀h',tH h' x dx C (fun y=>if y=name then some v else mA y)→Heap.SameBut dx s.heap h'→Q () {s with heap:=h',toks:=s.toks+2}):
 wpAny (model prog w) A (setAttr (.ref x) name v) Q E s:=by
 obtain⟨od,J,hl⟩:=I.look
 refine PySem.W.set_plain X J hs (PySem.W.osa_open (s:={s with toks:=s.toks+1}) (r:=none) X J hp ht fun b=>?_)
 obtain⟨cd,hc,hd'⟩:=PySem.W.any_some hh
 have hx:s.heap.get? x=some ⟨.ref C,some dx,.plain,#[]⟩:=I.obj
 refine wpAny_bind (wpAny_pure (wpAny_bind (wpAny_bind (wpAny_loadPart hx (wpAny_bind (PySem.W.Looks.here (s:={s with toks:=s.toks+1}) (PySem.W.looks_clsIn X hc) ?_))))))
 rw[hd']
 refine wpAny_pure (a:=some dx) (wpAny_bind (wpAny_pure (wpAny_bind ?_)))
 refine wpAny_nsSet1 (s:={s with toks:=s.toks+1}) I.ns fun h' hn2 hs2=>?_
 obtain⟨oD,esD,epD,hoD,hdD,hcD⟩:=hn2.count (PySem.Within.cons name v hw)
 refine wpAny_bind (wpAny_lookBehind hoD (by rw[hdD];exact pastItsLine_dict (Nat.le_trans hcD (by rw[List.length_cons];omega))) ?_)
 exact wpAny_pure (h _ ⟨(hs2.2 _ (Ne.symm I.ne)).trans I.obj,hn2,I.ne⟩ hs2)
theorem EM{R:Result→Shared→Prop}{vs:List Value}{kw:List (Str×Value)}(X:K.In s.heap)(hm:PySem.W.makesIn K C=true)
 (hi:PySem.W.findIn K (.ref C) "__init__"=some (some (.ref f))) (hf:PySem.W.typeIn K (.ref f)=some (.type "function"))
 (h:codeAny (model prog w) (A.under (.builtin "type.__call__" ⟨.ref C::vs,kw⟩)) (.call (.ref f) ⟨.ref (s.heap.objs.size+1)::vs,kw⟩) (PySem.W.InitBack (s.heap.objs.size+1) R)
   {s with heap:=(s.heap.push PySem.W.emptyDict).push (PySem.W.instObj C s.heap.objs.size)}):
 codeAny (model prog w) A (.call (.ref C) ⟨vs,kw⟩) R s:=by
 obtain⟨hh,g,d,t,os⟩:=s
 exact PySem.W.make_core (PySem.W.makes_of X hm) (PySem.W.looks_findIn X hi) (fun self=>PySem.W.bind_fn X self hf) (.inl rfl) h
end
noncomputable def gy(f:Str)(v:V):List (Str×V)→List (Str×V)
 | []=>[(f,v)]
 |(g,x)::r=>if g=f then(g,v)::r else(g,x)::gy f v r
theorem tw(f g:Str)(v:V):∀fs:List (Str×V),(gy f v fs).lookup g=if g=f then some v else fs.lookup g
 | []=>by
   show List.lookup g [(f,v)]=_
   by_cases h:g=f
   · have hb:(g==f)=true:=beq_iff_eq.mpr h
     simp only[List.lookup,hb,if_pos h]
   · have hb:(g==f)=false:=beq_eq_false_iff_ne.mpr h
     simp only[List.lookup,hb,if_neg h]
 |(k,x)::r=>by
  have ih:=tw f g v r
  rw[show gy f v ((k,x)::r)=(if k=f then(k,v)::r else(k,x)::gy f v r)from rfl]
  by_cases hk:k=f
  · rw[if_pos hk]
    by_cases h:g=k
    · have hb:(g==k)=true:=beq_iff_eq.mpr h
      simp only[List.lookup,hb,if_pos (h.trans hk)]
    · have hb:(g==k)=false:=beq_eq_false_iff_ne.mpr h
      simp only[List.lookup,hb,if_neg (fun e:g=f=>h (e.trans hk.symm))]
  · rw[if_neg hk]
    by_cases h:g=k
    · have hb:(g==k)=true:=beq_iff_eq.mpr h
      simp only[List.lookup,hb,if_neg (fun e:g=f=>hk (h.symm.trans e))]
    · have hb:(g==k)=false:=beq_eq_false_iff_ne.mpr h
      simp only[List.lookup,hb]
      exact ih
theorem qI(f:Str)(v:V):∀fs:List (Str×V),f∈(gy f v fs).map (·.1)∧∀g,g∈fs.map (·.1)→g∈(gy f v fs).map (·.1)
 | []=>⟨by simp[gy],fun g h=>by simp at h⟩
 |(k,x)::r=>by
  obtain⟨i1,i2⟩:=qI f v r
  rw[show gy f v ((k,x)::r)=(if k=f then(k,v)::r else(k,x)::gy f v r)from rfl]
  by_cases hk:k=f
  · rw[if_pos hk]
    subst hk
    exact⟨by simp,fun g h=>by simpa using h⟩
  · rw[if_neg hk]
    refine⟨?_,fun g h=>?_⟩
    · rw[List.map_cons]
      exact List.mem_cons_of_mem _ i1
    · rw[List.map_cons]at h⊢
      rcases List.mem_cons.mp h with e|e
      · exact List.mem_cons.mpr (.inl e)
      · exact List.mem_cons_of_mem _ (i2 g e)
theorem sV(f:Str)(v:V):∀fs:List (Str×V),(gy f v fs).length≤fs.length+1
 | []=>by simp[gy]
 |(k,x)::r=>by
  have ih:=sV f v r
  rw[show gy f v ((k,x)::r)=(if k=f then(k,v)::r else(k,x)::gy f v r)from rfl]
  by_cases hk:k=f
  · rw[if_pos hk,List.length_cons,List.length_cons];omega
  · rw[if_neg hk,List.length_cons,List.length_cons];omega
theorem oH.some_of{v:V}{o:Option Value}(r:oH (some v) o):∃u,o=some u∧RelV v u:=by
 cases o with
 |none=>exact(show False from r).elim
 |some u=>exact⟨u,rfl,r⟩
theorem oH.none_of{o:Option Value}(r:oH none o):o=none:=by
 cases o with
 |none=>rfl
 |some u=>exact(show False from r).elim
theorem Cp{v:V}{u:Value}(r:RelV v u):PySem.W.handedIn u=true:=by
 cases v with
 |aK=>cases (show u=Value.none from r);rfl
 |bl b=>cases (show u=Value.bool b from r);rfl
 |int i=>obtain⟨t,e⟩:=(show∃t,u=Value.int i t from r);cases e;rfl
 |str x=>obtain⟨t,e⟩:=(show∃t,u=Value.str x t from r);cases e;rfl
 |sO b=>obtain⟨t,e⟩:=(show∃t,u=Value.bytes b t from r);cases e;rfl
 |sW b=>obtain⟨t,e⟩:=(show∃t,u=Value.float b t from r);cases e;rfl
 |ref a=>cases (show u=Value.ref a from r);rfl
 |ty n=>cases (show u=Value.type n from r);rfl
section
variable {P:Program}{w:World}{H H':Hp}{h h':Heap}{a C dx:Addr}{fs fs':List (Str×V)}
theorem pv(aN:gR P w H h)(e:H a=some (.ins C dx fs)):∃mA,tH h a dx C mA∧(∀f,oH (fs.lookup f) (mA f))∧PySem.Within mA (fs.map (·.1))∧fs.length≤1000∧H dx=some (.own a):=by
 obtain⟨d,z,ne,ob,mA,n,r,q⟩:=(show dv P w H h a (.ins C dx fs)from aN a _ e)
 exact⟨mA,⟨ob,n,ne⟩,r,q,z,d⟩
end
structure nH(K:PySem.W.Frag)(C:Addr):Prop where
 pg:PySem.W.plainGet K C Str.empty=true
 hd:PySem.W.hasDictIn K C=true
 po:PySem.W.plainOver K C=true
 sa:PySem.W.findIn K (.ref C) "__setattr__"=some (some (.builtin "object.__setattr__"))
theorem nH.get{K:PySem.W.Frag}{C:Addr}(c:nH K C)(f:Str):PySem.W.plainGet K C f=true:=c.pg
noncomputable def fQ(K:PySem.W.Frag)(C:Addr)(f:Str):Prop:=PySem.W.findIn K (.ref C) f=some none
theorem fQ.Mu{K:PySem.W.Frag}{C:Addr}{f:Str}(n:fQ K C f):PySem.W.takerIn K C f=some none:=by
 unfold PySem.W.takerIn
 rw[show PySem.W.findIn K (.ref C) f=some none from n]
 rfl
structure Meth(K:PySem.W.Frag)(C:Addr)(m:Str)(f:Addr):Prop where
 at_:PySem.W.findIn K (.ref C) m=some (some (.ref f))
 fn:PySem.W.isFn K (.ref f)=true
 kp:PySem.W.keepIn K (.ref f)=true
section
variable {X:Cx}{pins:List (Addr×Obj)}{σ:St}{H:Hp}{s:Shared}{a C dx:Addr}{fs:List (Str×V)}{f:Str}{v:V}{A:Around}{E:Value→Shared→Prop}
theorem BJ{b:Bool}{Q:Value→Shared→Prop}(I:Inv X pins σ H s)(e:H a=some (.ins C dx fs))(c:nH X.K C)(n:fQ X.K C f)(l:fs.lookup f=some v)
 (h:∀u s',Inv X pins σ H s'→RelV v u→Q u s'):wpAny (model X.prog X.w) A (getAttr (.ref a) f b) Q E s:=by
 obtain⟨mA,O,r,_,_,_⟩:=pv I.aN e
 obtain⟨u,hu,ru⟩:=oH.some_of (v:=v) (o:=mA f) (by rw[←l];exact r f)
 exact get_map I.gB O (c.get f) c.hd n hu (Cp ru) (h u _ (I.tok _) ru)
theorem A6{m:Str}{g:Addr}{pl:Sem Bool}{Q:Value×List Value→Shared→Prop}(I:Inv X pins σ H s)(e:H a=some (.ins C dx fs))(c:nH X.K C)(k:Meth X.K C m g)(l:fs.lookup m=none)
 (h:Q (.ref g,[.ref a]) s):wpAny (model X.prog X.w) A (getMethod (.ref a) m pl) Q E s:=by
 obtain⟨mA,O,r,_,_,_⟩:=pv I.aN e
 have hn:mA m=none:=oH.none_of (by rw[←l];exact r m)
 exact Fz I.gB O (c.get m) k.at_ k.fn hn h
theorem Bq{y:V}{u:Value}{Q:Unit→Shared→Prop}(I:Inv X pins σ H s)(e:H a=some (.ins C dx fs))(c:nH X.K C)(n:fQ X.K C f)(hl:fs.length<1000)(ry:RelV y u)
 (h:∀s',Inv X pins σ (upd H a (.ins C dx (gy f y fs))) s'→Q () s'):wpAny (model X.prog X.w) A (setAttr (.ref a) f u) Q E s:=by
 obtain⟨mA,O,r,wi,_,ho⟩:=pv I.aN e
 have hz:(fs.map (·.1)).length≤sizeLine:=by rw[List.length_map,sizeLine_eq];omega
 refine gY I.gB O c.sa c.po n.Mu c.hd wi hz fun h' O' sb=>h _ ?_
 have hd:∃o,h'.get? dx=some o:=let⟨o,_,_,e',_⟩:=O'.ns;⟨o,e'⟩
 refine I.write (x:=a) (e:=dx) (by rw[e];exact True.intro) (.inr ho) (fun b q hb z=>(sb.2 b hb).trans z) hd ?_
 refine⟨by rw[az O.ne];exact ho,?_,O.ne,O'.obj,_,O'.ns,fun g=>?_,fun g hg=>?_⟩
 · have:=sV f y fs;omega
 · show oH ((gy f y fs).lookup g) (if g=f then some u else mA g)
   rw[tw]
   by_cases q:g=f
   · rw[if_pos q,if_pos q];exact ry
   · rw[if_neg q,if_neg q];exact r g
 · by_cases q:g=f
   · rw[q];exact(qI f y fs).1
   · refine(qI f y fs).2 g (wi g fun z=>hg ?_)
     show(if g=f then some u else mA g)=none
     rw[if_neg q];exact z
theorem Inv.made(I:Inv X pins σ H s):Inv X pins σ (upd (upd H s.heap.objs.size (.own (s.heap.objs.size+1))) (s.heap.objs.size+1) (.ins C s.heap.objs.size []))
 {s with heap:=(s.heap.push PySem.W.emptyDict).push (PySem.W.instObj C s.heap.objs.size)}:=by
 have e1:(s.heap.push PySem.W.emptyDict).get? s.heap.objs.size=some PySem.W.emptyDict:=Heap.get?_push_size s.heap rfl
 have e2:((s.heap.push PySem.W.emptyDict).push (PySem.W.instObj C s.heap.objs.size)).get? (s.heap.objs.size+1)=some (PySem.W.instObj C s.heap.objs.size):=by
  have:=Heap.get?_push_size (s.heap.push PySem.W.emptyDict) (o:=PySem.W.instObj C s.heap.objs.size) rfl
  rwa [Heap.size_push]at this
 have e3:(s.heap.push PySem.W.emptyDict).Ns s.heap.objs.size (fun _=>none):=⟨PySem.W.emptyDict,#[],_,e1,rfl,(fun e he=>absurd he (by simp)),fun _=>rfl⟩
 have I1:=I.laid (a:=s.heap.objs.size) (o:= .own (s.heap.objs.size+1)) (h':=s.heap.push PySem.W.emptyDict) (t':=s.toks) (fun b u q=>Heap.get?_push_of_some _ q) (Nat.le_refl _) ⟨_,e1⟩
 refine I1.laid (a:=s.heap.objs.size+1) (o:= .ins C s.heap.objs.size []) (t':=s.toks) (fun b u q=>Heap.get?_push_of_some _ q) (Nat.le_of_eq (Heap.size_push _ _)) ?_
 have ne:s.heap.objs.size≠s.heap.objs.size+1:=Nat.ne_of_lt (Nat.lt_succ_self _)
 refine⟨by rw[az ne,aZ],Nat.zero_le _,ne,e2,fun _=>none,(Heap.Ns1.of_empty e3).at fun o q=>Heap.get?_push_of_some _ q,fun _=>True.intro,fun y hy=>absurd rfl hy⟩
theorem Hn{prog:Program}{w:World}{env:Env}{e:Expr}{f:Str}{pos:Pos}{s:Shared}{Q:Value→Shared→Prop}(hb:attributeBase e f env (eval e env)=eval e env)
 (h:wpAny (model prog w) A (eval e env) (fun o s₁=>wpAny (model prog w) A (getAttr o f true) Q E s₁) E s):wpAny (model prog w) A (eval (.Attribute e f pos) env) Q E s:=
 Attribute_any_ h (by rw[arm_eval_Attribute,hb])
end
noncomputable def Oo(K:PySem.W.Frag)(ta:TE)(f:Str):TE:=fun σ H Q=>ta σ H fun x H1=>∃a C dx fs v,x= .ref a∧H1 a=some (.ins C dx fs)∧nH K C∧fQ K C f∧fs.lookup f=some v∧Q v H1
noncomputable def N3(K:PySem.W.Frag)(ta tv:TE)(f:Str):TS:=fun D σ H=>tv σ H fun y H1=>ta σ H1 fun x H2=>∃a C dx fs,x= .ref a∧H2 a=some (.ins C dx fs)∧nH K C∧fQ K C f∧fs.length<1000∧
 D.nx σ (upd H2 a (.ins C dx (gy f y fs)))
section
variable {X:Cx}{o e value:Expr}{f:Str}{pos pos' tpos:Pos}{ta tv:TE}
theorem K0(he:PE X e ta)(hb:attributeBase e f X.env (eval e X.env)=eval e X.env):PE X (.Attribute e f pos) (Oo X.K ta f):=by
 intro pins s σ H Q I h
 refine Hn hb (bR (he pins s σ H _ I h) fun u s1 ⟨x,H1,I1,rx,a,C,dx,fs,v,ex,ea,c,n,l,q⟩=>?_)
 subst ex
 obtain rfl:u=Value.ref a:=rx
 exact BJ I1 ea c n l fun u' s2 I2 ru=>⟨v,H1,I2,ru,q⟩
theorem Jq(ha:PE X o ta)(hv:PE X value tv)(hs:swapsWith value (some (.Attribute o f pos')) pos.line X.env=pure false):PS X (.Assign [.Attribute o f pos'] value pos) (N3 X.K ta tv f):=by
 intro pins s σ H D I h
 refine plainObj_wpAny_Assign_Attribute (bR (hv pins s σ H _ I h) fun u s1 ⟨y,H1,I1,ry,q⟩=>bR (ha pins s1 σ H1 _ I1 q) fun ov s2 ⟨x,H2,I2,rx,a,C,dx,fs,ex,ea,c,n,l,q2⟩=>?_) hs
 subst ex
 obtain rfl:ov=Value.ref a:=rx
 exact Bq I2 ea c n l ry fun s3 I3=>⟨σ,_,I3,q2⟩
end
section
variable {X:Cx}{pins:List (Addr×Obj)}{σ:St}{H:Hp}{s:Shared}{A:Around}{E:Value→Shared→Prop}{Q:Value→Shared→Prop}{c:Value}{b:Bool}
inductive iU(K:PySem.W.Frag)(H:Hp):V→Value→Prop where
 |aK:iU K H .aK (.type "NoneType")
 |bl (x:Bool):iU K H (.bl x) (.type "bool")
 |int (i:Int):iU K H (.int i) (.type "int")
 |str (x:Str):iU K H (.str x) (.type "str")
 |sW (x:UInt64):iU K H (.sW x) (.type "float")
 |lst {a:Addr} {xs:List V} (e:H a=some (.lst xs)):iU K H (.ref a) (.type "list")
 |gb {a:Addr} {o:Obj} {xs:List V} (e:H a=some (.gb o (.lst xs))):iU K H (.ref a) (.type "list")
 |tup {a:Addr} {xs:List V} (e:H a=some (.tup xs)):iU K H (.ref a) (.type "tuple")
 |dK {a:Addr} {kvs:List (Key×V)} (e:H a=some (.dK kvs)):iU K H (.ref a) (.type "dict")
 |dT {a:Addr} {kvs:List (List Key×V)} (e:H a=some (.dT kvs)):iU K H (.ref a) (.type "dict")
 |ins {a C dx:Addr} {fs:List (Str×V)} (e:H a=some (.ins C dx fs)) (cl:nH K C) (ha:PySem.W.findIn K (.ref C) "__class__"=some (some (.builtin "object.__class__")))
   (hn:PySem.W.specialIn K (.builtin "object.__class__") "__get__"=some (some (.builtin "getset_descriptor.__get__"))) (htk:PySem.W.takesIn K (.builtin "object.__class__")=some true)
   (hm:PySem.W.mroIn K C (.type "object")=some true):iU K H (.ref a) (.ref C)
theorem CY{x:V}{u t:Value}(I:Inv X pins σ H s)(rx:RelV x u)(ty:iU X.K H x t)(e:PySem.W.kitOne X.K t c=some b)(h:∀tk,Q (.bool b) {s with toks:=tk}):
 wpAny (model X.prog X.w) A (call (.builtin "isinstance") [u,c]) Q E s:=by
 cases ty with
 |aK=>cases (show u=Value.none from rx);exact PySem.W.kia_one PySem.W.kitx_none I.gB True.intro e (fun z=>nomatch z) h
 |bl y=>cases (show u=Value.bool y from rx);exact PySem.W.kia_one PySem.W.kitx_bool I.gB True.intro e (fun z=>nomatch z) h
 |int i=>obtain⟨t,q⟩:=(show∃t,u=Value.int i t from rx);cases q;exact PySem.W.kia_one PySem.W.kitx_int I.gB True.intro e (fun z=>nomatch z) h
 |str y=>obtain⟨t,q⟩:=(show∃t,u=Value.str y t from rx);cases q;exact PySem.W.kia_one PySem.W.kitx_str I.gB True.intro e (fun z=>nomatch z) h
 |sW y=>obtain⟨t,q⟩:=(show∃t,u=Value.float y t from rx);cases q;exact PySem.W.kia_one PySem.W.kitx_float I.gB True.intro e (fun z=>nomatch z) h
 | @lst a xs ea=>
   cases (show u=Value.ref a from rx)
   obtain⟨_,_,n,_,h1⟩:=(show dv X.prog X.w H s.heap a (.lst xs)from I.aN a _ ea)
   exact PySem.W.kia_one PySem.W.kitx_list I.gB ⟨_,h1,rfl⟩ e (fun z=>nomatch z) h
 | @gb a ob xs ea=>
   cases (show u=Value.ref a from rx)
   obtain⟨_,_,_,n,_,h1⟩:=(show dv X.prog X.w H s.heap a (.gb ob (.lst xs))from I.aN a _ ea)
   exact PySem.W.kia_one PySem.W.kitx_list I.gB ⟨_,h1,rfl⟩ e (fun z=>nomatch z) h
 | @tup a xs ea=>
   cases (show u=Value.ref a from rx)
   obtain⟨_,_,_,p⟩:=(show dv X.prog X.w H s.heap a (.tup xs)from I.aN a _ ea)
   obtain⟨o,h1,h2,_⟩:=p
   exact PySem.W.kia_one PySem.W.kitx_tuple I.gB ⟨o,h1,h2⟩ e (fun z=>nomatch z) h
 | @dK a kvs ea=>
   cases (show u=Value.ref a from rx)
   obtain⟨_,_,vs,_,p⟩:=(show dv X.prog X.w H s.heap a (.dK kvs)from I.aN a _ ea)
   obtain⟨o,es,ep,h1,h2,_⟩:=p
   exact PySem.W.kia_one PySem.W.kitx_dict I.gB ⟨o,h1,h2.1⟩ e (fun z=>nomatch z) h
 | @dT a kvs ea=>
   cases (show u=Value.ref a from rx)
   obtain⟨_,_,xs,_,o,es,ep,h1,h2,_⟩:=(show dv X.prog X.w H s.heap a (.dT kvs)from I.aN a _ ea)
   exact PySem.W.kia_one PySem.W.kitx_dict I.gB ⟨o,h1,h2.1⟩ e (fun z=>nomatch z) h
 | @ins a C dx fs ea cl ha hn htk hm=>
   cases (show u=Value.ref a from rx)
   obtain⟨mA,O,_⟩:=pv I.aN ea
   obtain⟨od,J,_⟩:=O.look
   exact PySem.W.kia_one (PySem.W.kitx_own (cl.get _) cl.hd ha hn htk hm) I.gB J e (fun z=>nomatch z) h
end
end L2
namespace L2
open PySem PySem.Spec PyProof.Rows
structure cO(k:Nat)(A:Around):Prop where
 hd:A.handled=none
 dp:A.depth+3*k+105<recursionLimit
 un:A.units+16*k+200<cLine
theorem cO.mono{j k:Nat}{A:Around}(r:cO k A)(h:j≤k):cO j A:=⟨r.hd,by have:=r.dp;omega,by have:=r.un;omega⟩
theorem cO.deeper{k:Nat}{A:Around}(r:cO (k+1) A)(env:Env):cO k (A.deeper env):=
 ⟨r.hd,by have:=r.dp;show A.depth+1+3*k+105<_;omega,by have:=r.un;show A.units+3+16*k+200<_;omega⟩
theorem BP{A:Around}{C:Addr}{us:List Value}{kw:List (Str×Value)}:(A.under (.builtin "type.__call__" ⟨.ref C::us,kw⟩)).depth=A.depth+1:=by
 first|rfl|simp[Around.under,Code.weight,Code.isCreation,Code.isGuard,Code.isCaller,Code.frames,Code.isFrame,guardIds]
theorem Bf{A:Around}{C:Addr}{us:List Value}{kw:List (Str×Value)}:(A.under (.builtin "type.__call__" ⟨.ref C::us,kw⟩)).units=A.units+1:=by
 first|rfl|simp[Around.under,Code.cUnits,Code.frames,Code.isFrame]
theorem cO.make{k:Nat}{A:Around}(r:cO (k+1) A)(C:Addr)(us:List Value)(kw:List (Str×Value)):cO k (A.under (.builtin "type.__call__" ⟨.ref C::us,kw⟩)):=
 ⟨r.hd,by have:=r.dp;rw[BP];omega,by have:=r.un;rw[Bf];omega⟩
theorem cO.depth{k:Nat}{A:Around}(r:cO k A):A.depth<recursionLimit:=by have:=r.dp;omega
theorem cO.units{k:Nat}{A:Around}(r:cO k A):A.units+64<cLine:=by have:=r.un;omega
noncomputable def N4:TA:=fun _ H Q=>Q [] H
noncomputable def L0(ta:TE)(tr:TA):TA:=fun σ H Q=>ta σ H fun x H1=>tr σ H1 fun xs H2=>Q (x::xs) H2
section
variable {X:Cx}{e:Expr}{es:List Expr}{te:TE}{t:TA}{pos:Pos}
theorem Jd:PA X [] N4:=fun _ _ _ _ H Q I h=>Calls.spliced_nil ⟨[],H,I,.nil,h⟩
theorem Ie(ha:PE X e te)(hr:PA X es t)(hs:starEach (e::es) X.env=(false,eval e X.env)::starEach es X.env:=by rfl):PA X (e::es) (L0 te t):=by
 intro pos pins s σ H Q I h
 rw[hs]
 show wpAny _ _ (spliced ((false,eval e X.env)::backTo pos (starEach es X.env))) _ _ s
 refine Calls.spliced_cons (bR (ha pins s σ H _ I h) fun u s1 ⟨x,H1,I1,r1,q1⟩=>?_)
 exact bR (hr pos pins s1 σ H1 _ I1 q1) fun us s2 ⟨xs,H2,I2,r2,q2⟩=>⟨x::xs,H2,I2,.cons r1 r2,q2⟩
noncomputable def N7(t:TA):TE:=fun σ H Q=>t σ H fun xs H1=>xs.length≤sizeLine∧∀p,H1 p=none→Q (.ref p) (upd H1 p (.tup xs))
noncomputable def OC(t:TA):TE:=fun σ H Q=>t σ H fun xs H1=>xs.length≤sizeLine∧∀p,H1 p=none→Q (.ref p) (upd H1 p (.lst xs))
theorem KP{x1}(h:PA X es t):PE X (.Tuple es x1 pos) (N7 t):=by
 intro pins s σ H Q I hq
 refine wpAny_Tuple_spliced (bR (h pos pins s σ H _ I hq) fun us s1 ⟨xs,H1,I1,r,z,q⟩=>⟨by rw[←r.length];exact z,?_⟩)
 have hf:H1 s1.heap.objs.size=none:=I1.aN.fresh (Nat.le_refl _)
 refine⟨.ref s1.heap.objs.size,upd H1 s1.heap.objs.size (.tup xs),I1.laid (t':=s1.toks) (fun b u e=>Heap.get?_push_of_some _ e) (Nat.le_refl _) ?_,rfl,q _ hf⟩
 exact⟨z,us,r,⟨_,Heap.get?_push_size _ rfl,rfl,_,rfl⟩⟩
theorem CW(h:PA X es t):PE X (.List es pos) (OC t):=by
 intro pins s σ H Q I hq
 refine wpAny_List_spliced (bR (h pos pins s σ H _ I hq) fun us s1 ⟨xs,H1,I1,r,z,q⟩=>⟨by rw[←r.length];exact z,?_⟩)
 have hf:H1 s1.heap.objs.size=none:=I1.aN.fresh (Nat.le_refl _)
 refine⟨.ref s1.heap.objs.size,upd H1 s1.heap.objs.size (.lst xs),I1.laid (t':=s1.toks) (fun b u e=>Heap.get?_push_of_some _ e) (Nat.le_refl _) ?_,rfl,q _ hf⟩
 exact⟨z,us,0,r,Heap.get?_push_size _ rfl⟩
end
noncomputable abbrev Sp:=List V→Hp→VK→XK→Prop
noncomputable abbrev td:=List Env→Hp→Shared→XK→Value→Shared→Prop
structure tD(P:Program)(w:World)(K:PySem.W.Frag)(mg:Str→Option Value)(base:Heap)(A:Around)(outer:List Env)(s:Shared)(H:Hp):Prop where
 frames:A.frames=some outer
 mod:Mod K mg base
 bs:∀b o,base.get? b=some o→s.heap.get? b=some o∧H b=none
 qD:base.objs.size≤s.heap.objs.size
 ka:s.heap.FunFrames base outer
 uU:∀b∈pC outer,H b=none
 aN:gR P w H s.heap
 bare:AllBare s.gens
 gt:P.given.tree=none
noncomputable def CE(outer:List Env)(P:Program)(w:World)(H:Hp)(s:Shared)(Q:VK)(u:Value)(s':Shared):Prop:=
 ∃v H',s'.os=s.os∧AllBare s'.gens∧Un (pC outer) [] H H' s.heap s'.heap∧gR P w H' s'.heap∧RelV v u∧Q v H'
noncomputable def CR(CX:td)(outer:List Env)(P:Program)(w:World)(H:Hp)(s:Shared)(Q:VK)(E:XK)(r:Result)(s':Shared):Prop:=
 match r with
 | .ok (.ret u)=>CE outer P w H s Q u s'
 | .ok _=>False
 | .error e=>CX outer H s E e s'
structure a8(P:Program)(w:World)(K:PySem.W.Frag)(mg:Str→Option Value)(base:Heap)(CX:td)(k:Nat)(f:Addr)(fd:FuncData)(ps:List Str)(sp:Sp):Prop where
 len:∀vs H Q E,sp vs H Q E→vs.length=ps.length
 run:∀(A:Around) (outer:List Env) (s:Shared) (H:Hp) (args:Args) (us:List Value) (vs:List V) (Q:VK) (E:XK),cO k A→tD P w K mg base A outer s H→BindsTo s fd args (ps.zip us)→Vals vs us→sp vs H Q E→
  codeAny (model P w) A (.call (.ref f) args) (CR CX outer P w H s Q E) s
theorem a8.imp{P:Program}{w:World}{K:PySem.W.Frag}{mg:Str→Option Value}{base:Heap}{CX:td}{k:Nat}{f:Addr}{fd:FuncData}{ps:List Str}{sp sp':Sp}(F:a8 P w K mg base CX k f fd ps sp)
 (h:∀vs H Q E,sp' vs H Q E→sp vs H Q E):a8 P w K mg base CX k f fd ps sp':=
 ⟨fun vs H Q E q=>F.len vs H Q E (h _ _ _ _ q),fun A outer s H args us vs Q E hr he hb hv hs=>F.run A outer s H args us vs Q E hr he hb hv (h _ _ _ _ hs)⟩
theorem tD.make{P:Program}{w:World}{K:PySem.W.Frag}{mg:Str→Option Value}{base:Heap}{A:Around}{outer:List Env}{s:Shared}{H:Hp}(e:tD P w K mg base A outer s H)(C:Addr)(us:List Value)(kw:List (Str×Value)):
 tD P w K mg base (A.under (.builtin "type.__call__" ⟨.ref C::us,kw⟩)) outer s H:=⟨by first|exact e.frames|(simpa[Around.under,Code.envs,Code.isFrame,pushEnvs]using e.frames),e.mod,e.bs,e.qD,e.ka,e.uU,e.aN,e.bare,e.gt⟩
section
variable {X:Cx}{pins:List (Addr×Obj)}{σ:St}{H:Hp}{s s':Shared}
theorem Inv.Jc(I:Inv X pins σ H s):tD X.prog X.w X.K X.mg X.base X.A X.stack s H:=
 ⟨I.ok.frames,I.ok.mod,I.bs,Nat.le_trans I.ok.qD I.sz,I.stack,I.vT,I.aN,I.bare,I.ok.gt⟩
theorem Inv.after{Q:VK}{u:Value}(I:Inv X pins σ H s)(h:CE X.stack X.prog X.w H s Q u s'):EP X pins σ Q u s':=by
 obtain⟨v,H',os,bare,un,aN,r,q⟩:=h
 obtain⟨hh,g,d,t,os'⟩:=s'
 obtain rfl:os'=s.os:=os
 exact⟨v,H',I.call (h':=hh) (g':=g) (d':=d) (t':=t) (ch:=[]) un aN bare (fun b z=>absurd z (by simp)),r,q⟩
end
noncomputable def FY(sp:Sp)(dvs:List V)(E:XK)(t:TA):TE:=fun σ H Q=>t σ H fun vs H1=>sp (vs++dvs) H1 Q E
noncomputable def GD(C:Addr)(m:Str)(sp:Sp)(dvs:List V)(E:XK)(ta:TE)(t:TA):TE:=fun σ H Q=>ta σ H fun x H1=>∃a dx fs,x= .ref a∧H1 a=some (.ins C dx fs)∧fs.lookup m=none∧
 t σ H1 fun vs H2=>sp (x::(vs++dvs)) H2 Q E
noncomputable def Ge(C:Addr)(sp:Sp)(dvs:List V)(E:XK)(t:TA):TE:=fun σ H Q=>t σ H fun vs H1=>∀x dx,H1 x=none→H1 dx=none→dx≠x→
 sp (.ref x::(vs++dvs)) (upd (upd H1 dx (.own x)) x (.ins C dx [])) (fun v H2=>v= .aK∧Q (.ref x) H2) E
noncomputable def Binds(K:PySem.W.Frag)(fd:FuncData)(ps:List Str)(ds:List Value):Prop:=
 ∀(s:Shared) (us:List Value),K.In s.heap→(us++ds).length=ps.length→BindsTo s fd ⟨us,[]⟩ (ps.zip (us++ds))
theorem Binds.all{K:PySem.W.Frag}{fd:FuncData}{ps:List Str}(h:∀us:List Value,us.length=ps.length→bindArgs fd ⟨us,[]⟩=pure (ps.zip us)):Binds K fd ps []:=fun s us _ hl=>by
 rw[List.append_nil]at hl⊢
 exact .of_eq (h us hl)
noncomputable def Passes(CX:td)(X:Cx)(E:XK):Prop:=∀(pins:List (Addr×Obj)) (σ:St) (H:Hp) (s:Shared) (e:Value) (s':Shared),Inv X pins σ H s→CX X.stack H s E e s'→X.xe e s'
section
variable {X:Cx}{CX:td}{k:Nat}{f C:Addr}{fd:FuncData}{ps:List Str}{sp:Sp}{dvs:List V}{ds:List Value}{E:XK}{x m:Str}{p pos apos:Pos}{e o:Expr}{es:List Expr}{ta:TE}{t:TA}
theorem CK{pins:List (Addr×Obj)}{σ:St}{H:Hp}{s:Shared}{Q:VK}{us:List Value}{vs:List V}(F:a8 X.prog X.w X.K X.mg X.base CX k f fd ps sp)(hr:cO k X.A)(hb:Binds X.K fd ps ds)(hd:Vals dvs ds)(hx:Passes CX X E)
 (I:Inv X pins σ H s) (r:Vals vs us) (h:sp (vs++dvs) H Q E):wpAny (model X.prog X.w) X.A (call (.ref f) us) (EP X pins σ Q) X.xe s:=by
 have r2:Vals (vs++dvs) (us++ds):=r.append hd
 have hl:(us++ds).length=ps.length:=by rw[←r2.length];exact F.len _ _ _ _ h
 refine wpAny_call (codeAny_mono (F.run X.A X.stack s H ⟨us,[]⟩ (us++ds) (vs++dvs) Q E hr I.Jc (hb s us I.gB hl) r2 h) fun r s' hq=>?_)
 cases r with
 |error e=>exact hx pins σ H s e s' I hq
 |ok fl=>
  cases fl with
  |ret u=>exact I.after hq
  |next=>exact False.elim hq
  |brk=>exact False.elim hq
  |cont=>exact False.elim hq
theorem HE(F:a8 X.prog X.w X.K X.mg X.base CX k f fd ps sp)(hr:cO k X.A)(hg:Gl X x)(hm:X.mg x=some (.ref f))(hk:PySem.W.keepIn X.K (.ref f)=true)(hb:Binds X.K fd ps ds)(hd:Vals dvs ds)(hx:Passes CX X E)
 (ha:PA X (e::es) t) (hdb:(x==("__debug__":Str))=false:=by decide) (he:starEach (e::es) X.env=(false,eval e X.env)::starEach es X.env:=by rfl) (hpl:(backTo pos (starEach es X.env)).any (·.1)=false:=by rfl):
 PE X (.Call (.Name x p) (e::es) [] pos) (FY sp dvs E t):=by
 intro pins s σ H Q I h
 refine wpAny_Call_Name_kw (AR I hg hm ?_ hdb)
 refine PySem.W.callWith_K (h₀:=X.base) I.ok.mod.C4 hk (bR (ha pos pins s σ H _ I h) fun us s1 ⟨vs,H1,I1,r,q⟩=>⟨I1.gB,?_⟩) he hpl
 exact CK F hr hb hd hx I1 r q
theorem HA{pl:Sem Bool}(he:PE X o ta)(c:nH X.K C)(hm:Meth X.K C m f)(F:a8 X.prog X.w X.K X.mg X.base CX k f fd ps sp)(hr:cO k X.A)(hb:Binds X.K fd ps ds)(hd:Vals dvs ds)(hx:Passes CX X E)(ha:PA X (e::es) t)
 (hst:starEach (e::es) X.env=(false,eval e X.env)::starEach es X.env:=by rfl) (hpl:(backTo pos (starEach es X.env)).any (·.1)=false:=by rfl)
 (ht:eval (.Call (.Attribute o m apos) (e::es) [] pos) X.env=(do
   let ov ←eval o X.env
   standAt apos.atName
   let(f,first) ←holding [ov] (getMethod ov m pl)
   callWith pos f first (backTo pos (starEach (e::es) X.env)) (backToKw pos (keywordEach [] X.env))):=by rfl):
 PE X (.Call (.Attribute o m apos) (e::es) [] pos) (GD C m sp dvs E ta t):=by
 intro pins s σ H Q I h
 refine PySem.W.methodCall_KW (pl:=pl) (bR (he pins s σ H _ I h) fun u s1 ⟨x,H1,I1,rx,a,dx,fs,ex,ea,l,q⟩=>?_) ht
 subst ex
 obtain rfl:u=Value.ref a:=rx
 refine A6 I1 ea c hm l ?_
 refine PySem.W.callWith_K (first:=[.ref a]) (h₀:=X.base) I.ok.mod.C4 hm.kp (bR (ha pos pins s1 σ H1 _ I1 q) fun us s2 ⟨vs,H2,I2,r,q2⟩=>⟨I2.gB,?_⟩) hst hpl
 exact CK (us:= .ref a::us) (vs:= .ref a::vs) F hr hb hd hx I2 (.cons rfl r) q2
structure Mk(K:PySem.W.Frag)(C f:Addr):Prop where
 makes:PySem.W.makesIn K C=true
 init:PySem.W.findIn K (.ref C) "__init__"=some (some (.ref f))
 fn:PySem.W.isFn K (.ref f)=true
 kp:PySem.W.keepIn K (.ref C)=true
theorem Fx{pins:List (Addr×Obj)}{σ:St}{H:Hp}{s:Shared}{Q:VK}{us:List Value}{vs:List V}(M:Mk X.K C f)(F:a8 X.prog X.w X.K X.mg X.base CX k f fd ps sp)(hr:cO (k+1) X.A)(hb:Binds X.K fd ps ds)(hd:Vals dvs ds)
 (hx:Passes CX X E) (I:Inv X pins σ H s) (r:Vals vs us)
 (h:∀x dx,H x=none→H dx=none→dx≠x→sp (.ref x::(vs++dvs)) (upd (upd H dx (.own x)) x (.ins C dx [])) (fun v H2=>v= .aK∧Q (.ref x) H2) E):
 wpAny (model X.prog X.w) X.A (call (.ref C) us) (EP X pins σ Q) X.xe s:=by
 have hq:=h (s.heap.objs.size+1) s.heap.objs.size (I.aN.fresh (Nat.le_succ _)) (I.aN.fresh (Nat.le_refl _)) (Nat.ne_of_lt (Nat.lt_succ_self _))
 have I2:=Inv.made (C:=C) I
 have r2:Vals (V.ref (s.heap.objs.size+1)::(vs++dvs)) (Value.ref (s.heap.objs.size+1)::(us++ds)):= .cons rfl (r.append hd)
 have hl:(Value.ref (s.heap.objs.size+1)::us++ds).length=ps.length:=by
  have e:=r2.length
  rw[F.len _ _ _ _ hq]at e
  exact e.symm
 refine wpAny_call (EM (f:=f) I.gB M.makes M.init (beq_iff_eq.mp M.fn) (codeAny_mono (F.run _ X.stack _ _ ⟨Value.ref (s.heap.objs.size+1)::us,[]⟩ (Value.ref (s.heap.objs.size+1)::(us++ds)) _ _ E (hr.make C us [])
  (I2.Jc.make C us []) (hb _ (Value.ref (s.heap.objs.size+1)::us) I2.gB hl) r2 hq) fun r s' hq'=>?_))
 cases r with
 |error e=>exact hx pins σ _ _ e s' I2 hq'
 |ok fl=>
  cases fl with
  |ret u=>
   obtain⟨v,H',I3,rv,ev,q3⟩:=I2.after hq'
   subst ev
   exact⟨rv,⟨V.ref (s.heap.objs.size+1),H',I3,rfl,q3⟩⟩
  |next=>exact False.elim hq'
  |brk=>exact False.elim hq'
  |cont=>exact False.elim hq'
theorem HW(M:Mk X.K C f)(F:a8 X.prog X.w X.K X.mg X.base CX k f fd ps sp)(hr:cO (k+1) X.A)(hg:Gl X x)(hm:X.mg x=some (.ref C))(hb:Binds X.K fd ps ds)(hd:Vals dvs ds)(hx:Passes CX X E)
 (ha:PA X (e::es) t) (hdb:(x==("__debug__":Str))=false:=by decide) (he:starEach (e::es) X.env=(false,eval e X.env)::starEach es X.env:=by rfl) (hpl:(backTo pos (starEach es X.env)).any (·.1)=false:=by rfl):
 PE X (.Call (.Name x p) (e::es) [] pos) (Ge C sp dvs E t):=by
 intro pins s σ H Q I h
 refine wpAny_Call_Name_kw (AR I hg hm ?_ hdb)
 refine PySem.W.callWith_K (h₀:=X.base) I.ok.mod.C4 M.kp (bR (ha pos pins s σ H _ I h) fun us s1 ⟨vs,H1,I1,r,q⟩=>⟨I1.gB,?_⟩) he hpl
 exact Fx M F hr hb hd hx I1 r q
end
section
variable {X:Cx}{CX:td}{k:Nat}{f C:Addr}{fd:FuncData}{ps ks:List Str}{sp:Sp}{E:XK}{x m:Str}{p pos apos kpos:Pos}{e o:Expr}{es:List Expr}{kws:List Keyword}{te ta:TE}{t tk:TA}{nm:Option Str}
variable {g:List Value→List Value→List Value}{gV:List V→List V→List V}
end
structure aO(N P:List Str)(sc:Scope):Prop where
 kind:sc.kind= .function
 co:sc.isCoroutine=false
 gen:sc.isGenerator=false
 nd:N.Nodup
 pre:N.take P.length=P
 par:∀x∈P,sc.names.lookup x=some .local∨sc.names.lookup x=some .cell
 Jg:∀y∈sc.names,y.2≠ .free
theorem wq{kindOf:Str→Option NameKind}{x:Str}:∀ {binds:List (Str×Value)} {m:Str→Option Value},(∀v,(x,v)∉binds)→bindL kindOf binds m x=m x
 | [],_,_=>rfl
 |(n,v)::r,m,h=>by
  unfold bindL
  rw[wq fun w hw=>h w (List.mem_cons_of_mem _ hw)]
  split
  · have:x≠n:=by rintro rfl;exact h v List.mem_cons_self
    simp[this]
  · rfl
theorem wU{kindOf:Str→Option NameKind}{x:Str}:∀ {binds:List (Str×Value)} {m:Str→Option Value},(∀v,(x,v)∉binds)→bindC kindOf binds m x=m x
 | [],_,_=>rfl
 |(n,v)::r,m,h=>by
  unfold bindC
  rw[wU fun w hw=>h w (List.mem_cons_of_mem _ hw)]
  split
  · rfl
  · have:x≠n:=by rintro rfl;exact h v List.mem_cons_self
    simp[this]
theorem wM{kindOf:Str→Option NameKind}{x:Str}{v:Value}:∀ {P:List Str} {vs:List Value} {i:Nat} {m:Str→Option Value},P.Nodup→P[i]?=some x→vs[i]?=some v→kindOf x=some .local→
 bindL kindOf (P.zip vs) m x=some v
 | [],_,_,_,_,h,_,_=>by simp at h
 |_::_,[],_,_,_,_,h,_=>by simp at h
 |p::P,w::vs,0,m,nd,h1,h2,hk=>by
  simp at h1 h2;subst h1;subst h2
  show bindL kindOf ((p,w)::P.zip vs) m p=_
  unfold bindL
  rw[wq fun v hv=>(List.nodup_cons.mp nd).1 (List.of_mem_zip hv).1,if_pos hk]
  simp
 |p::P,w::vs,i+1,m,nd,h1,h2,hk=>by
  show bindL kindOf ((p,w)::P.zip vs) m x=_
  unfold bindL
  exact wM (i:=i) (List.nodup_cons.mp nd).2 (by simpa using h1) (by simpa using h2) hk
theorem wI{kindOf:Str→Option NameKind}{x:Str}{v:Value}:∀ {P:List Str} {vs:List Value} {i:Nat} {m:Str→Option Value},P.Nodup→P[i]?=some x→vs[i]?=some v→kindOf x≠some .local→
 bindC kindOf (P.zip vs) m x=some v
 | [],_,_,_,_,h,_,_=>by simp at h
 |_::_,[],_,_,_,_,h,_=>by simp at h
 |p::P,w::vs,0,m,nd,h1,h2,hk=>by
  simp at h1 h2;subst h1;subst h2
  show bindC kindOf ((p,w)::P.zip vs) m p=_
  unfold bindC
  rw[wU fun v hv=>(List.nodup_cons.mp nd).1 (List.of_mem_zip hv).1,if_neg hk]
  simp
 |p::P,w::vs,i+1,m,nd,h1,h2,hk=>by
  show bindC kindOf ((p,w)::P.zip vs) m x=_
  unfold bindC
  exact wI (i:=i) (List.nodup_cons.mp nd).2 (by simpa using h1) (by simpa using h2) hk
noncomputable def start(N:List Str)(vs:List V):St:=vs.map some++List.replicate (N.length-vs.length) none
noncomputable def pU(CX:td)(P:Program)(w:World)(K:PySem.W.Frag)(mg:Str→Option Value)(base:Heap)(N:List Str)(qual:Str)(scope:Scope)(f:Addr)(cd:Value)(A:Around)(outer:List Env)(s:Shared)(H:Hp)(E:XK):Cx where
 prog:=P
 w:=w
 K:=K
 mg:=mg
 base:=base
 A:=A.deeper (envOfC qual scope s.heap.objs.size f cd)
 N:=N
 s₀:=s
 H₀:=H
 env:=envOfC qual scope s.heap.objs.size f cd
 outer:=outer
 stack:=envOfC qual scope s.heap.objs.size f cd::outer
 ex:=[]
 calm:=true
 fn:=fun _=>true
 pn:=[]
 xe:=fun e s'=>wpAny (model P w) (A.deeper (envOfC qual scope s.heap.objs.size f cd)) (leaving (envOfC qual scope s.heap.objs.size f cd) e) (fun _ s''=>CX outer H s E e s'') (fun e' s''=>CX outer H s E e' s'') s'
theorem zI{sc:Scope}{n:Nat}{x:Str}(h:sc.names.lookup x=some .cell):∃c,(cellsFrom n sc.names []).lookup x=some c:=by
 have q:=PySem.W.cellsFrom_some sc.names n [] (.inl h)
 exact Option.isSome_iff_exists.mp q
theorem Cw{CX:td}{P:Program}{w:World}{K:PySem.W.Frag}{mg:Str→Option Value}{base:Heap}{N ps:List Str}{qual:Str}{scope:Scope}{f:Addr}{cd:Value}{A:Around}{outer:List Env}{s s1:Shared}{H:Hp}{E:XK}{us:List Value}{vs:List V}
 (S:aO N ps scope) (hd:A.handled=none) (e0:tD P w K mg base A outer s H) (hl:vs.length=ps.length) (r:Vals vs us)
 (x:InCallC s s.heap.objs.size (bindL (envOfC qual scope s.heap.objs.size f cd).kindOf (ps.zip us) fun _=>none) (cellsFrom (s.heap.objs.size+1) scope.names []) (bindC (envOfC qual scope s.heap.objs.size f cd).kindOf (ps.zip us) fun _=>none) s1):
 Inv (pU CX P w K mg base N qual scope f cd A outer s H E) [] (start N vs) H s1:=by
 have hpl:ps.length≤N.length:=by have:=congrArg List.length S.pre;rw[List.length_take]at this;omega
 obtain⟨h1,tk,rfl,hk⟩:=x.done
 have noA:∀b:Addr,b∉(pU CX P w K mg base N qual scope f cd A outer s H E).ex:=fun b z=>absurd (show b∈([]:List Addr)from z) (by simp)
 refine⟨⟨e0.mod,S.kind,rfl,rfl,Nat.le_refl _,fun y z c h1 h2=>?_,fun y hy=>?_,fun y c _ h=>?_,fun _=>hd,Around.frames_deeper e0.frames,.inr ⟨rfl,rfl⟩,fun b z=>absurd z (noA b),e0.bs,e0.qD,fun b _ _=>noA b,fun b z=>absurd z (noA b),e0.ka,e0.uU,e0.gt⟩,
  rfl,e0.bare,Un.kept hk,⟨_,x.toInCall.ns,fun i y v h1 h2 h3=>?_⟩,fun y c h=>⟨_,x.cell y c h⟩,e0.aN.fresh (Nat.le_refl _),fun y c h=>?_,fun p hp=>absurd (show p∈([]:List (Addr×Obj))from hp) (by simp),e0.aN.kept hk,?_⟩
 · exact name_of_addr x.apart (PySem.mem_of_lookup h1) (PySem.mem_of_lookup h2)
 · have hy:scope.names.lookup y=some .cell∨scope.names.lookup y=some .free:=hy
   rcases hy with hy|hy
   · exact zI hy
   · exact absurd rfl (S.Jg _ (PySem.mem_of_lookup hy))
 · exact Nat.le_of_lt (x.above y c (PySem.mem_of_lookup h))
 · have hi:i<vs.length:=by
    unfold start at h2
    by_cases hi:i<vs.length
    · exact hi
    · rw[List.getElem?_append_right (by simpa using hi)]at h2
      rw[List.getElem?_replicate]at h2
      split at h2<;>cases h2
   have ha:vs[i]?=some v:=by
    unfold start at h2
    rw[List.getElem?_append_left (by simpa using hi),List.getElem?_map]at h2
    cases e:vs[i]? with
    |none=>rw[e]at h2;cases h2
    |some a=>rw[e]at h2;cases h2;rfl
   obtain⟨u,hu,rv⟩:=r.get ha
   have hp:ps[i]?=some y:=by
    rw[←S.pre,List.getElem?_take_of_lt (by omega)];exact h1
   have ndP:ps.Nodup:=by rw[←S.pre];exact S.nd.sublist (List.take_sublist _ _)
   refine⟨u,rv,?_⟩
   rcases S.par y (List.mem_of_getElem? hp)with k|k
   · exact .inl ⟨k,wM ndP hp hu k⟩
   · obtain⟨c,e⟩:=zI (n:=s.heap.objs.size+1) k
     refine .inr ⟨.inl k,c,e,?_⟩
     have q:=x.cell y c e
     rw[wI ndP hp hu (by show scope.names.lookup y≠_;rw[k];decide)]at q
     exact q
 · exact e0.aN.fresh (Nat.le_of_lt (x.above y c (PySem.mem_of_lookup h)))
 · unfold start
   show _=N.length
   rw[List.length_append,List.length_map,List.length_replicate]
   omega
theorem F4{CX:td}{P:Program}{w:World}{K:PySem.W.Frag}{mg:Str→Option Value}{base:Heap}{k:Nat}{f:Addr}{name qual:Str}{params:Arguments}{body:List Stmt}{scope:Scope}{dV kV doc pm cdv ct oc:Value}{an od:Option Addr}
 {osl:Array (Option Value)} {N ps:List Str} {sp:Sp} (lk:K.lookup f=some ⟨oc,od,.func (PySem.W.fnOf name qual params body scope dV kV doc pm an cdv ct),osl⟩) (hcd:PySem.W.codeIn K cdv qual=true) (S:aO N ps scope)
 (len:∀vs H Q E,sp vs H Q E→vs.length=ps.length)
 (hbody:∀(A:Around) (outer:List Env) (s:Shared) (H:Hp) (vs:List V) (Q:VK) (E:XK),cO k (A.deeper (envOfC qual scope s.heap.objs.size f cdv))→sp vs H Q E→
   ∃t,gz (pU CX P w K mg base N qual scope f cdv A outer s H E) body t∧t {nx:=fun _ H'=>Q .aK H',rt:=Q} (start N vs) H):
 a8 P w K mg base CX (k+1) f (PySem.W.fnOf name qual params body scope dV kV doc pm an cdv ct) ps sp:=by
 refine⟨len,fun A outer s H args us vs Q E hr e0 hb r hsp=>?_⟩
 have hl:=len _ _ _ _ hsp
 have KX:K.In s.heap:=e0.mod.C4.keeps fun b o e=>(e0.bs b o e).1
 have lim:s.heap.NoLimit:=e0.mod.nolimit.keeps fun b o e=>(e0.bs b o e).1
 have hkind:∀y∈ps.zip us,scope.names.lookup y.1=some .local∨(scope.names.lookup y.1=some .cell∧((cellsFrom (s.heap.objs.size+1) scope.names []).lookup y.1).isSome=true):=fun⟨n,v⟩ hy=>by
  rcases S.par n (List.of_mem_zip hy).1 with q|q
  · exact .inl q
  · exact .inr ⟨q,PySem.W.cellsFrom_some _ _ _ (.inl q)⟩
 refine codeAny_call_function hr.depth (KX _ _ lk) rfl S.co S.gen rfl (PySem.W.codeRec_of KX hcd) (hb _ _ _ _ ?_)
 refine wpAny_newFunctionEnv_cells S.kind hkind fun env he s1 x=>?_
 subst he
 refine⟨lim.keeps x.toInCall.keep,codeAny_func ?_⟩
 obtain⟨t,ht,hq⟩:=hbody A outer s H vs Q E (hr.deeper _) hsp
 have I:Inv (pU CX P w K mg base N qual scope f cdv A outer s H E) [] (start N vs) H s1:=Cw S hr.hd e0 hl r x
 refine wpAny_mono (ht [] s1 (start N vs) H _ I hq) (fun fl s' hs=>?_) fun e s' hs=>hs
 have fin:∀ {σ':St} {H':Hp} {v:V} {u:Value},Inv (pU CX P w K mg base N qual scope f cdv A outer s H E) [] σ' H' s'→RelV v u→Q v H'→CE outer P w H s Q u s':=
  fun{σ' H' v u} J rv q=>⟨v,H',J.os,J.bare,J.base,J.aN,rv,q⟩
 cases fl with
 |ret u=>
  obtain⟨v,σ',H',J,rv,q⟩:=hs
  exact fin J rv q
 |next=>
  obtain⟨σ',H',J,q⟩:=hs
  exact fin (v:=V.aK) (u:=Value.none) J rfl q
 |brk=>
  obtain⟨_,_,_,q⟩:=hs
  exact False.elim q
 |cont=>
  obtain⟨_,_,_,q⟩:=hs
  exact False.elim q
end L2
namespace L2
open PySem PySem.Spec PyProof.Rows
section
variable {X:Cx}{x:Str}{p pos:Pos}{e:Expr}{es:List Expr}{t:TA}{id T:String}{r:List V→Hp→VK→Prop}
noncomputable def Lo(r:List V→Hp→VK→Prop)(t:TA):TE:=fun σ H Q=>t σ H fun vs H1=>r vs H1 Q
theorem FG(hc:bD X (.builtin id) r)(hg:Gl X x)(hm:X.mg x=none)(hv:bootBuiltins x=some (.builtin id))(ha:PA X (e::es) t)(hn:x≠"__name__":=by decide)(hdb:(x==("__debug__":Str))=false:=by decide)
 (he:starEach (e::es) X.env=(false,eval e X.env)::starEach es X.env:=by rfl) (hpl:(backTo pos (starEach es X.env)).any (·.1)=false:=by rfl):PE X (.Call (.Name x p) (e::es) [] pos) (Lo r t):=by
 intro pins s σ H Q I h
 refine wpAny_Call_Name_kw (jT I hg hm hv ?_ hn hdb)
 exact PyProof.Rows.callWith_builtin1 (bR (ha pos pins s σ H _ I h) fun us s1 ⟨vs,H1,I1,r1,q1⟩=>hc pins s1 σ H1 vs us Q I1 r1 q1) he hpl
theorem D2(hc:bD X (.type T) r)(hg:Gl X x)(hm:X.mg x=none)(hv:bootBuiltins x=some (.type T))(ha:PA X (e::es) t)(hn:x≠"__name__":=by decide)(hdb:(x==("__debug__":Str))=false:=by decide)
 (he:starEach (e::es) X.env=(false,eval e X.env)::starEach es X.env:=by rfl) (hpl:(backTo pos (starEach es X.env)).any (·.1)=false:=by rfl):PE X (.Call (.Name x p) (e::es) [] pos) (Lo r t):=by
 intro pins s σ H Q I h
 refine wpAny_Call_Name_kw (jT I hg hm hv ?_ hn hdb)
 exact PyProof.Rows.callWith_type1 (bR (ha pos pins s σ H _ I h) fun us s1 ⟨vs,H1,I1,r1,q1⟩=>hc pins s1 σ H1 vs us Q I1 r1 q1) he hpl
end
end L2
namespace HT
open PySem PyProof.Rows
section
open PySem.SeqAt
open PySem.AutoSeq1 (wpAny_loadPart')
open PySem.MeetsSeq PySem.MeetsSeq2 PySem.MeetsSeq3
end
section
variable {prog:Program}{w:World}{A:Around}{E:Value→Shared→Prop}{s:Shared}
theorem IC{t b:Addr}{vs ws:List Value}{Q:Value→Shared→Prop}(ht:IsTup s.heap t vs.toArray)(hb:IsTup s.heap b ws.toArray)(hv:vs≠ [])
 (h1:ws=[]→Q (.ref t) s) (h2:ws≠ []→Q (.ref s.heap.objs.size) {s with heap:=s.heap.push {cls:= .type "tuple",data:= .seq (vs++ws).toArray}})
 (hsz:vs.length+ws.length≤sizeLine):wpAny (model prog w) A (binaryOp .Add (.ref t) (.ref b)) Q E s:=by
 obtain⟨⟨cls,dd,data,sl⟩,ho,hc,n,hd⟩:=id ht
 obtain⟨⟨cls2,dd2,data2,sl2⟩,ho2,hc2,n2,hd2⟩:=id hb
 simp only at hc hd hc2 hd2
 subst hc hd hc2 hd2
 have e:vs.toArray++ws.toArray=(vs++ws).toArray:=by simp
 by_cases hw:ws=[]
 · exact concat_meets ⟨_,ho,rfl⟩ ⟨_,ho2,rfl⟩ noFill_tuple_add seq_tuple_add PySem.F.slot_tuple_add PySem.F.entry_tuple_add (PySem.F.args_tuple_add_2 _ _)
    (tuple_addW1 t b vs.toArray ws.toArray n n2 dd dd2 sl sl2 (by simpa using hv) (by simp[hw])) ⟨ho,ho2,h1 hw⟩
 · refine concat_meets ⟨_,ho,rfl⟩ ⟨_,ho2,rfl⟩ noFill_tuple_add seq_tuple_add PySem.F.slot_tuple_add PySem.F.entry_tuple_add (PySem.F.args_tuple_add_2 _ _)
    (tuple_addW2 t b vs.toArray ws.toArray n n2 dd dd2 sl sl2 (by simpa using hv) (by simpa using hw) (by rw[List.size_toArray,List.size_toArray];exact hsz)) ⟨ho,ho2,?_⟩
   rw[e]
   exact h2 hw
noncomputable def bV(n d:Nat):Option Int→Nat
 |none=>d
 |some v=>if v<0 then(v+(n:Int)).toNat else min v.toNat n
theorem yJ(n d:Nat):bV n d none=d:=rfl
theorem Aw(n d k:Nat):bV n d (some (k:Int))=min k n:=by
 show(if(k:Int)<0 then((k:Int)+(n:Int)).toNat else min (k:Int).toNat n)=min k n
 rw[if_neg (by omega),Int.toNat_natCast]
theorem KJ(n d:Nat)(hd:d≤n)(o:Option Int):bV n d o≤n:=by
 cases o with
 |none=>exact hd
 |some v=>
  show(if v<0 then(v+(n:Int)).toNat else min v.toNat n)≤n
  by_cases hv:v<0
  · rw[if_pos hv];omega
  · rw[if_neg hv];exact Nat.min_le_right _ _
theorem Ar(v:Int)(n d:Nat):(if v<0 then max (v+(n:Int)) 0 else min v (n:Int))=((bV n d (some v):Nat):Int):=by
 show(if v<0 then max (v+(n:Int)) 0 else min v (n:Int))=(((if v<0 then(v+(n:Int)).toNat else min v.toNat n):Nat):Int)
 by_cases hv:v<0
 · simp only[if_pos hv];omega
 · simp only[if_neg hv];omega
theorem BF(lo hi:Option Int)(n:Nat):Builtin.Slice.sliceAdjust lo hi 1 (n:Int)=(((bV n 0 lo:Nat):Int),((bV n n hi:Nat):Int)):=by
 have h1:¬((1:Int)<0):=by omega
 unfold Builtin.Slice.sliceAdjust
 simp only[h1,if_false]
 refine Prod.ext ?_ ?_
 · cases lo with
   |none=>rfl
   |some v=>exact Ar v n 0
 · cases hi with
   |none=>rfl
   |some v=>exact Ar v n n
theorem Ba(i j:Nat):Builtin.Slice.slicePlaces (i:Int) (j:Int) 1=j-i:=by
 unfold Builtin.Slice.slicePlaces
 have h1:(1:Int)>0:=by omega
 simp only[h1,if_true,Int.ediv_one]
 split<;>omega
theorem uY{v:Value}{o:Option Int}{Q:Option Int→Shared→Prop}(p:IsPart v o)(h:Q o s):wpAny (model prog w) A (Builtin.Slice.slicePartIndex v) Q E s:=by
 cases p with
 |none=>exact slicePart_none h
 |int i t=>exact slicePart_int h
theorem nc{sl:Addr}{vl vu:Value}{lo hi:Option Int}{n:Nat}{Q:Int×Int×Nat→Shared→Prop}(hs:s.heap.IsSliceOf sl vl vu .none)(pl:IsPart vl lo)(pu:IsPart vu hi)
 (h:Q (((bV n 0 lo:Nat):Int),1,bV n n hi-bV n 0 lo) s):wpAny (model prog w) A (Builtin.Slice.sliceApplied (.ref sl) (pure (n:Int))) Q E s:=by
 obtain⟨os,hos,hcs,hds⟩:=id hs
 unfold Builtin.Slice.sliceApplied Builtin.Slice.sliceFields
 refine wpAny_bind (wpAny_bind (wpAny_field hos hds (x:=vl) rfl (wpAny_bind (wpAny_field hos hds (x:=vu) rfl (wpAny_bind (wpAny_field hos hds (x:= .none) rfl (wpAny_pure ?_)))))))
 refine wpAny_bind (slicePart_none ?_)
 show wpAny _ _ (if((1:Int)==0)=true then _ else _) _ _ s
 rw[if_neg (by decide)]
 refine wpAny_bind (uY pl (wpAny_bind (uY pu (wpAny_bind (wpAny_pure ?_)))))
 show wpAny _ _ (match Builtin.Slice.sliceAdjust lo hi 1 (n:Int)with|(lo,hi)=>pure (lo,(1:Int),Builtin.Slice.slicePlaces lo hi 1)) _ _ s
 rw[BF lo hi n]
 show wpAny _ _ (pure (((bV n 0 lo:Nat):Int),(1:Int),Builtin.Slice.slicePlaces ((bV n 0 lo:Nat):Int) ((bV n n hi:Nat):Int) 1)) _ _ s
 rw[Ba]
 exact wpAny_pure h
theorem EO(xs:Array Value)(i k:Nat):((List.range k).filterMap fun(m:Nat)=>xs[((i:Int)+(m:Int)*1).toNat]?).toArray=((xs.toList.drop i).take k).toArray:=by
 have e:(fun(m:Nat)=>xs[((i:Int)+(m:Int)*1).toNat]?)=fun m=>xs[i+m]?:=by
  funext m
  have:((i:Int)+(m:Int)*1).toNat=i+m:=by omega
  rw[this]
 rw[e]
 have:=pick_run xs i k
 rw[List.filterMap_map]at this
 have e2:((fun x=>xs[x]?)∘fun x=>i+x)=fun m=>xs[i+m]?:=rfl
 rw[e2]at this
 rw[this]
theorem sH{t sl:Addr}{items:Array Value}{vl vu:Value}{lo hi:Option Int}{Q:Value→Shared→Prop}(ht:IsTup s.heap t items)(hs:s.heap.IsSliceOf sl vl vu .none)(pl:IsPart vl lo)(pu:IsPart vu hi)
 (hw:¬(bV items.size 0 lo=0∧bV items.size items.size hi=items.size))
 (h:Q (.ref s.heap.objs.size) {s with heap:=s.heap.push {cls:= .type "tuple",data:= .seq ((items.toList.drop (bV items.size 0 lo)).take (bV items.size items.size hi-bV items.size 0 lo)).toArray}})
 (hsz:items.size≤sizeLine):wpAny (model prog w) A (getItem (.ref t) (.ref sl)) Q E s:=by
 have htake:sizeOk (.seq ((items.toList.drop (bV items.size 0 lo)).take (bV items.size items.size hi-bV items.size 0 lo)).toArray):=by
  show((items.toList.drop (bV items.size 0 lo)).take (bV items.size items.size hi-bV items.size 0 lo)).toArray.size≤sizeLine
  rw[List.size_toArray,List.length_take,List.length_drop,Array.length_toList]
  omega
 have hj:bV items.size items.size hi≤items.size:=KJ _ _ (Nat.le_refl _) hi
 obtain⟨os,hos,hcs,hds⟩:=id hs
 have hTs:s.TypeIs (.ref sl) "slice":=⟨os,hos,hcs⟩
 unfold getItem
 try with_reducible refine wpAny_holding ?_
 first|refine wpAny_bind (wpAny_pure ?_)|skip
 refine wpAny_bind (wpAny_sequenceKey ht.typeIs (by decide) ?_)
 refine wpAny_bind (wpAny_callSpecial?_slot (name:=Str.ofString "__getitem__") ht.typeIs PyProof.Rows.slot_tuple_getitem
  (wpAny_call_entry PyProof.Rows.slot_tuple_getitem ht.typeIs entry_tuple_getitem ?_ (args_tuple_getitem _ _)))
 show wpAny _ _ (Builtin.Tuple.tupleItemsOf (.ref t) >>= _) _ _ s
 refine wpAny_bind (tupleItemsOf_ ht ?_)
 refine wpAny_bind (wpAny_typeOf hTs ?_)
 rw[if_pos (by decide)]
 refine wpAny_bind (nc hs pl pu ?_)
 have hno:¬((((bV items.size 0 lo:Nat):Int)==0&&(1:Int)==1&&(bV items.size items.size hi-bV items.size 0 lo)==items.size)=true):=by
  intro q
  rw[Bool.and_eq_true,Bool.and_eq_true]at q
  have q1:((bV items.size 0 lo:Nat):Int)=0:=eq_of_beq q.1.1
  have q2:bV items.size items.size hi-bV items.size 0 lo=items.size:=eq_of_beq q.2
  exact hw ⟨by omega,by omega⟩
 show wpAny _ _ (if(((bV items.size 0 lo:Nat):Int)==0&&(1:Int)==1&&(bV items.size items.size hi-bV items.size 0 lo)==items.size)=true then _ else _) _ _ s
 rw[if_neg hno,EO]
 first
  |exact wpAny_bind (m:=Builtin.Tuple.tupleExact _) (wpAny_newObj_type (wpAny_pure ⟨_,rfl,wpAny_pure h⟩) htake)
  |exact wpAny_bind (m:=Builtin.Tuple.tupleExact _) (wpAny_newObj_type (wpAny_bind (wpAny_pure (wpAny_pure ⟨_,rfl,wpAny_pure h⟩))) htake)
  |exact wpAny_bind (wpAny_bind (m:=Builtin.Tuple.tupleExact _) (wpAny_newObj_type (wpAny_pure (wpAny_pure ⟨_,rfl,wpAny_pure h⟩)) htake))
  |exact wpAny_bind (wpAny_bind (m:=Builtin.Tuple.tupleExact _) (wpAny_newObj_type (wpAny_pure ⟨_,rfl,wpAny_pure h⟩) htake))
end
end HT
namespace L2
open PySem PySem.Spec PyProof.Rows
noncomputable abbrev TO:=St→Hp→(Option Int→Hp→Prop)→Prop
noncomputable def PO(X:Cx)(e:Option Expr)(t:TO):Prop:=
 ∀(pins:List (Addr×Obj)) (s:Shared) (σ:St) (H:Hp) (Q:Option Int→Hp→Prop),Inv X pins σ H s→t σ H Q→
  wpAny (model X.prog X.w) X.A (evalPart e X.env) (fun u s'=>∃o H',Inv X pins σ H' s'∧IsPart u o∧Q o H') X.xe s
noncomputable def He:TO:=fun _ H Q=>Q none H
noncomputable def Mi(t:TE):TO:=fun σ H Q=>t σ H fun x H1=>∃i,x= .int i∧Q (some i) H1
section
variable {X:Cx}{e:Expr}{te:TE}{lo hi:Option Expr}{tl th:TO}{pos p2:Pos}
theorem IP:PO X none He:=by
 intro pins s σ H Q I h
 rw[evalPart_none]
 exact wpAny_pure ⟨none,H,I,.none,h⟩
theorem IS(h:PE X e te):PO X (some e) (Mi te):=by
 intro pins s σ H Q I hw
 rw[evalPart_some]
 refine bR (h pins s σ H _ I hw) fun u s1 ⟨x,H1,I1,r1,q1⟩=>?_
 obtain⟨i,rfl,q⟩:=q1
 obtain⟨t,rfl⟩:=r1
 exact⟨some i,H1,I1,.int i t,q⟩
noncomputable def Dn(X:Cx)(r:V→Option Int→Option Int→Hp→VK→Prop):Prop:=
 ∀(pins:List (Addr×Obj)) (s:Shared) (σ:St) (H:Hp) (x:V) (v vl vu:Value) (lo hi:Option Int) (sl:Addr) (Q:VK),Inv X pins σ H s→RelV x v→s.heap.IsSliceOf sl vl vu .none→IsPart vl lo→IsPart vu hi→r x lo hi H Q→
  ∃T id,typeLookup (.type T) "__getitem__"=pure (some (.builtin id))∧s.TypeIs v T∧wpAny (model X.prog X.w) X.A (getItem v (.ref sl)) (EP X pins σ Q) X.xe s
noncomputable def OW(r:V→Option Int→Option Int→Hp→VK→Prop)(te:TE)(tl th:TO):TE:=fun σ H Q=>te σ H fun x H1=>tl σ H1 fun l H2=>th σ H2 fun u H3=>r x l u H3 Q
theorem Fv{r:V→Option Int→Option Int→Hp→VK→Prop}(hr:Dn X r)(he:PE X e te)(hl:PO X lo tl)(hu:PO X hi th):PE X (.Subscript e (.Slice lo hi none p2) pos) (OW r te tl th):=by
 intro pins s σ H Q I h
 refine Subscript_ (bR (he pins s σ H _ I h) fun v s1 ⟨x,H1,I1,r1,q1⟩=>?_)
 refine wpAny_Slice (bR (hl pins s1 σ H1 _ I1 q1) fun vl s2 ⟨l,H2,I2,pl,q2⟩=>bR (hu pins s2 σ H2 _ I2 q2) fun vu s3 ⟨u,H3,I3,pu,q3⟩=>?_)
 rw[evalPart_none]
 refine wpAny_pure ?_
 have I4:Inv X pins σ H3 {s3 with heap:=s3.heap.push {cls:= .type "slice",data:= .fields #[vl,vu,.none]}}:=I3.kept (t':=s3.toks) fun b ob q=>Heap.get?_push_of_some _ q
 obtain⟨T,id,hT,ht,hg⟩:=hr pins {s3 with heap:=s3.heap.push {cls:= .type "slice",data:= .fields #[vl,vu,.none]}} σ H3 x v vl vu l u s3.heap.objs.size Q I4 r1 (Heap.IsSliceOf.new ..) pl pu q3
 show wpAny (model X.prog X.w) X.A (subscriptTail e (.Slice lo hi none p2) v (.ref s3.heap.objs.size)) (EP X pins σ Q) X.xe {s3 with heap:=s3.heap.push {cls:= .type "slice",data:= .fields #[vl,vu,.none]}}
 exact tail_any (ops:=[.ref s3.heap.objs.size,v]) ht hT hg (by with_unfolding_all rfl)
noncomputable def qg(xs:List V)(lo hi:Option Int):List V:=(xs.drop (HT.bV xs.length 0 lo)).take (HT.bV xs.length xs.length hi-HT.bV xs.length 0 lo)
theorem sI(xs:List V)(lo hi:Option Int):(qg xs lo hi).length≤xs.length:=by
 unfold qg
 rw[List.length_take,List.length_drop]
 omega
noncomputable def N2(K:PySem.W.Frag):V→Option Int→Option Int→Hp→VK→Prop:=fun x lo hi H Q=>∃a xs,x= .ref a∧ib K H a xs∧
 ¬(HT.bV xs.length 0 lo=0∧HT.bV xs.length xs.length hi=xs.length)∧∀p,H p=none→Q (.ref p) (upd H p (.tup (qg xs lo hi)))
theorem JM:Dn X (N2 X.K):=by
 intro pins s σ H x v vl vu lo hi sl Q I rx hs pl pu h
 obtain⟨a,xs,rfl,hx,hw,q⟩:=h
 cases rx
 obtain⟨its,r,ht,hz⟩:=I.tuple hx
 have hlen:its.toArray.size=xs.length:=by rw[List.size_toArray];exact r.length.symm
 refine⟨"tuple",_,PyProof.Rows.slot_tuple_getitem.lookup,ht.typeIs,?_⟩
 refine HT.sH ht hs pl pu (by rw[hlen];exact hw) ?_ (by rw[hlen];exact hz)
 rw[hlen]
 refine⟨.ref s.heap.objs.size,_,I.laid (t':=s.toks) (o:= .tup (qg xs lo hi)) (fun b ob q=>Heap.get?_push_of_some _ q) (Nat.le_refl _) ?_,rfl,q _ (I.aN.fresh (Nat.le_refl _))⟩
 exact⟨Nat.le_trans (sI xs lo hi) hz,_,(r.drop (HT.bV xs.length 0 lo)).take (HT.bV xs.length xs.length hi-HT.bV xs.length 0 lo),IsTup.new _ _⟩
noncomputable def Mr(K:PySem.W.Frag):R2:=fun x y H Q=>∃a b xs ys,x= .ref a∧y= .ref b∧ib K H a xs∧ib K H b ys∧xs≠ []∧xs.length+ys.length≤sizeLine∧
 (ys=[]→Q (.ref a) H)∧(ys≠ []→∀p,H p=none→Q (.ref p) (upd H p (.tup (xs++ys))))
theorem Vals.sy{xs:List V}{us:List Value}(r:Vals xs us):us=[]↔xs=[]:=by
 cases r with
 |nil=>simp
 |cons _ _=>simp
theorem G0:bL X (binaryOp .Add) (Mr X.K):=by
 intro pins s σ H x y v u Q I rx ry h
 obtain⟨a,b,xs,ys,rfl,rfl,ha,hb,hx,hz,q1,q2⟩:=h
 cases rx
 cases ry
 obtain⟨its,r1,p1,_⟩:=I.tuple ha
 obtain⟨its2,r2,p2,_⟩:=I.tuple hb
 refine HT.IC p1 p2 (fun z=>hx (r1.sy.mp z)) (fun z=>⟨.ref a,H,I,rfl,q1 (r2.sy.mp z)⟩) (fun z=>?_) (by rw[←r1.length,←r2.length];exact hz)
 refine⟨.ref s.heap.objs.size,_,I.laid (t':=s.toks) (o:= .tup (xs++ys)) (fun b ob q=>Heap.get?_push_of_some _ q) (Nat.le_refl _) ?_,rfl,q2 (fun w=>z (r2.sy.mpr w)) _ (I.aN.fresh (Nat.le_refl _))⟩
 exact⟨by rw[List.length_append];exact hz,_,r1.append r2,IsTup.new _ _⟩
end
end L2
namespace L2
open PySem PySem.Spec PyProof.Rows
noncomputable def mi(n:Nat)(i:Int):Option Nat:=if 0≤i then(if i<n then some i.toNat else none)else if-(n:Int)≤i then some (i+n).toNat else none
noncomputable def dZ{α:Type}(xs:List α)(i:Int):Option α:=(mi xs.length i).bind fun j=>xs[j]?
theorem AN{n:Nat}{i:Int}{j:Nat}(h:mi n i=some j):seqIndex? i n=some j∧j<n∧ -(n:Int)≤i∧i<n:=by
 unfold mi at h
 by_cases h0:0≤i
 · rw[if_pos h0]at h
   by_cases h1:i<n
   · rw[if_pos h1]at h
     have e:i.toNat=j:=Option.some.inj h
     exact⟨by rw[seqIndex_of h0 h1,e],by omega,by omega,h1⟩
   · rw[if_neg h1]at h;cases h
 · rw[if_neg h0]at h
   by_cases h1: -(n:Int)≤i
   · rw[if_pos h1]at h
     have e:(i+n).toNat=j:=Option.some.inj h
     exact⟨by rw[seqIndex_neg (by omega) h1,e],by omega,h1,by omega⟩
   · rw[if_neg h1]at h;cases h
theorem vw{α:Type}{xs:List α}{i:Int}{v:α}(h:dZ xs i=some v):∃j,seqIndex? i xs.length=some j∧xs[j]?=some v∧j<xs.length∧ -(xs.length:Int)≤i∧i<xs.length:=by
 unfold dZ at h
 cases e:mi xs.length i with
 |none=>rw[e]at h;cases h
 |some j=>
  rw[e]at h
  obtain⟨h1,h2,h3,h4⟩:=AN e
  exact⟨j,h1,h,h2,h3,h4⟩
theorem iN{α:Type}{xs:List α}{j:Nat}{v:α}(h:xs[j]?=some v):dZ xs (j:Int)=some v:=by
 have hj:j<xs.length:=(List.getElem?_eq_some_iff.mp h).1
 have e:mi xs.length (j:Int)=some j:=by
  unfold mi
  rw[if_pos (by omega),if_pos (by omega)];simp
 unfold dZ;rw[e];exact h
noncomputable def sv(b:Expr):Prop:=∀o i,subscripted b false o i=operate [o,i] (getItem o i)
noncomputable def GU(X:Cx)(r:R2):Prop:=
 ∀(value slice:Expr) (pins:List (Addr×Obj)) (s:Shared) (σ:St) (H:Hp) (x y:V) (v u:Value) (Q:VK),Inv X pins σ H s→RelV x v→RelV y u→r x y H Q→
  subscripted slice false v u=operate [v,u] (getItem v u)→wpAny (model X.prog X.w) X.A (subscriptTail value slice v u) (EP X pins σ Q) X.xe s
noncomputable def Nh(X:Cx)(id:String)(r:V→List V→Hp→VK→Prop):Prop:=
 ∀(pins:List (Addr×Obj)) (s:Shared) (σ:St) (H:Hp) (x:V) (xs:List V) (v:Value) (us:List Value) (Q:VK),Inv X pins σ H s→RelV x v→Vals xs us→r x xs H Q→
  wpAny (model X.prog X.w) X.A (call (.builtin id) (v::us)) (EP X pins σ Q) X.xe s
section
variable {X:Cx}{a b:Expr}{ta tb:TE}{pos:Pos}
theorem LY{r:R2}(hr:GU X r)(ha:PE X a ta)(hb:PE X b tb)(hs:sv b):PE X (.Subscript a b pos) (Ej r ta tb):=by
 intro pins s σ H Q I h
 exact Subscript_ (Fe ha hb I h fun v u s2 x y H2 I2 rx ry q=>hr a b pins s2 σ H2 x y v u Q I2 rx ry q (hs _ _))
noncomputable def NN(K:PySem.W.Frag):R2:=fun x y H Q=>∃p xs i v,x= .ref p∧y= .int i∧lE K H p xs∧dZ xs i=some v∧Q v H
noncomputable def NP(K:PySem.W.Frag):R2:=fun x y H Q=>∃p xs i v,x= .ref p∧y= .int i∧ib K H p xs∧dZ xs i=some v∧Q v H
theorem Ai:GU X (NN X.K):=by
 intro value slice pins s σ H x y v u Q I rx ry h hs
 obtain⟨p,xs,i,z,rfl,rfl,hq,he,q⟩:=h
 cases rx
 obtain⟨t,rfl⟩:=ry
 obtain⟨its,r,pl,hz⟩:=I.list hq
 obtain⟨j,h1,h2,h3,h4,h5⟩:=vw he
 obtain⟨w,ew,rw'⟩:=r.get h2
 have hl:=r.length
 have hn:=qG
 have fin:EP X pins σ Q w s:=⟨z,H,I,rw',q⟩
 by_cases h0:0≤i
 · have hj:i.toNat=j:=by
    rw[seqIndex_of h0 h5]at h1
    exact Option.some.inj h1
   exact item_listR pl.isList h0 (by omega) (by rw[hj];simpa using ew) fin hs
 · have hj:(i+(its.toArray.size:Int)).toNat=j:=by
    rw[seqIndex_neg (by omega) h4]at h1
    rw[List.size_toArray,←hl]
    exact Option.some.inj h1
   exact subscriptTail_builtinR (x:=w) pl.isList.typeIs slot_list_getitem.lookup
    (wpAny_getItem_list_neg (Q:=fun r s'=>r=w∧EP X pins σ Q r s') pl.isList (by omega) (by rw[List.size_toArray]<;>omega) (by omega) (by rw[hj];simpa using ew) ⟨rfl,fin⟩) hs
theorem Kr:GU X (NP X.K):=by
 intro value slice pins s σ H x y v u Q I rx ry h hs
 obtain⟨p,xs,i,z,rfl,rfl,hq,he,q⟩:=h
 cases rx
 obtain⟨t,rfl⟩:=ry
 obtain⟨its,r,pl,hz⟩:=I.tuple hq
 obtain⟨j,h1,h2,h3,h4,h5⟩:=vw he
 obtain⟨w,ew,rw'⟩:=r.get h2
 have hl:=r.length
 have hn:=qG
 have fin:EP X pins σ Q w s:=⟨z,H,I,rw',q⟩
 exact subscriptTail_builtinR (x:=w) pl.typeIs slot_tuple_getitem.lookup
  (getItem_tuple (j:=j) (Q:=fun r s'=>r=w∧EP X pins σ Q r s') pl (by omega) (by omega) (by rw[List.size_toArray,←hl];exact h1) (by simpa using ew) ⟨rfl,fin⟩) hs
theorem Bb(its:List Value)(n j:Nat)(u:Value):Obj.mapSeq (·.setIfInBounds j u) {cls:= .type "list",data:= .seq its.toArray n}= {cls:= .type "list",data:= .seq (its.set j u).toArray n}:=by
 simp[Obj.mapSeq]
theorem Inv.lst{pins:List (Addr×Obj)}{σ:St}{H:Hp}{s:Shared}{p:Addr}{xs:List V}(I:Inv X pins σ H s)(h:H p=some (.lst xs)):
 ∃(its:List Value) (n:Nat),Vals xs its∧s.heap.get? p=some {cls:= .type "list",data:= .seq its.toArray n}∧xs.length≤sizeLine:=by
 obtain⟨z,its,n,r,e⟩:=I.aN p _ h
 exact⟨its,n,r,e,z⟩
theorem Inv.Ki{pins:List (Addr×Obj)}{σ:St}{H:Hp}{s:Shared}{p:Addr}{xs ys:List V}{its its':List Value}{n n':Nat}{f:Obj→Obj}(I:Inv X pins σ H s)(h:H p=some (.lst xs))
 (ho:s.heap.get? p=some {cls:= .type "list",data:= .seq its.toArray n}) (hf:f {cls:= .type "list",data:= .seq its.toArray n}= {cls:= .type "list",data:= .seq its'.toArray n'}) (r:Vals ys its') (hz:ys.length≤sizeLine) (t:Nat):
 Inv X pins σ (upd H p (.lst ys)) {s with heap:=s.heap.update p f,toks:=t}:=by
 have e:(s.heap.update p f).get? p=some {cls:= .type "list",data:= .seq its'.toArray n'}:=by
  rw[Heap.get?_update_self f ho (by rw[hf]<;>rfl),hf]
 refine I.write (x:=p) (e:=p) (by rw[h];trivial) (.inl rfl) (fun b u hb q=>(Heap.get?_update_other _ _ (Ne.symm hb)).trans q) ⟨_,e⟩ ?_
 exact⟨hz,its',n',r,e⟩
noncomputable def xH:V→V→V→Hp→(Hp→Prop)→Prop:=fun o i v H Q=>∃p xs k j,o= .ref p∧i= .int k∧H p=some (.lst xs)∧mi xs.length k=some j∧Q (upd H p (.lst (xs.set j v)))
theorem set_list:Jw X xH:=by
 intro pins s σ H o i v ov iv u Q I ro ri rv h
 obtain⟨p,xs,k,j,rfl,rfl,hp,hj,q⟩:=h
 cases ro
 obtain⟨t,rfl⟩:=ri
 obtain⟨its,n,r,ho,hz⟩:=I.lst hp
 obtain⟨h1,h2,h3,h4⟩:=AN hj
 have hl:=r.length
 have hn:=qG
 have I':Inv X pins σ (upd H p (.lst (xs.set j v))) {s with heap:=s.heap.update p (Obj.mapSeq (·.setIfInBounds j u))}:=
  I.Ki hp ho (Bb its n j u) (r.set rv j) (by rw[List.length_set];exact hz) s.toks
 by_cases h0:0≤k
 · have hk:k.toNat=j:=by
    rw[seqIndex_of h0 h4]at h1
    exact Option.some.inj h1
   exact PySem.W.ki_setAt ho h0 (by omega) (by rw[List.size_toArray,←hl];exact h4) (by rw[hk];exact⟨_,I',q⟩)
 · have hk:(k+(its.toArray.size:Int)).toNat=j:=by
    rw[seqIndex_neg (by omega) h3]at h1
    rw[List.size_toArray,←hl]
    exact Option.some.inj h1
   exact PySem.W.ki_setBack ho (by omega) (by rw[List.size_toArray,←hl];exact h3) (by omega) (by rw[hk];exact⟨_,I',q⟩)
theorem yj(lo hi:Option Int)(n:Nat):(sliceBounds lo hi none n).1=((HT.bV n 0 lo:Nat):Int)∧(sliceBounds lo hi none n).2.1=((HT.bV n n hi:Nat):Int)∧(sliceBounds lo hi none n).2.2=1:=by
 refine⟨?_,?_,rfl⟩
 · cases lo with
   |none=>simp[sliceBounds,HT.bV]
   |some i=>
    simp only[sliceBounds,HT.bV,Option.getD_none,show(1:Int)>0 by decide,if_true]
    by_cases h:i<0
    · simp only[h,if_true]<;>omega
    · simp only[h,if_false]<;>omega
 · cases hi with
   |none=>simp[sliceBounds,HT.bV]
   |some i=>
    simp only[sliceBounds,HT.bV,Option.getD_none,show(1:Int)>0 by decide,if_true]
    by_cases h:i<0
    · simp only[h,if_true]<;>omega
    · simp only[h,if_false]<;>omega
theorem xh(its:List Value)(lo hi:Option Int):slicePick its.toArray lo hi none=((its.drop (HT.bV its.length 0 lo)).take (HT.bV its.length its.length hi-HT.bV its.length 0 lo)).toArray:=by
 obtain⟨h1,h2,h3⟩:=yj lo hi its.toArray.size
 unfold slicePick
 rw[h1,h2,h3]
 simp only[sliceRange_one,pick_run,List.size_toArray]<;>rfl
noncomputable def Oj(K:PySem.W.Frag):V→Option Int→Option Int→Hp→VK→Prop:=fun x lo hi H Q=>∃a xs,x= .ref a∧lE K H a xs∧∀p,H p=none→Q (.ref p) (upd H p (.lst (qg xs lo hi)))
theorem Ap:Dn X (Oj X.K):=by
 intro pins s σ H x v vl vu lo hi sl Q I rx hs pl pu h
 obtain⟨a,xs,rfl,hx,q⟩:=h
 cases rx
 obtain⟨its,r,ht,hz⟩:=I.list hx
 have hlen:=r.length
 refine⟨"list",_,slot_list_getitem.lookup,ht.isList.typeIs,?_⟩
 refine wpAny_getItem_list_slice ht.isList hs pl pu .none (by simp) ?_ (by rw[List.size_toArray]<;>omega)
 rw[xh,←hlen]
 refine⟨.ref s.heap.objs.size,_,I.laid (t':=s.toks) (o:= .lst (qg xs lo hi)) (fun b ob q=>Heap.get?_push_of_some _ q) (Nat.le_refl _) ?_,rfl,q _ (I.aN.fresh (Nat.le_refl _))⟩
 exact⟨Nat.le_trans (sI xs lo hi) hz,_,0,(r.drop (HT.bV xs.length 0 lo)).take (HT.bV xs.length xs.length hi-HT.bV xs.length 0 lo),Heap.get?_push_size _ rfl⟩
theorem yy:bD X (.builtin "len") (fun xs H Q=>∃p ys,xs=[.ref p]∧(lE X.K H p ys∨ib X.K H p ys)∧Q (.int ys.length) H):=by
 intro pins s σ H xs us Q I r h
 obtain⟨p,ys,rfl,hq,q⟩:=h
 obtain⟨u,rfl,rx⟩:=vals1 r
 cases rx
 have hn:=qG
 rcases hq with hq|hq
 · obtain⟨its,r',pl,hz⟩:=I.list hq
   have hlen:=r'.length
   exact Calls.call_len_list pl.isList (by simp only[List.size_toArray]<;>omega) ⟨.int ys.length,H,I.tok _,⟨s.toks+1,by rw[List.size_toArray,hlen]⟩,q⟩
 · obtain⟨its,r',pl,hz⟩:=I.tuple hq
   have hlen:=r'.length
   exact len_tuple pl (by simp only[List.size_toArray]<;>omega) ⟨.int ys.length,H,I.tok _,⟨s.toks+1,by rw[List.size_toArray,hlen]⟩,q⟩
theorem zh:bD X (.builtin "len") (fun xs H Q=>∃z,xs=[.str z]∧z.length≤sizeLine∧Q (.int z.length) H):=by
 intro pins s σ H xs us Q I r h
 obtain⟨z,rfl,hz,q⟩:=h
 obtain⟨u,rfl,t,rfl⟩:=vals1 r
 have hn:=qG
 exact len_str (by omega) ⟨.int z.length,H,I.tok _,⟨_,rfl⟩,q⟩
theorem rg:bD X (.type "list") (fun xs H Q=>∃p ys,xs=[.ref p]∧(lE X.K H p ys∨ib X.K H p ys)∧∀l,H l=none→Q (.ref l) (upd H l (.lst ys))):=by
 intro pins s σ H xs us Q I r h
 obtain⟨p,ys,rfl,hq,q⟩:=h
 obtain⟨u,rfl,rx⟩:=vals1 r
 cases rx
 have fin:∀(its:List Value),Vals ys its→ys.length≤sizeLine→∀(h':Heap) (c':Nat),(∀b o',s.heap.get? b=some o'→h'.get? b=some o')→
  h'.get? s.heap.objs.size=some {cls:= .type "list",dict:=none,data:= .seq its.toArray c',slots:= #[]}→EP X pins σ Q (.ref s.heap.objs.size) {s with heap:=h'}:=fun its r' hz h' c' kp e=>
  ⟨.ref s.heap.objs.size,_,I.laid (t':=s.toks) kp (Nat.le_refl _) (show dv X.prog X.w _ h' _ (.lst ys)from⟨hz,its,c',r',e⟩),rfl,q _ (I.aN.fresh (Nat.le_refl _))⟩
 rcases hq with hq|hq
 · obtain⟨its,r',pl,hz⟩:=I.list hq
   have hlen:=r'.length
   obtain⟨o,ho,hc,n,hd⟩:=pl.isList
   exact call_list_seq p (.inl rfl) ho hc hd (fun h' c' kp e=>fin its r' hz h' c' kp e) (by simp only[List.size_toArray]<;>omega)
 · obtain⟨its,r',pl,hz⟩:=I.tuple hq
   have hlen:=r'.length
   obtain⟨o,ho,hc,n,hd⟩:=pl
   exact call_list_seq p (.inr rfl) ho hc hd (fun h' c' kp e=>fin its r' hz h' c' kp e) (by simp only[List.size_toArray]<;>omega)
theorem xn:bD X (.type "tuple") (fun xs H Q=>∃p ys,xs=[.ref p]∧((lE X.K H p ys∧∀l,H l=none→Q (.ref l) (upd H l (.tup ys)))∨(ib X.K H p ys∧Q (.ref p) H))):=by
 intro pins s σ H xs us Q I r h
 obtain⟨p,ys,rfl,h⟩:=h
 obtain⟨u,rfl,rx⟩:=vals1 r
 cases rx
 rcases h with⟨hq,q⟩|⟨hq,q⟩
 · obtain⟨its,r',pl,hz⟩:=I.list hq
   have hlen:=r'.length
   refine call_tuple_list pl.isList (fun h' kp=>?_) (by simp only[List.size_toArray]<;>omega)
   have I1:Inv X pins σ H {s with heap:=h'}:=I.kept (t':=s.toks) kp
   have I2:Inv X pins σ (upd H h'.objs.size (.tup ys)) {s with heap:=h'.push {cls:= .type "tuple",data:= .seq its.toArray}}:=
    I1.laid (t':=s.toks) (fun b o e=>Heap.get?_push_of_some _ e) (Nat.le_refl _) (show dv X.prog X.w _ _ _ (.tup ys)from⟨hz,its,r',IsTup.new _ _⟩)
   exact⟨.ref h'.objs.size,_,I2,rfl,q _ (I1.aN.fresh (Nat.le_refl _))⟩
 · obtain⟨its,r',pl,hz⟩:=I.tuple hq
   exact call_tuple_same pl ⟨.ref p,H,I,rfl,q⟩
noncomputable def NA(K:PySem.W.Frag)(T:String)(x:V)(H:Hp):Prop:=match x with
 | .str _=>T="str"
 | .int _=>T="int"
 | .ref p=>(T="list"∧∃xs,lE K H p xs)∨(T="tuple"∧∃o,K.lookup p=some o∧o.cls= .type "tuple"∧o.dict=none)∨
    (T="dict"∧((∃kvs,H p=some (.dK kvs))∨∃kvs,H p=some (.dT kvs)))∨(T="set"∧∃S n,H p=some (.set S n))
 |_=>False
theorem KY{pins:List (Addr×Obj)}{σ:St}{H:Hp}{s:Shared}{T:String}{x:V}{v:Value}(I:Inv X pins σ H s)(r:RelV x v)(ty:NA X.K T x H):
 s.TypeIs v T∧∀a,v= .ref a→∃ob,s.heap.get? a=some ob∧ob.dict=none:=by
 cases x with
 |str z=>
  obtain⟨t,rfl⟩:=r
  cases (show T="str" from ty)
  exact⟨typeIs_str s z t,fun _ e=>nomatch e⟩
 |int i=>
  obtain⟨t,rfl⟩:=r
  cases (show T="int" from ty)
  exact⟨typeIs_int s i t,fun _ e=>nomatch e⟩
 |ref p=>
  cases r
  rcases ty with⟨rfl,xs,hq⟩|⟨rfl,o,hk,hc,hd⟩|⟨rfl,hk⟩|⟨rfl,S,n,hk⟩
  · obtain⟨its,_,pl,_⟩:=I.list hq
    refine⟨pl.isList.typeIs,fun a e=>?_⟩
    cases e
    obtain⟨o,n,e,c,hd,_⟩:=pl
    exact⟨o,e,hd⟩
  · refine⟨⟨o,I.gB p o hk,hc⟩,fun a e=>?_⟩
    cases e
    exact⟨o,I.gB _ o hk,hd⟩
  · have z:∃o,s.heap.get? p=some o∧o.ExactDict:=by
     rcases hk with⟨kvs,hk⟩|⟨kvs,hk⟩
     · obtain⟨_,_,_,_,o,_,_,e,ex,_⟩:=I.aN p _ hk
       exact⟨o,e,ex⟩
     · obtain⟨_,_,_,_,o,_,_,e,ex,_⟩:=I.aN p _ hk
       exact⟨o,e,ex⟩
    obtain⟨o,e,ex⟩:=z
    refine⟨⟨o,e,ex.1⟩,fun a e2=>?_⟩
    cases e2
    exact⟨o,e,ex.2.1⟩
  · obtain⟨o,_,_,_,e,ex,_⟩:=I.aN p _ hk
    refine⟨⟨o,e,ex.1⟩,fun a e2=>?_⟩
    cases e2
    exact⟨o,e,ex.2.1⟩
 |_=>exact False.elim ty
noncomputable def Ng(K:PySem.W.Frag)(T:String)(r:V→List V→Hp→VK→Prop)(to:TE)(t:TA):TE:=fun σ H Q=>to σ H fun x H1=>NA K T x H1∧t σ H1 fun xs H2=>r x xs H2 Q
variable {o e:Expr}{es:List Expr}{to:TE}{t:TA}{name:Str}{apos cpos:Pos}{T id:String}{r:V→List V→Hp→VK→Prop}
theorem Nb(pa:PlainAttrs T)(slot:Slot T name id)(hty:typeOf (.builtin id)=pure (.type "method_descriptor"))(hm:Nh X id r)(ho:PE X o to)(ha:PA X (e::es) t)
 (hbase:attributeBase o name X.env (eval o X.env)=eval o X.env:=by rfl)
 (hfew:((backTo cpos (starEach (e::es) X.env)).all (fun x=> !x.1)&&(backToKw cpos (keywordEach [] X.env)).all (fun x=>x.1.isSome)
   &&decide ((e::es).length+([]:List Keyword).length+(if([]:List Keyword).isEmpty then 0 else 1)<30))=true:=by rfl)
 (hline:(apos.endLine==cpos.line)=true:=by rfl) (hs:starEach (e::es) X.env=(false,eval e X.env)::starEach es X.env:=by rfl) (hplain:(backTo cpos (starEach es X.env)).any (·.1)=false:=by rfl):
 PE X (.Call (.Attribute o name apos) (e::es) [] cpos) (Ng X.K T r to t):=by
 intro pins s σ H Q I h
 refine wpAny_Call_method_late hbase hfew hline rfl (bR (ho pins s σ H _ I h) fun v s1 ⟨x,H1,I1,r1,ty,q1⟩=>?_)
 obtain⟨h1,h2⟩:=KY I1 r1 ty
 refine⟨T,id,pa,slot,hty,h1,h2,?_⟩
 have hA:=ha cpos pins s1 σ H1 _ I1 q1
 rw[hs]at hA⊢
 refine Calls.callWith_builtin (by show(false||(backTo cpos (starEach es X.env)).any (·.1))=false;rw[hplain]<;>rfl) (Calls.evalArgs_plain ?_)
 exact bR hA fun us s2 ⟨vs,H2,I2,r2,q2⟩=>hm pins s2 σ H2 x vs v us Q I2 r1 r2 q2
/-xs.append(e),list.index on a module's tuple .. are Nh facts of 06m-/
end
end L2
namespace L2
open PySem PySem.Spec PyProof.Rows
noncomputable def OT(X:Cx)(id:String)(r:V→List V→Hp→VK→Prop):Prop:=
 ∀(pins:List (Addr×Obj)) (s:Shared) (σ:St) (H:Hp) (x:V) (xs:List V) (v:Value) (us:List Value) (Q:VK),Inv X pins σ H s→RelV x v→Vals xs us→r x xs H Q→
  wpAny (model X.prog X.w) X.A (call (.builtin id) (v::us)) (EP X pins σ Q) X.xe s
theorem Vals.one:∀ {x:V} {us:List Value},Vals [x] us→∃u,us=[u]∧RelV x u
 |_,_,.cons r .nil=>⟨_,rfl,r⟩
theorem Vals.rep{xs:List V}{us:List Value}(h:Vals xs us):∀k:Nat,Vals (List.replicate k xs).flatten (List.replicate k us).flatten
 |0=> .nil
 |k+1=>by
  rw[List.replicate_succ,List.replicate_succ,List.flatten_cons,List.flatten_cons]
  exact Vals.append h (Vals.rep h k)
theorem foldl_rep(its:List Value):∀(k:Nat) (acc:List Value),
 List.foldl (fun x1 x2=>x1++x2) acc.toArray (List.replicate k its.toArray)=(acc++(List.replicate k its).flatten).toArray
 |0,acc=>by simp
 |k+1,acc=>by
  have e:acc.toArray++its.toArray=(acc++its).toArray:=by simp
  have e2:(acc++its)++(List.replicate k its).flatten=acc++(List.replicate (k+1) its).flatten:=by
   rw[List.replicate_succ,List.flatten_cons,List.append_assoc]
  rw[←e2,←foldl_rep its k (acc++its),←e,List.replicate_succ,List.foldl_cons]
section
variable {X:Cx}{pins:List (Addr×Obj)}{σ:St}{H:Hp}{s:Shared}{l b:Addr}{xs ys zs:List V}
theorem Inv.Od{its its':List Value}{n:Nat}{f:Array Value→Array Value}{t':Nat}(I:Inv X pins σ H s)(hH:H l=some (.lst xs))
 (e:s.heap.get? l=some {cls:= .type "list",data:= .seq its.toArray n}) (hf:f its.toArray=its'.toArray) (hv:Vals ys its') (hz:ys.length≤sizeLine):
 Inv X pins σ (upd H l (.lst ys)) {s with heap:=s.heap.update l (Obj.mapSeq f),toks:=t'}:=by
 have q:=PySem.IsL.update e f
 rw[hf]at q
 refine I.write (x:=l) (e:=l) (by rw[hH];exact trivial) (.inl rfl) (fun b' u hb hu=>(Heap.get?_update_other s.heap (Obj.mapSeq f) (Ne.symm hb)).trans hu) ⟨_,q⟩ ?_
 exact⟨hz,its',_,hv,q⟩
theorem Inv.E6{its:List Value}{t':Nat}(I:Inv X pins σ H s)(hv:Vals ys its)(hz:ys.length≤sizeLine):
 Inv X pins σ (upd H s.heap.objs.size (.lst ys)) {s with heap:=s.heap.push {cls:= .type "list",data:= .seq its.toArray},toks:=t'}:=
 I.laid (fun _ _ q=>Heap.get?_push_of_some _ q) (Nat.le_refl _) ⟨hz,its,0,hv,Heap.get?_push_size _ rfl⟩
theorem Inv.fresh(I:Inv X pins σ H s):H s.heap.objs.size=none:=I.aN.fresh (Nat.le_refl _)
theorem Inv.Ow(I:Inv X pins σ H s)(hH:H l=some (.lst xs)):xs.length≤sizeLine∧∃(its:List Value) (n:Nat),Vals xs its∧xs.length=its.length∧s.heap.get? l=some {cls:= .type "list",data:= .seq its.toArray n}:=by
 obtain⟨z,its,n,r,e⟩:=I.aN l _ hH
 exact⟨z,its,n,r,r.length,e⟩
theorem Ew{n:Nat}(h:n≤sizeLine):Builtin.List.listTooLong n=false:=by
 unfold Builtin.List.listTooLong
 exact decide_eq_false (by omega)
end
section
variable {X:Cx}
noncomputable def Ay:V→List V→Hp→VK→Prop:=fun x vs H Q=>∃l xs y,x= .ref l∧vs=[y]∧H l=some (.lst xs)∧xs.length<sizeLine∧Q .aK (upd H l (.lst (xs++[y])))
theorem wg:OT X "list.append" Ay:=by
 intro pins s σ H x vs v us Q I rx rv h
 obtain⟨l,xs,y,rfl,rfl,hH,hz,q⟩:=h
 cases rx
 obtain⟨u,rfl,ru⟩:=rv.one
 obtain⟨z,its,n,r,hl,e⟩:=I.Ow hH
 refine call_meets F.slot_list_append ⟨_,e,rfl⟩ F.entry_list_append (F.args_list_append_2 _ _) (PySem.list_append l its.toArray n u (by rw[List.size_toArray];omega)) ⟨e,?_⟩
 refine⟨.aK,_,I.Od (its':=its++[u]) hH e (by simp) (r.append (.cons ru .nil)) ?_,rfl,q⟩
 rw[List.length_append,List.length_singleton]
 omega
theorem len_rep{α:Type}(xs:List α)(k:Nat):(List.replicate k xs).flatten.length=k*xs.length:=by
 induction k with
 |zero=>simp
 |succ k ih=>rw[List.replicate_succ,List.flatten_cons,List.length_append,ih,Nat.succ_mul,Nat.add_comm]
end
section
variable {prog:Program}{w:World}{A:Around}{E:Value→Shared→Prop}{s:Shared}
set_option maxRecDepth 100000 in
end
section
variable {X:Cx}
end
end L2
namespace Att
open PySem PySem.W PySem.Calls PyProof.Rows
theorem u5{P:Params}{h:Heap}:∀(ns:List Int) (vs:List Value),WellAll P h vs (ns.map WData.int)→IntsAre vs ns:=by
 intro ns
 induction ns with
 |nil=>
  intro vs w
  rw[List.map_nil]at w
  cases w
  exact .nil
 |cons n ns ih=>
  intro vs w
  rw[List.map_cons]at w
  cases w with
  |cons a b=>
   cases a
   exact .cons _ _ (ih _ b)
theorem Dl{l:OpenLaw}{n:Nat}(hn:l.most=some n){P:Params}{h:Heap}{args:List WData}{vals:List Value}
 (hpre:l.row.toRowW.claim.pre args=true) (hwl:WellAll P h vals args):
 ∃a vs ns,vals=[Value.ref a]∧args=[WData.list (ns.map WData.int)]∧h.get? a=some {cls:= .type "list",data:= .seq vs.toArray}∧IntsAre vs ns∧ns.length≤n:=by
 have hsh:WShape.hasAll [] args [.list .int]=true:=(pre_splitW hpre).1
 have hc:l.pre.holds [] {args:=args}=true:=(pre_splitW hpre).2
 obtain⟨d,r,rfl,h1,h2⟩:=hasAllW_cons hsh
 obtain rfl:=hasAllW_nil h2
 obtain⟨xs,rfl,h3⟩:=hasW_list h1
 obtain⟨ns,rfl⟩:=items_int h3
 have hlen:ns.length≤n:=by
  unfold OpenLaw.pre at hc
  have h4:(WTm.not (.lt (.lit (.int (n:Int))) (.len (.arg 0)))).holds [] {args:=[.list (ns.map .int)]}=true:=by
   have h4:=(holds_andW hc).1
   rw[hn]at h4
   exact h4
  have h5:=condW_of h4 (w_not (w_lt w_lit (w_len_list (w_arg rfl))))
  rw[List.length_map]at h5
  refine Nat.le_of_not_lt fun q=>?_
  have q':(n:Int)<((ns.length:Nat):Int):=by omega
  first
   |(rw[decide_eq_true q']at h5;exact absurd h5 (by decide))
   |(simp at h5;omega)
 cases hwl with
 |cons w1 w2=>
  cases w2
  cases w1 with
  |list ho hall=>exact⟨_,_,ns,rfl,rfl,ho,u5 ns _ hall,hlen⟩
theorem Cj(l:OpenLaw)(args:List WData):l.row.toRowW.claim.post args (.bool true) args=true:=
 postW_of (r:=l.row.toRowW) (X:=(true==true))
  (show WShape.has [] (.bool true) .bool=true by first|rfl|decide|simp[WShape.has,WShape.arms,WShape.armsAll])
  (show(WTm.eq .res (.lit (.bool true))).value [] {args:=args,res:=some (.bool true),after:=args}=some (.bool (true==true))from w_eq_bool (w_res rfl) w_lit) rfl
theorem zM{l:OpenLaw}{n:Nat}{q:Program}{loose:List Str}{XP:(Str→Option Value)→Heap→Prop}{YP:World→Heap→Prop}{d:DefRec}
 (hn:l.most=some n) (hdf:d.params.defaults=[])
 (call:∀(w:World) (s₀ s₁:Shared) (mg mb:Str→Option Value) (fa:Addr) (o:Obj) (pm cd doc:Value) (a:Addr) (vs:List Value) (ns:List Int),
   Ground q loose [] XP w s₀ mg mb s₁.heap→YP w s₁.heap→
   s₁.heap.get? fa=some o→o.data= .func (docDef d.name d.params d.body d.scope pm cd doc)→s₁.heap.CodeRec cd d.name→mg d.name=some (.ref fa)→
   s₁.heap.get? a=some {cls:= .type "list",data:= .seq vs.toArray}→IntsAre vs ns→ns.length≤n→s₁.gens= #[]→
   codeAny (model l.prog w) callerA (.call (.ref fa) ⟨[.ref a],[]⟩) (fun r s'=>r= .ok (.ret (.bool true))∧OldK s₁.heap s'.heap∧s'.os=s₁.os∧AllBare s'.gens) s₁):
 WalkO q loose XP YP l.row.toRowW d [] (fun f vs=>PySem.call f vs):=by
 intro w s₀ s₁ mg mb G Y fa o pm cd doc dV kV ho hd hcd hD hmg hg args vals as hpre hlay hrd hwl hlo
 obtain rfl:dV= .none:=Dflts.none hD hdf
 obtain rfl:kV= .none:=Dflts.noKw hD
 obtain⟨a,vs,ns,rfl,rfl,hobj,hints,hlen⟩:=Dl hn hpre hwl
 refine enter_call (codeAny_mono (call w s₀ s₁ mg mb fa o pm cd doc a vs ns G Y ho (fd_plain hd) hcd hmg hobj hints hlen hg) fun r s' hq=>?_)
 obtain⟨rfl,h2,h3,h4⟩:=hq
 exact⟨.inl ⟨.bool true,.bool true,[],rfl,fun _=>rfl,.bool true,Cj l _,fun _=>⟨List.Pairwise.nil,fun _ hm=>(nomatch hm)⟩⟩,h2,h3,h4⟩
section
variable {prog:Program}{w:World}{A:Around}{E:Value→Shared→Prop}{s:Shared}{K:Frag}
end
end Att
namespace L2
open PySem PySem.Spec PyProof.Rows
theorem lD:∀ {vs:List Value} {ns:List Int},IntsAre vs ns→Vals (ns.map V.int) vs
 |_,_,.nil=> .nil
 |_,_,.cons n t h=> .cons ⟨t,rfl⟩ (lD h)
end L2
/-THE LAST THEOREM (shape;LID,My.*are yours):
 My.Adr:a structure of the addresses that your layer names (classes,functions);My.Txt K t:a structure (Prop) of the equations over K;
 My.txt_mk:{K} {implicit addresses ..} (e1:nsIn K mainGlobals "law"=some (some (.ref f))) (e2:K.lookup f=some ⟨oc,od,.func (fnOf "law" "law" params body scope dV kV doc pm an cdv ct),sl⟩) (e3:codeIn K cdv "law"=true) .. :∃t,My.Txt K t
set_option maxRecDepth 100000 in
set_option maxHeartbeats 0 in
(the tactic k_is has no namespace:write k_is)-/
namespace L2
open PySem PySem.Spec PyProof.Rows
noncomputable def inClass(s:Stmt)(j:Nat):Stmt:=match s with
 | .ClassDef _ _ _ body _ _ _ _ _ _ _=>body.getD j (.Pass ⟨0,0,0,0⟩)
 |_=> .Pass ⟨0,0,0,0⟩
noncomputable def iK(s:Stmt):Arguments:=match s with
 | .FunctionDef _ a _ _ _ _ _ _ _ _=>a
 |_=>{posonlyargs:=[],args:=[],vararg:=none,kwonlyargs:=[],kw_defaults:=[],kwarg:=none,defaults:=[]}
noncomputable def fM(s:Stmt):List Stmt:=match s with
 | .FunctionDef _ _ b _ _ _ _ _ _ _=>b
 |_=>[]
noncomputable def ai(s:Stmt):Scope:=match s with
 | .FunctionDef _ _ _ _ _ _ sc _ _ _=>sc
 |_=>{kind:= .function,names:=[],isGenerator:=false,isCoroutine:=false}
noncomputable abbrev cq:td:=fun _ _ _ _ _ _=>False
noncomputable abbrev E0:XK:=fun _ _ _=>False
theorem Be{X:Cx}:Passes cq X E0:=fun _ _ _ _ _ _ _ h=>h.elim
structure m_(K:PySem.W.Frag)(x qual:Str)(st:Stmt)(f:Addr)(fd:FuncData):Prop where
 ex:∃(oc:Value) (od:Option Addr) (kV doc pm:Value) (an:Option Addr) (cdv ct:Value) (osl:Array (Option Value)),
  fd=PySem.W.fnOf x qual (iK st) (fM st) (ai st) .none kV doc pm an cdv ct∧K.lookup f=some ⟨oc,od,.func fd,osl⟩∧PySem.W.codeIn K cdv qual=true
 kp:PySem.W.keepIn K (.ref f)=true
section
variable {P:Program}{w:World}{K:PySem.W.Frag}{mg:Str→Option Value}{base:Heap}
theorem m_.ok{x qual:Str}{st:Stmt}{f:Addr}{fd:FuncData}{N ps:List Str}{k:Nat}{sp:Sp}(F:m_ K x qual st f fd)(S:aO N ps (ai st))(len:∀vs H Q E,sp vs H Q E→vs.length=ps.length)
 (hbody:∀(cdv:Value) (A:Around) (outer:List Env) (s:Shared) (H:Hp) (vs:List V) (Q:VK) (E:XK),cO k (A.deeper (envOfC qual (ai st) s.heap.objs.size f cdv))→sp vs H Q E→
   ∃t,gz (pU cq P w K mg base N qual (ai st) f cdv A outer s H E).vb (fM st) t∧t {nx:=fun _ H'=>Q .aK H',rt:=Q} (start N vs) H):a8 P w K mg base cq (k+1) f fd ps sp:=by
 obtain⟨oc,od,kV,doc,pm,an,cdv,ct,osl,rfl,lk,hcd⟩:=F.ex
 refine F4 lk hcd S len fun A outer s H vs Q E hr hsp=>?_
 obtain⟨t,h,q⟩:=hbody cdv A outer s H vs Q E hr hsp
 exact⟨t,h.vb,q⟩
theorem m_.binds{x qual:Str}{st:Stmt}{f:Addr}{fd:FuncData}{ps:List Str}(F:m_ K x qual st f fd)
 (h:∀(kV doc pm:Value) (an:Option Addr) (cdv ct:Value) (us:List Value),us.length=ps.length→bindArgs (PySem.W.fnOf x qual (iK st) (fM st) (ai st) .none kV doc pm an cdv ct) ⟨us,[]⟩=pure (ps.zip us)):Binds K fd ps []:=by
 obtain⟨oc,od,kV,doc,pm,an,cdv,ct,osl,rfl,lk,hcd⟩:=F.ex
 exact .all (h kV doc pm an cdv ct)
theorem Cv{x qual:Str}{st:Stmt}{f:Addr}{oc:Value}{od an:Option Addr}{osl:Array (Option Value)}{kV doc pm cdv ct:Value}(l:K.lookup f=some ⟨oc,od,.func (PySem.W.fnOf x qual (iK st) (fM st) (ai st) .none kV doc pm an cdv ct),osl⟩)
 (c:PySem.W.codeIn K cdv qual=true) (k:PySem.W.keepIn K (.ref f)=true):m_ K x qual st f (PySem.W.fnOf x qual (iK st) (fM st) (ai st) .none kV doc pm an cdv ct):=⟨⟨oc,od,kV,doc,pm,an,cdv,ct,osl,rfl,l,c⟩,k⟩
end
section
variable {X:Cx}
end
theorem fX{A B:Prop}(h:A):if true=true then A else B:=by
 rw[if_pos rfl]
 exact h
noncomputable def El(H H':Hp):Prop:=∀b o,H b=some o→H' b=some o
end L2
set_option maxHeartbeats 4000000
namespace Hd
open PySem PySem.W PySem.Calls PyProof.Rows
noncomputable def bt (P:Params):BT:=(.node (boot_o_0 P) (.node (boot_o_1 P) (.node (boot_o_3 P) (.node (boot_o_7 P) .nil .nil) .nil) (.node (boot_o_5 P) (.node (boot_o_9 P) .nil .nil) .nil)) (.node (boot_o_2 P) (.node (boot_o_4 P) (.node (boot_o_8 P) .nil .nil) .nil) (.node (boot_o_6 P) (.node (boot_o_10 P) .nil .nil) .nil)))
theorem JF(P:Params):absHeap (bt P) 11 (boot_heap P).life=boot_heap P:=by kernel_rfl
noncomputable def run (p:Program) (w:World) (n:Nat) (ann:Option Value):Nat→SharedT→Thread→Option SharedT
 |0,_,_=>none
 |k+1,s,t=>match through t with
  |true=>some s
  |false=>match Fast.tw6613529449190102663 n ann t with
   |false=>none
   |true=>match Fast.tw10156331382660048174 (Fast.tw11892475500146522536 Fast.tw14364793385576792824) p w s t with
    |some (s',t')=>run p w n ann k s' t'
    |none=>none
theorem D1{p:Program}{w:World}{n:Nat}{ann:Option Value}:∀ {k:Nat} {s s':SharedT} {t:Thread},run p w n ann k s t=some s'→topRun treeTable p w n ann k s.abs t=some s'.abs
 |0,_,_,_,h=>by cases h
 |k+1,s,s',t,h=>by
  unfold run at h
  unfold topRun
  cases he:through t with
  |true=>rw[he]at h;cases h;rfl
  |false=>
   rw[he]at h
   rw[←Fast.te6613529449190102663,←Fast.te10156331382660048174,←Fast.te11892475500146522536,←Fast.te14364793385576792824]at h
   cases hk:stepOk n ann t with
   |false=>simp only[hk]at h;cases h
   |true=>
    simp only[hk]at h
    cases hs:stepT (denote treeTable) p w s t with
    |none=>rw[hs]at h;cases h
    |some r=>obtain⟨s2,t2⟩:=r;rw[hs]at h;rw[stepT_spec hs];exact D1 h
noncomputable def b0 (w:World) (os:OsState):SharedT:=⟨bt w.params,11,(boot_heap w.params).life,⟨[]⟩,boot_drawn,boot_toks,os⟩
theorem K7(w:World)(os:OsState):(b0 w os).abs=⟨boot_heap w.params,⟨[]⟩,boot_drawn,boot_toks,os⟩:=by
 unfold b0 SharedT.abs
 dsimp only
 rw[JF]
theorem left{p q:Program}{loose:List Str}{α:Type}{Yf:Shared→α}{Ya:World→α}{N:Nat}
 (e:opening p=plainProg p.main.scope.names) (f:∀s,fenceModules? p s=some s) (hN:Nat.ble 600 N=true)
 (h:∀(w:World) (os:OsState),(run p w 11 (some (.ref 6)) N (b0 w os) (topStub p)).bind (fun s=>match staticsOk (importedModules p.main.body) (boot_heap w.params) s.abs.heap&&namesBound p s.abs.heap&&gensDone s.abs&&laidKept (boot_heap w.params) s.abs.heap with
   |true=>some (Fast.tw4187177175401517315 q loose (importedModules p.main.body) (fun _=>true) true s.abs,Yf s.abs)
   |false=>none)=some (openGood q loose,Ya w)):LeftO p q loose (fun _=>true) Yf Ya N:=fun w=>by
 obtain⟨⟨hp,gs,d,k,os⟩,e1,e2⟩:=Option.map_eq_some_iff.mp (boot_open e hN f w)
 obtain⟨rfl,rfl,rfl,rfl⟩:hp=boot_heap w.params∧gs=⟨[]⟩∧d=boot_drawn∧k=boot_toks:=by simpa using e2
 obtain⟨s,r1,r2⟩:=Option.bind_eq_some_iff.mp (h w os)
 have r3:=D1 r1
 rw[K7]at r3
 rw[←Fast.te4187177175401517315]at r2
 unfold openEnds
 rw[e1]
 show(topFrom treeTable p w N _).map _=_
 unfold topFrom
 rw[show((boot_heap w.params).isNs mainGlobals&&(⟨[]⟩:Array GenState).size==0)=true from by kernel_rfl]
 dsimp only
 rw[show(boot_heap w.params).objs.size=11 from by kernel_rfl,show(boot_heap w.params).nsMap mainGlobals "__annotations__"=some (.ref 6)from by kernel_rfl,r3]
 show((match staticsOk (importedModules p.main.body) (boot_heap w.params) s.abs.heap&&namesBound p s.abs.heap&&gensDone s.abs&&laidKept (boot_heap w.params) s.abs.heap with|true=>some s.abs|false=>none):Option Shared).map _=_
 cases z:(staticsOk (importedModules p.main.body) (boot_heap w.params) s.abs.heap&&namesBound p s.abs.heap&&gensDone s.abs&&laidKept (boot_heap w.params) s.abs.heap)with
 |false=>rw[z]at r2;cases r2
 |true=>rw[z]at r2;exact r2
noncomputable def fo(st:Stmt)(x q:Str)(pm cd:Value):Obj:=⟨.type "function",none,.func (fnOf x q (L2.iK st) (L2.fM st) (L2.ai st) .none .none .none pm none cd .none),#[]⟩
noncomputable abbrev e(x:Str)(t:Nat)(v:Value):Str×Nat×Value:=(x,t,v)
noncomputable abbrev k(a:Addr)(o:Obj):Addr×Obj:=(a,o)
noncomputable def no(P:Params)(n:Nat)(l:List (Str×Nat×Value)):Obj:=⟨.type "dict",none,.dict (l.map fun e=>⟨PyData.keyHash P e.1,.str e.1 e.2.1,e.2.2⟩).toArray n,#[]⟩
noncomputable def fd(st:Stmt)(x q:Str)(pm:Value)(c:Addr):FuncData:=fnOf x q (L2.iK st) (L2.fM st) (L2.ai st) .none .none .none pm none (.ref c) .none
noncomputable def fq(st:Stmt)(x q:Str)(pm:Value)(c:Addr):Obj:=⟨.type "function",none,.func (fd st x q pm c),#[]⟩
noncomputable def co(x q:Str)(t:Nat)(line argc:Int)(a b:Addr)(u v:Value)(d:Addr)(i:Int)(z:Nat):Obj:=⟨.type "code",none,.fields #[.str x t,.str q (t+1),.str "/claim/cut.py" (t+2),.int line 0,.int argc 0,.int 0 0,.int 0 0,.int 3 0,.ref a,.bool true,.int 181 0,.ref b,.none,u,v,.ref d,.int i 0,.int line 0,.str "/claim/cut.py" z],#[]⟩
end Hd
namespace Row
open PySem L2
open PySem.Spec hiding items?
open PyProof.Rows hiding St
noncomputable def top(i:Nat):Stmt:=PySem.Challenge.pw_latticeworks_k66_spaces_carried.main.body.getD i (.Pass ⟨0,0,0,0⟩)
noncomputable abbrev PW:Program:=PySem.Challenge.pw_latticeworks_k66_spaces_carried
noncomputable abbrev ki:Stmt:=top 1
noncomputable abbrev o4:Stmt:=top 2
noncomputable abbrev o3:Stmt:=top 3
noncomputable abbrev mY:Stmt:=top 4
noncomputable abbrev mX:Stmt:=top 5
noncomputable abbrev pq:Stmt:=top 6
noncomputable abbrev m5:Stmt:=top 7
noncomputable abbrev iu:Stmt:=top 9
noncomputable abbrev kq:Stmt:=top 10
noncomputable abbrev kP:Stmt:=top 11
noncomputable abbrev iz:Stmt:=top 12
noncomputable abbrev ju:Stmt:=top 13
noncomputable abbrev e_:Stmt:=top 14
noncomputable abbrev gG:Stmt:=top 15
noncomputable abbrev fZ:Stmt:=top 16
noncomputable abbrev jy:Stmt:=top 18
noncomputable abbrev dW:Stmt:=top 19
noncomputable abbrev gZ:Stmt:=top 20
noncomputable abbrev ia:Stmt:=top 21
noncomputable abbrev cM:Stmt:=inClass (top 22) 0
noncomputable abbrev gw:Stmt:=inClass (top 22) 1
noncomputable abbrev eL:Stmt:=inClass (top 22) 2
noncomputable abbrev dN:Stmt:=inClass (top 22) 3
noncomputable abbrev cX:Stmt:=inClass (top 22) 4
noncomputable abbrev fv:Stmt:=inClass (top 22) 5
noncomputable abbrev dJ:Stmt:=inClass (top 22) 6
noncomputable abbrev iJ:Stmt:=top 23
noncomputable abbrev jA:Stmt:=top 24
noncomputable abbrev gW:Stmt:=top 26
noncomputable abbrev g4:Stmt:=top 27
noncomputable abbrev e9:Stmt:=top 28
noncomputable abbrev kQ:Stmt:=top 29
noncomputable abbrev mW:Stmt:=top 31
noncomputable abbrev jF:Stmt:=top 32
noncomputable abbrev iQ:Stmt:=top 34
noncomputable abbrev iI:Stmt:=top 35
noncomputable abbrev gq:Stmt:=top 36
noncomputable abbrev gK:Stmt:=top 37
noncomputable abbrev gT:Stmt:=top 38
noncomputable abbrev iH:Stmt:=top 39
noncomputable abbrev fY:Stmt:=top 40
noncomputable abbrev kJ:Stmt:=top 41
noncomputable abbrev e8:Stmt:=top 42
noncomputable abbrev eO:Stmt:=top 43
noncomputable abbrev jE:Stmt:=top 44
noncomputable abbrev fb:Stmt:=top 45
noncomputable abbrev ft:Stmt:=top 46
noncomputable abbrev fE:Stmt:=top 47
noncomputable abbrev jd:Stmt:=top 48
noncomputable def i3:Value:=(.str "latticeworks.fractions" 187)
noncomputable def hV:Value:=(.str "latticeworks.rows" 248)
noncomputable def d_:Value:=(.str "latticeworks.standing" 304)
noncomputable def qv:Value:=(.str "latticeworks.inside" 447)
noncomputable def An:Value:=(.str "latticeworks.spaces" 494)
noncomputable def df:Value:=(.str "law_latticeworks_k66_spaces_carried" 512)
noncomputable def KX(P:Params):PySem.W.Frag:=[Hd.k 3 (Hd.no P 52 [Hd.e "__name__" 165 (.str "law_latticeworks_k66_spaces_carried" 512),Hd.e "__doc__" 166 .none,Hd.e "__package__" 167 .none,Hd.e "__loader__" 168 (.builtin "__main__.__loader__#opaque"),Hd.e "__spec__" 169 .none,Hd.e "__annotations__" 170 (.ref 6),Hd.e "__builtins__" 171 (.ref 4),Hd.e "__file__" 173 (.str "/claim/cut.py" 172),Hd.e "__cached__" 174 .none,Hd.e "common" 199 (.ref 21),Hd.e "part" 208 (.ref 28),Hd.e "plus" 216 (.ref 35),Hd.e "minus" 224 (.ref 42),Hd.e "times" 232 (.ref 49),Hd.e "over" 240 (.ref 56),Hd.e "whole" 247 (.ref 63),Hd.e "as_rows" 255 (.ref 68),Hd.e "added" 261 (.ref 73),Hd.e "sum_by" 273 (.ref 80),Hd.e "product" 279 (.ref 85),Hd.e "column" 285 (.ref 90),Hd.e "turned_over" 291 (.ref 95),Hd.e "unit_row" 297 (.ref 100),Hd.e "unit_rows" 303 (.ref 105),Hd.e "lead_of" 314 (.ref 112),Hd.e "nearest_quotient" 322 (.ref 119),Hd.e "exchanged" 332 (.ref 126),Hd.e "negated" 338 (.ref 131),Hd.e "Bench" 422 (.ref 186),Hd.e "standing" 433 (.ref 197),Hd.e "weighed" 446 (.ref 204),Hd.e "parts_dot" 459 (.ref 211),Hd.e "bottom_at" 469 (.ref 218),Hd.e "parts_against" 482 (.ref 225),Hd.e "inside" 493 (.ref 232),Hd.e "space" 503 (.ref 239),Hd.e "carried" 511 (.ref 246),Hd.e "_law_hand" 521 (.ref 253),Hd.e "_law_draw" 533 (.ref 260),Hd.e "_law_number" 541 (.ref 267),Hd.e "_law_rows" 547 (.ref 272),Hd.e "_law_width" 554 (.ref 279),Hd.e "_law_many" 563 (.ref 286),Hd.e "_law_falls" 569 (.ref 291),Hd.e "_law_in" 577 (.ref 298),Hd.e "_law_stands" 583 (.ref 303),Hd.e "_law_is_space" 589 (.ref 308),Hd.e "_law_sum" 602 (.ref 315),Hd.e "_law_product" 608 (.ref 320),Hd.e "_law_all_sums" 619 (.ref 327),Hd.e "_law_listed" 625 (.ref 332),Hd.e "law" 631 (.ref 337)]),
 Hd.k 20 (Hd.co "common" "common" 189 2 2 15 16 (.ref 17) (.ref 18) 19 197 198),
 Hd.k 21 (Hd.fq ki "common" "common" i3 20),
 Hd.k 27 (Hd.co "part" "part" 200 10 2 22 23 (.ref 24) (.ref 25) 26 206 207),
 Hd.k 28 (Hd.fq o4 "part" "part" i3 27),
 Hd.k 34 (Hd.co "plus" "plus" 209 15 2 29 30 (.ref 31) (.ref 32) 33 214 215),
 Hd.k 35 (Hd.fq o3 "plus" "plus" i3 34),
 Hd.k 41 (Hd.co "minus" "minus" 217 17 2 36 37 (.ref 38) (.ref 39) 40 222 223),
 Hd.k 42 (Hd.fq mY "minus" "minus" i3 41),
 Hd.k 48 (Hd.co "times" "times" 225 19 2 43 44 (.ref 45) (.ref 46) 47 230 231),
 Hd.k 49 (Hd.fq mX "times" "times" i3 48),
 Hd.k 55 (Hd.co "over" "over" 233 21 2 50 51 (.ref 52) (.ref 53) 54 238 239),
 Hd.k 56 (Hd.fq pq "over" "over" i3 55),
 Hd.k 62 (Hd.co "whole" "whole" 241 23 1 57 58 (.ref 59) (.ref 60) 61 245 246),
 Hd.k 63 (Hd.fq m5 "whole" "whole" i3 62),
 Hd.k 67 (Hd.co "as_rows" "as_rows" 250 26 1 64 65 .none .none 66 253 254),
 Hd.k 68 (Hd.fq iu "as_rows" "as_rows" hV 67),
 Hd.k 72 (Hd.co "added" "added" 256 28 3 69 70 .none .none 71 259 260),
 Hd.k 73 (Hd.fq kq "added" "added" hV 72),
 Hd.k 79 (Hd.co "sum_by" "sum_by" 262 30 3 74 75 (.ref 76) (.ref 77) 78 271 272),
 Hd.k 80 (Hd.fq kP "sum_by" "sum_by" hV 79),
 Hd.k 84 (Hd.co "product" "product" 274 35 2 81 82 .none .none 83 277 278),
 Hd.k 85 (Hd.fq iz "product" "product" hV 84),
 Hd.k 89 (Hd.co "column" "column" 280 38 2 86 87 .none .none 88 283 284),
 Hd.k 90 (Hd.fq ju "column" "column" hV 89),
 Hd.k 94 (Hd.co "turned_over" "turned_over" 286 40 2 91 92 .none .none 93 289 290),
 Hd.k 95 (Hd.fq e_ "turned_over" "turned_over" hV 94),
 Hd.k 99 (Hd.co "unit_row" "unit_row" 292 42 2 96 97 .none .none 98 295 296),
 Hd.k 100 (Hd.fq gG "unit_row" "unit_row" hV 99),
 Hd.k 104 (Hd.co "unit_rows" "unit_rows" 298 44 1 101 102 .none .none 103 301 302),
 Hd.k 105 (Hd.fq fZ "unit_rows" "unit_rows" hV 104),
 Hd.k 111 (Hd.co "lead_of" "lead_of" 306 47 1 106 107 (.ref 108) (.ref 109) 110 312 313),
 Hd.k 112 (Hd.fq jy "lead_of" "lead_of" d_ 111),
 Hd.k 118 (Hd.co "nearest_quotient" "nearest_quotient" 315 52 2 113 114 (.ref 115) (.ref 116) 117 320 321),
 Hd.k 119 (Hd.fq dW "nearest_quotient" "nearest_quotient" d_ 118),
 Hd.k 125 (Hd.co "exchanged" "exchanged" 323 54 3 120 121 (.ref 122) (.ref 123) 124 330 331),
 Hd.k 126 (Hd.fq gZ "exchanged" "exchanged" d_ 125),
 Hd.k 130 (Hd.co "negated" "negated" 333 59 1 127 128 .none .none 129 336 337),
 Hd.k 131 (Hd.fq ia "negated" "negated" d_ 130),
 Hd.k 142 (Hd.co "__init__" "Bench.__init__" 351 63 2 139 140 .none .none 141 354 355),
 Hd.k 143 (Hd.fq cM "__init__" "Bench.__init__" d_ 142),
 Hd.k 149 (Hd.co "take" "Bench.take" 357 68 4 144 145 (.ref 146) (.ref 147) 148 364 365),
 Hd.k 150 (Hd.fq gw "take" "Bench.take" d_ 149),
 Hd.k 156 (Hd.co "exchange" "Bench.exchange" 367 73 3 151 152 (.ref 153) (.ref 154) 155 373 374),
 Hd.k 157 (Hd.fq eL "exchange" "Bench.exchange" d_ 156),
 Hd.k 163 (Hd.co "change_sign" "Bench.change_sign" 376 78 2 158 159 (.ref 160) (.ref 161) 162 381 382),
 Hd.k 164 (Hd.fq dN "change_sign" "Bench.change_sign" d_ 163),
 Hd.k 168 (Hd.co "live_rows" "Bench.live_rows" 384 83 3 165 166 .none .none 167 387 388),
 Hd.k 169 (Hd.fq cX "live_rows" "Bench.live_rows" d_ 168),
 Hd.k 175 (Hd.co "gather" "Bench.gather" 390 87 3 170 171 (.ref 172) (.ref 173) 174 399 400),
 Hd.k 176 (Hd.fq fv "gather" "Bench.gather" d_ 175),
 Hd.k 182 (Hd.co "lower_above" "Bench.lower_above" 402 101 3 177 178 (.ref 179) (.ref 180) 181 409 410),
 Hd.k 183 (Hd.fq dJ "lower_above" "Bench.lower_above" d_ 182),
 Hd.k 185 (Hd.no P 4 [Hd.e "__module__" 346 (.str "latticeworks.standing" 304),Hd.e "__firstlineno__" 350 (.int (61) 349),Hd.e "__init__" 356 (.ref 143),Hd.e "take" 366 (.ref 150),Hd.e "exchange" 375 (.ref 157),Hd.e "change_sign" 383 (.ref 164),Hd.e "live_rows" 389 (.ref 169),Hd.e "gather" 401 (.ref 176),Hd.e "lower_above" 411 (.ref 183),Hd.e "__static_attributes__" 415 (.ref 184),Hd.e "__dict__" 417 (.ref 187),Hd.e "__weakref__" 419 (.ref 188),Hd.e "__doc__" 420 .none]),
 Hd.k 186 (⟨(.type "type"),none,.cls {name:="Bench",bases:=[(.type "object")],mro:=[(.ref 186),(.type "object")],ns:=185,qualname:="Bench",hasDict:=true,subclasses:=[],abstract:=false,hasDel:=false},#[none,none,(some (.str "Bench" 339)),(some (.str "Bench" 347)),(some (.builtin "object.__new__")),(some (.bool true))]⟩),
 Hd.k 196 (Hd.co "standing" "standing" 423 104 1 191 192 (.ref 193) (.ref 194) 195 431 432),
 Hd.k 197 (Hd.fq iJ "standing" "standing" d_ 196),
 Hd.k 203 (Hd.co "weighed" "weighed" 434 113 2 198 199 (.ref 200) (.ref 201) 202 444 445),
 Hd.k 204 (Hd.fq jA "weighed" "weighed" d_ 203),
 Hd.k 210 (Hd.co "parts_dot" "parts_dot" 449 123 2 205 206 (.ref 207) (.ref 208) 209 457 458),
 Hd.k 211 (Hd.fq gW "parts_dot" "parts_dot" qv 210),
 Hd.k 217 (Hd.co "bottom_at" "bottom_at" 460 128 3 212 213 (.ref 214) (.ref 215) 216 467 468),
 Hd.k 218 (Hd.fq g4 "bottom_at" "bottom_at" qv 217),
 Hd.k 224 (Hd.co "parts_against" "parts_against" 470 133 2 219 220 (.ref 221) (.ref 222) 223 480 481),
 Hd.k 225 (Hd.fq e9 "parts_against" "parts_against" qv 224),
 Hd.k 231 (Hd.co "inside" "inside" 483 143 2 226 227 (.ref 228) (.ref 229) 230 491 492),
 Hd.k 232 (Hd.fq kQ "inside" "inside" qv 231),
 Hd.k 238 (Hd.co "space" "space" 496 151 2 233 234 (.ref 235) (.ref 236) 237 501 502),
 Hd.k 239 (Hd.fq mW "space" "space" An 238),
 Hd.k 245 (Hd.co "carried" "carried" 504 153 2 240 241 (.ref 242) (.ref 243) 244 509 510),
 Hd.k 246 (Hd.fq jF "carried" "carried" An 245),
 Hd.k 252 (Hd.co "_law_hand" "_law_hand" 514 156 1 247 248 (.ref 249) (.ref 250) 251 519 520),
 Hd.k 253 (Hd.fq iQ "_law_hand" "_law_hand" df 252),
 Hd.k 259 (Hd.co "_law_draw" "_law_draw" 522 159 2 254 255 (.ref 256) (.ref 257) 258 531 532),
 Hd.k 260 (Hd.fq iI "_law_draw" "_law_draw" df 259),
 Hd.k 266 (Hd.co "_law_number" "_law_number" 534 172 2 261 262 (.ref 263) (.ref 264) 265 539 540),
 Hd.k 267 (Hd.fq gq "_law_number" "_law_number" df 266),
 Hd.k 271 (Hd.co "_law_rows" "_law_rows" 542 178 3 268 269 .none .none 270 545 546),
 Hd.k 272 (Hd.fq gK "_law_rows" "_law_rows" df 271),
 Hd.k 278 (Hd.co "_law_width" "_law_width" 548 183 1 273 274 (.ref 275) (.ref 276) 277 552 553),
 Hd.k 279 (Hd.fq gT "_law_width" "_law_width" df 278),
 Hd.k 285 (Hd.co "_law_many" "_law_many" 555 187 3 280 281 (.ref 282) (.ref 283) 284 561 562),
 Hd.k 286 (Hd.fq iH "_law_many" "_law_many" df 285),
 Hd.k 290 (Hd.co "_law_falls" "_law_falls" 564 191 2 287 288 .none .none 289 567 568),
 Hd.k 291 (Hd.fq fY "_law_falls" "_law_falls" df 290),
 Hd.k 297 (Hd.co "_law_in" "_law_in" 570 199 2 292 293 (.ref 294) (.ref 295) 296 575 576),
 Hd.k 298 (Hd.fq kJ "_law_in" "_law_in" df 297),
 Hd.k 302 (Hd.co "_law_stands" "_law_stands" 578 201 1 299 300 .none .none 301 581 582),
 Hd.k 303 (Hd.fq e8 "_law_stands" "_law_stands" df 302),
 Hd.k 307 (Hd.co "_law_is_space" "_law_is_space" 584 211 2 304 305 .none .none 306 587 588),
 Hd.k 308 (Hd.fq eO "_law_is_space" "_law_is_space" df 307),
 Hd.k 314 (Hd.co "_law_sum" "_law_sum" 590 222 3 309 310 (.ref 311) (.ref 312) 313 600 601),
 Hd.k 315 (Hd.fq jE "_law_sum" "_law_sum" df 314),
 Hd.k 319 (Hd.co "_law_product" "_law_product" 603 228 3 316 317 .none .none 318 606 607),
 Hd.k 320 (Hd.fq fb "_law_product" "_law_product" df 319),
 Hd.k 326 (Hd.co "_law_all_sums" "_law_all_sums" 609 230 3 321 322 (.ref 323) (.ref 324) 325 617 618),
 Hd.k 327 (Hd.fq ft "_law_all_sums" "_law_all_sums" df 326),
 Hd.k 331 (Hd.co "_law_listed" "_law_listed" 620 236 1 328 329 .none .none 330 623 624),
 Hd.k 332 (Hd.fq fE "_law_listed" "_law_listed" df 331),
 Hd.k 336 (Hd.co "law" "law" 626 238 1 333 334 .none .none 335 629 630),
 Hd.k 337 (Hd.fq jd "law" "law" df 336)]
noncomputable def KA:List Addr:=[3,20,21,27,28,34,35,41,42,48,49,55,56,62,63,67,68,72,73,79,80,84,85,89,90,94,95,99,100,104,105,111,112,118,119,125,126,130,131,142,143,149,150,156,157,163,164,168,169,175,176,182,183,185,186,196,197,203,204,210,211,217,218,224,225,231,232,238,239,245,246,252,253,259,260,266,267,271,272,278,279,285,286,290,291,297,298,302,303,307,308,314,315,319,320,326,327,331,332,336,337]
set_option maxHeartbeats 0 in
theorem left:PySem.W.LeftO PW (PySem.W.view PW [1,2,3,4,5,6,7,9,10,11,12,13,14,15,16,18,19,20,21,22,23,24,26,27,28,29,31,32,34,35,36,37,38,39,40,41,42,43,44,45,46,47,48]) [] (fun _=>true) (PySem.W.kmHook Row.KX Row.KA (fun _=>rfl) [166]).obs (PySem.W.kmHook Row.KX Row.KA (fun _=>rfl) [166]).val 3554:=
 Hd.left (by kernel_rfl) (fun s=>by kernel_rfl) rfl fun w os=>by kernel_rfl
end Row
namespace L3
open PySem PySem.Spec PyProof.Rows L2
section
variable {prog:Program}{w:World}{A:Around}{R:Result→Shared→Prop}{s:Shared}
theorem zP{elt target iter:Expr}{ifs:List Expr}{scope:Scope}{pos:Pos}{it acc:Value}{env:Env}(I:Nat→Shared→Prop)
 (turn:∀n s,I n s→wpAny (model prog w) A (pyNext it) (fun r s₁=>match r with
   |none=>R (.ok .next) s₁
   |some v=>wpAny (model prog w) A (letOwnedTupleGo target it v) (fun _ s₀=>wpAny (model prog w) A (assign target env v) (fun _ s₂=>
     wpAny (model prog w) A (forIn ifs true fun c r=>if r=true then do let ok ←isTrue c env (eval c env);pure (ForInStep.yield ok)else pure (ForInStep.yield r)) (fun ok s₃=>
      if ok=true then wpAny (model prog w) A (eval elt env) (fun x s₄=>
       wpAny (model prog w) A (call (.builtin "list.append") [acc,x]) (fun _ s₅=>∃m,m<n∧I m s₅) (fun _ _=>False) s₄) (fun _ _=>False) s₃
      else∃m,m<n∧I m s₃) (fun _ _=>False) s₂) (fun _ _=>False) s₀) (fun _ _=>False) s₁) (fun _ _=>False) s)
 (n:Nat) (h:I n s):
 codeAny (model prog w) A (.compLoop (.ListComp elt [⟨target,iter,ifs,0⟩] scope pos) 0 it acc env) R s:=by
 refine codeAny_loop rfl I (fun n s hI=>?_) n h
 show wpAny _ A ((compTurn (.ListComp elt [⟨target,iter,ifs,0⟩] scope pos) 0 it acc env).onRaise (fun x=>do noteFrame x env;theTreesLotGoes x)) _ _ s
 refine wpAny_noted ?_
 rw[compTurn_list]
 refine wpAny_bind (wpAny_standAt (wpAny_bind (wpAny_mono (turn n s hI) (fun r s₁ h₁=>?_) fun _ _ h'=>h'.elim)))
 cases r with
 |none=>exact wpAny_pure h₁
 |some v=>
  refine wpAny_bind (wpAny_mono h₁ (fun _ s₀ h₀=>?_) fun _ _ h'=>h'.elim)
  refine wpAny_bind (wpAny_mono h₀ (fun _ s₂ h₂=>wpAny_bind (wpAny_mono h₂ (fun ok s₃ h₃=>?_) fun _ _ h'=>h'.elim)) fun _ _ h'=>h'.elim)
  cases ok with
  |false=>exact wpAny_pure ⟨rfl,h₃⟩
  |true=>
   exact wpAny_bind (wpAny_bind (wpAny_mono h₃ (fun x s₄ h₄=>wpAny_bind (wpAny_mono h₄ (fun _ s₅ h₅=>wpAny_pure (wpAny_pure ⟨rfl,h₅⟩)) fun _ _ h'=>h'.elim)) fun _ _ h'=>h'.elim))
end
noncomputable def c9(cells:List (Str×Addr)):List (Str×NameKind)→List (Str×Addr)→List (Str×Addr)
 | [],acc=>acc
 |(n,k)::r,acc=>if k== .free then(match cells.lookup n with|some c=>c9 cells r ((n,c)::acc)|none=>c9 cells r acc)else c9 cells r acc
theorem cP{cells:List (Str×Addr)}:∀(names:List (Str×NameKind)) (acc:List (Str×Addr)),(∀x c,acc.lookup x=some c→cells.lookup x=some c)→
 ∀x c,(c9 cells names acc).lookup x=some c→cells.lookup x=some c
 | [],acc,h,x,c,e=>h x c e
 |(n,k)::r,acc,h,x,c,e=>by
  unfold c9 at e
  split at e
  · split at e
    · rename_i d q
      refine cP r _ (fun y b e'=>?_) x c e
      rw[List.lookup_cons]at e'
      split at e'
      · rename_i z
        cases e'
        have z':y=n:=by simpa using z
        rw[z'];exact q
      · exact h y b e'
    · exact cP r _ h x c e
  · exact cP r _ h x c e
theorem iA{cells:List (Str×Addr)}{x:Str}:∀(names:List (Str×NameKind)) (acc:List (Str×Addr)),(∃c,cells.lookup x=some c)→((x,NameKind.free)∈names∨∃c,acc.lookup x=some c)→
 ∃c,(c9 cells names acc).lookup x=some c
 | [],acc,_,h=>by
   rcases h with h|h
   · simp at h
   · exact h
 |(n,k)::r,acc,hc,h=>by
  unfold c9
  split
  · rename_i hk
    split
    · rename_i d q
      refine iA r _ hc ?_
      rcases h with h|⟨c,h⟩
      · rcases List.mem_cons.mp h with e|e
        · cases e
          exact .inr ⟨d,by simp[List.lookup_cons]⟩
        · exact .inl e
      · refine .inr ?_
        rw[List.lookup_cons]
        split
        · exact⟨_,rfl⟩
        · exact⟨c,h⟩
    · rename_i q
      refine iA r _ hc ?_
      rcases h with h|h
      · rcases List.mem_cons.mp h with e|e
        · cases e
          obtain⟨c,hc⟩:=hc
          rw[hc]at q;cases q
        · exact .inl e
      · exact .inr h
  · rename_i hk
    refine iA r _ hc ?_
    rcases h with h|h
    · rcases List.mem_cons.mp h with e|e
      · cases e
        exact absurd rfl hk
      · exact .inl e
    · exact .inr h
theorem l_{scope:Scope}{env:Env}(h:∀x∈scope.names,x.2= .free→∃c,env.cells.lookup x.1=some c):closureFor scope env=pure (c9 env.cells scope.names []):=by
 have key:∀(names:List (Str×NameKind)) (acc:List (Str×Addr)),(∀x∈names,x.2= .free→∃c,env.cells.lookup x.1=some c)→
  (forIn names acc (fun(x:Str×NameKind) (cs:List (Str×Addr))=>if(x.2==NameKind.free)=true then(do let a ←cellOf env x.1;pure (ForInStep.yield ((x.1,a)::cs)):Sem (ForInStep (List (Str×Addr))))else pure (ForInStep.yield cs)))=(pure (c9 env.cells names acc):Sem (List (Str×Addr))):=by
  intro names
  induction names with
  |nil=>intro acc _;rfl
  |cons p r ih=>
   intro acc hh
   obtain⟨n,k⟩:=p
   rw[List.forIn_cons]
   have ih':=ih
   by_cases hk:(k==NameKind.free)=true
   · obtain⟨c,e⟩:=hh (n,k) List.mem_cons_self (by simpa using hk)
     simp only[hk,if_true]
     have e1:cellOf env n=pure c:=by
      unfold cellOf
      rw[e]
     rw[e1]
     simp only[pure_bind]
     rw[ih _ fun x hx=>hh x (List.mem_cons_of_mem _ hx)]
     conv=>rhs;unfold c9
     simp only[hk,if_true]
     rw[show env.cells.lookup n=some c from e]
   · have hk':(k==NameKind.free)=false:=by simpa using hk
     simp only[hk',Bool.false_eq_true,if_false,pure_bind]
     rw[ih _ fun x hx=>hh x (List.mem_cons_of_mem _ hx)]
     conv=>rhs;unfold c9
     simp only[hk',Bool.false_eq_true,if_false]
 unfold closureFor
 have:=key scope.names [] h
 rw[bind_pure]
 first
  |exact this
  |(simp only[bind_pure]at this⊢;exact this)
end L3
namespace L3
open PySem PySem.Spec L2
open PyProof.Rows hiding St
theorem iR(env:Env):∀(names:List (Str×NameKind)) (x:Str),
 (names.map fun(n,k)=>if(k==NameKind.free&&env.scope.kind== .function&&env.kindOf n==some .cell)then(n,NameKind.cell)else(n,k)).lookup x=
   (names.lookup x).map fun k=>if(k==NameKind.free&&env.scope.kind== .function&&env.kindOf x==some .cell)then NameKind.cell else k
 | [],_=>rfl
 |(n,k)::r,x=>by
  show List.lookup x ((if(k==NameKind.free&&env.scope.kind== .function&&env.kindOf n==some .cell)=true then(n,NameKind.cell)else(n,k))::_)=_
  cases hx:x==n with
  |true=>
   have e:x=n:=by simpa using hx
   subst e
   by_cases hc:(k==NameKind.free&&env.scope.kind== .function&&env.kindOf x==some .cell)=true
   · rw[if_pos hc];simp only[List.lookup_cons,beq_self_eq_true,Option.map_some];rw[if_pos hc]
   · rw[if_neg hc];simp only[List.lookup_cons,beq_self_eq_true,Option.map_some];rw[if_neg hc]
  |false=>
   by_cases hc:(k==NameKind.free&&env.scope.kind== .function&&env.kindOf n==some .cell)=true
   · rw[if_pos hc];simp only[List.lookup_cons,hx];exact iR env r x
   · rw[if_neg hc];simp only[List.lookup_cons,hx];exact iR env r x
theorem yW{env:Env}{scope:Scope}{x:Str}(h:scope.names.lookup x=some .free):(relabel scope env).names.lookup x=some .cell∨(relabel scope env).names.lookup x=some .free:=by
 have e:(relabel scope env).names.lookup x=_:=iR env scope.names x
 rw[e,h]
 simp only[Option.map_some]
 split
 · exact .inl rfl
 · exact .inr rfl
theorem zG{env:Env}{scope:Scope}{x:Str}(h:(relabel scope env).names.lookup x=some .cell∨(relabel scope env).names.lookup x=some .free):(x,NameKind.free)∈scope.names∨scope.names.lookup x=some .cell:=by
 have e:(relabel scope env).names.lookup x=_:=iR env scope.names x
 rw[e]at h
 cases q:scope.names.lookup x with
 |none=>rw[q]at h;rcases h with h|h<;>cases h
 |some k=>
  rw[q]at h
  simp only[Option.map_some]at h
  have m:=PySem.mem_of_lookup q
  by_cases hc:(k==NameKind.free&&env.scope.kind== .function&&env.kindOf x==some .cell)=true
  · have:k= .free:=by
     simp only[Bool.and_eq_true]at hc
     simpa using hc.1.1
    subst this;exact .inl m
  · rw[if_neg hc]at h
    rcases h with h|h
    · cases h;exact .inr rfl
    · cases h;exact .inl m
theorem fR:∀(names:List (Str×NameKind)) (L:Nat) (acc:List (Str×Addr)),cellsFrom L names acc=cellsFrom L names []++acc
 | [],_,_=>rfl
 |(n,k)::r,L,acc=>by
  unfold cellsFrom
  by_cases hk:(k==NameKind.cell)=true
  · rw[if_pos hk,if_pos hk,fR r (L+1) ((n,L)::acc),fR r (L+1) [(n,L)],List.append_assoc];rfl
  · rw[if_neg hk,if_neg hk];exact fR r L acc
theorem qM:∀ {names:List (Str×NameKind)} {L:Nat} {x:Str} {c:Addr},(x,c)∈cellsFrom L names []→(x,NameKind.cell)∈names
 | [],_,_,_,h=>by unfold cellsFrom at h;cases h
 |(n,k)::r,L,x,c,h=>by
  unfold cellsFrom at h
  by_cases hk:(k==NameKind.cell)=true
  · rw[if_pos hk,fR]at h
    have hk':k= .cell:=by simpa using hk
    subst hk'
    rcases List.mem_append.mp h with h|h
    · exact List.mem_cons_of_mem _ (qM h)
    · have:(x,c)=(n,L):=by simpa using h
      cases this
      exact List.mem_cons_self
  · rw[if_neg hk]at h
    exact List.mem_cons_of_mem _ (qM h)
theorem p8:∀ {l1 l2:List (Str×Addr)} {x:Str} {c:Addr},(l1++l2).lookup x=some c→l1.lookup x=some c∨(l1.lookup x=none∧l2.lookup x=some c)
 | [],_,_,_,h=> .inr ⟨rfl,h⟩
 |(n,d)::l1,l2,x,c,h=>by
  rw[List.cons_append,List.lookup_cons]at h
  rw[List.lookup_cons]
  cases hx:x==n with
  |true=>rw[hx]at h;exact .inl h
  |false=>rw[hx]at h;exact p8 h
theorem tm:∀ {l1 l2:List (Str×Addr)} {x:Str},l1.lookup x=none→(l1++l2).lookup x=l2.lookup x
 | [],_,_,_=>rfl
 |(n,d)::l1,l2,x,h=>by
  rw[List.lookup_cons]at h
  rw[List.cons_append,List.lookup_cons]
  cases hx:x==n with
  |true=>rw[hx]at h;cases h
  |false=>rw[hx]at h;exact tm h
noncomputable def lz(scope:Scope)(C:Addr)(cl:List (Str×Addr)):List (Str×Addr):=cellsFrom (C+1) scope.names cl
theorem iC{scope:Scope}{C:Addr}{cl:List (Str×Addr)}{x:Str}{c:Addr}(h:(lz scope C cl).lookup x=some c):(x,c)∈cellsFrom (C+1) scope.names []∨cl.lookup x=some c:=by
 unfold lz at h
 rw[fR]at h
 rcases p8 h with h|h
 · exact .inl (PySem.mem_of_lookup h)
 · exact .inr h.2
theorem Kg(names:List (Str×NameKind))(h:Heap){C:Addr}(e:h.objs.size=C+1):CellsOk (pushCells h names) (C+1) (cellsFrom (C+1) names []):=by
 have:=cellsFrom_ok names h (C+1) [] ⟨fun _ _ hm=>(nomatch hm),List.Pairwise.nil⟩ (by rw[e];exact Nat.le_refl _)
 rw[e]at this
 exact this
theorem ny{names:List (Str×NameKind)}{C:Addr}{x:Str}{c:Addr}:∀ {L:Nat},C≤L→(x,c)∈cellsFrom L names []→C≤c:=by
 induction names with
 |nil=>intro L _ h;unfold cellsFrom at h;cases h
 |cons p r ih=>
  obtain⟨n,k⟩:=p
  intro L hL h
  unfold cellsFrom at h
  by_cases hk:(k==NameKind.cell)=true
  · rw[if_pos hk,fR]at h
    rcases List.mem_append.mp h with h|h
    · exact ih (Nat.le_trans hL (Nat.le_succ L)) h
    · have:(x,c)=(n,L):=by simpa using h
      cases this
      exact hL
  · rw[if_neg hk]at h
    exact ih hL h
theorem own_apart{names:List (Str×NameKind)}{x y:Str}{c:Addr}:∀ {L:Nat},(x,c)∈cellsFrom L names []→(y,c)∈cellsFrom L names []→x=y:=by
 induction names with
 |nil=>intro L h;unfold cellsFrom at h;cases h
 |cons p r ih=>
  obtain⟨n,k⟩:=p
  intro L h1 h2
  unfold cellsFrom at h1 h2
  by_cases hk:(k==NameKind.cell)=true
  · rw[if_pos hk,fR]at h1 h2
    rcases List.mem_append.mp h1 with g1|g1<;>rcases List.mem_append.mp h2 with g2|g2
    · exact ih g1 g2
    · have e2:(y,c)=(n,L):=by simpa using g2
      have ec:c=L:=(Prod.mk.inj e2).2
      have:=ny (C:=L+1) (Nat.le_refl _) g1
      rw[ec]at this
      exact absurd this (Nat.not_succ_le_self _)
    · have e1:(x,c)=(n,L):=by simpa using g1
      have ec:c=L:=(Prod.mk.inj e1).2
      have:=ny (C:=L+1) (Nat.le_refl _) g2
      rw[ec]at this
      exact absurd this (Nat.not_succ_le_self _)
    · have e1:(x,c)=(n,L):=by simpa using g1
      have e2:(y,c)=(n,L):=by simpa using g2
      exact(Prod.mk.inj e1).1.trans (Prod.mk.inj e2).1.symm
  · rw[if_neg hk]at h1 h2
    exact ih h1 h2
theorem tE{M:Model}{A:Around}{E:Value→Shared→Prop}{s:Shared}{scope:Scope}{globals:Addr}{cl:List (Str×Addr)}{qual:Str}{env:Env}{Q:Env→Shared→Prop}
 (hQ:Q (newEnv scope s.heap.objs.size globals (lz scope s.heap.objs.size cl) qual none .none (some env) builtinsNs) {s with heap:=pushCells (s.heap.push {cls:= .type "dict",data:= .dict #[]}) scope.names}):
 wpAny M A (newFunctionEnv scope globals cl [] qual none .none (some env)) Q E s:=by
 simp only[newFunctionEnv,Option.isSome_some,if_true]
 refine wpAny_bind (wpAny_alloc ?_)
 refine wpAny_bind (wpAny_layCells _ (fun name kind cells=>by cases hkc:kind==NameKind.cell<;>simp[hkc]) _ _ _ _ ?_)
 rw[show({s with heap:=s.heap.push {cls:= .type "dict",data:= .dict #[]}}:Shared).heap.objs.size=s.heap.objs.size+1 from Heap.size_push ..]
 rw[List.forIn_nil]
 exact wpAny_bind (wpAny_pure (wpAny_pure hQ))
structure bz(X:Cx)(scope:Scope)(Nc:List Str)(fr:List (Option Nat)):Prop where
 kind:scope.kind= .function
 cells:∀x∈scope.names,x.2= .cell→scope.names.lookup x.1=some .cell
 names:∀x∈scope.names,x.2= .local→scope.names.lookup x.1=some .local
 free:∀x∈scope.names,x.2= .free→X.env.kindOf x.1=some .cell∨X.env.kindOf x.1=some .free
 len:fr.length=Nc.length
 map:∀(i j:Nat) (x:Str),Nc[i]?=some x→fr[i]?=some (some j)→X.N[j]?=some x∧scope.names.lookup x=some .free∧(X.env.kindOf x=some .cell∨X.env.kindOf x=some .free)
noncomputable def σC(fr:List (Option Nat))(σ:St):St:=fr.map fun o=>o.bind fun j=>(σ[j]?).join
noncomputable def fB(X:Cx)(scope:Scope)(Nc:List Str)(C:Addr)(s:Shared)(H:Hp)(ex:List Addr):Cx:=
 {X with N:=Nc,s₀:=s,H₀:=H,env:=compEnvC scope (lz scope C (c9 X.env.cells scope.names [])) C X.env,outer:=X.stack,stack:=X.stack,ex:=ex,fn:=fun x=>scope.names.lookup x==some .cell,pn:=[],xe:=fun _ _=>False}
noncomputable def uw(wi:TI)(fr:List (Option Nat))(g:TG)(c:TT)(te:TE):TE:=fun σ H Q=>wi σ H fun J H1=>∀l,H1 l=none→
 ∃W:Nat→Nat→L2.St→Hp→Prop,(∃m,W 0 m (σC fr σ) (upd H1 l (.lst [])))∧∀i m σ H,W i m σ H→
  (J.stop i H∧Q (.ref l) H)∨(J.go i H∧∃N:L2.St→Hp→Prop,(∀σ' H',N σ' H'→∃m',m'<m∧W (i+1) m' σ' H')∧∀x H',J.og i H x H'→
    g x σ H' fun σ2 H2=>c σ2 H2 fun b H3=>if b=true then te σ2 H3 fun y H4=>∃ys,H4 l=some (.lst ys)∧ys.length<sizeLine∧N σ2 (upd H4 l (.lst (ys++[y])))else N σ2 H3)
noncomputable def rE(X:Cx)(ifs:List Expr)(t:TT):Prop:=
 ∀(pins:List (Addr×Obj)) (s:Shared) (σ:St) (H:Hp) (Q:Bool→Hp→Prop),Inv X pins σ H s→t σ H Q→
  wpAny (model X.prog X.w) X.A (forIn ifs true fun c r=>if r=true then do let ok ←isTrue c X.env (eval c X.env);pure (ForInStep.yield ok)else pure (ForInStep.yield r)) (TP X pins σ Q) X.xe s
noncomputable def Mf:TT:=fun _ H Q=>Q true H
theorem HD{X:Cx}:rE X [] Mf:=fun _ _ _ H _ I h=>wpAny_tests_nil ⟨H,I,h⟩
theorem Im{X:Cx}{c:Expr}{t:TT}(h:PT X c t):rE X [c] t:=fun pins s σ H Q I q=>wpAny_tests_one (h pins s σ H Q I q)
section
variable {X:Cx}{scope:Scope}{Nc:List Str}{fr:List (Option Nat)}{pins:List (Addr×Obj)}{σ:St}{H:Hp}{s:Shared}
theorem J4{C:Addr}{fp:List Addr}(S:bz X scope Nc fr)(I:Inv X pins σ H s)(hC:C=s.heap.objs.size)(hf:∀b∈fp,kj X pins H b)(hlt:∀b∈fp,b<s.heap.objs.size)(hnc:∀b∈fp,∀x c,X.env.cells.lookup x=some c→c≠b):
 (fB X scope Nc C s H fp).Ok where
 mod:=I.ok.mod
 kind:=S.kind
 glob:=I.ok.glob
 blt:=I.ok.blt
 above:=Nat.le_of_eq hC.symm
 inj:=fun x y c h1 h2=>by
  have low:∀ {z},(c9 X.env.cells scope.names []).lookup z=some c→c<s.heap.objs.size:=fun{z} hz=>by
   obtain⟨v,q⟩:=I.cell z c (cP _ [] (fun _ _ e=>by cases e) z c hz)
   exact q.lt
  rcases iC h1 with h1|h1<;>rcases iC h2 with h2|h2
  · exact own_apart h1 h2
  · have a:=ny (C:=C+1) (Nat.le_refl _) h1
    have b:c<C:=by rw[hC];exact low h2
    exact absurd a (Nat.not_le_of_gt (Nat.lt_succ_of_lt b))
  · have a:=ny (C:=C+1) (Nat.le_refl _) h2
    have b:c<C:=by rw[hC];exact low h1
    exact absurd a (Nat.not_le_of_gt (Nat.lt_succ_of_lt b))
  · exact I.ok.inj x y c (cP _ [] (fun _ _ e=>by cases e) x c h1) (cP _ [] (fun _ _ e=>by cases e) y c h2)
 has:=fun x hx=>by
  rcases zG hx with m|m
  · obtain⟨c,e⟩:=iA scope.names [] (I.ok.has x (S.free _ m rfl)) (.inl m)
    exact Option.isSome_iff_exists.mp (PySem.W.cellsFrom_some _ _ _ (.inr (by rw[e];rfl)))
  · exact Option.isSome_iff_exists.mp (PySem.W.cellsFrom_some _ _ _ (.inl m))
 ym:=fun x c hf h=>by
  have hl:scope.names.lookup x=some .cell:=by
   have:(scope.names.lookup x==some .cell)=true:=hf
   simpa using this
  obtain⟨c',e⟩:=Option.isSome_iff_exists.mp (PySem.W.cellsFrom_some (x:=x) scope.names (C+1) [] (.inl hl))
  have h':(cellsFrom (C+1) scope.names []++c9 X.env.cells scope.names []).lookup x=some c:=by
   rw[←fR];exact h
  rcases p8 h' with q|q
  · have:=ny (C:=C+1) (Nat.le_refl _) (PySem.mem_of_lookup q)
    show s.heap.objs.size≤c
    rw[←hC];exact Nat.le_of_succ_le this
  · rw[q.1]at e;cases e
 hd:=I.ok.hd
 frames:=I.ok.frames
 Ah:= .inl rfl
 D7:=fun b hb=>⟨by rw[show(fB X scope Nc C s H fp).env.locals=s.heap.objs.size from hC];exact Nat.ne_of_lt (hlt b hb),fun x c h=>by
  rcases iC h with h|h
  · have a:=ny (C:=C+1) (Nat.le_refl _) h
    have b':b<C:=by rw[hC];exact hlt b hb
    exact Nat.ne_of_gt (Nat.lt_of_lt_of_le b' (Nat.le_of_succ_le a))
  · exact hnc b hb x c (cP _ [] (fun _ _ e=>by cases e) x c h)⟩
 bs:=I.bs
 qD:=Nat.le_trans I.ok.qD I.sz
 tL:=fun b o e hb=>by
  have hn:=(hf b hb).2.2.2.1
  rcases hn with hn|hn
  · exact I.ok.tL b o e hn
  · exact absurd (Heap.lt_size (I.ok.bs b o e).1) (Nat.not_lt.mpr hn)
 tU:=fun b hb z=>by
  have q:=I.yr b z
  rcases List.mem_cons.mp q with q|q
  · exact(hf b hb).2.1 q
  · exact(hf b hb).2.2.1 q
 ka:=I.stack
 uU:=fun b hb=>I.vT b hb
 gt:=I.ok.gt
theorem Aq{i:Nat}{v:V}(h:(σC fr σ)[i]?=some (some v)):∃j,fr[i]?=some (some j)∧σ[j]?=some (some v):=by
 unfold σC at h
 rw[List.getElem?_map]at h
 cases q:fr[i]? with
 |none=>rw[q]at h;cases h
 |some o=>
  rw[q]at h
  cases o with
  |none=>simp at h
  |some j=>
   simp only[Option.map_some,Option.some.injEq,Option.bind_some]at h
   refine⟨j,rfl,?_⟩
   cases r:σ[j]? with
   |none=>rw[r]at h;cases h
   |some u=>rw[r]at h;simp at h;rw[h]
theorem Et{s':Shared}{h':Heap}{C:Addr}{fp:List Addr}{t':Nat}(S:bz X scope Nc fr)(I:Inv X pins σ H s)(hC:C=s.heap.objs.size)(ok:(fB X scope Nc C s H fp).Ok)(hfr:∀b∈fp,H b=none)
 (k:∀b o,s.heap.get? b=some o→h'.get? b=some o) (hn:h'.Ns C (fun _=>none)) (hcs:∀x c,(x,c)∈cellsFrom (C+1) scope.names []→h'.IsCell c none):Inv (fB X scope Nc C s H fp) [] (σC fr σ) H {s with heap:=h',toks:=t'} where
 ok:=ok
 os:=rfl
 bare:=I.bare
 base:=Un.kept k
 loc:=⟨_,hn,fun i x v h1 h2 h3=>by
  obtain⟨j,q1,q2⟩:=Aq h2
  obtain⟨n1,n2,n3⟩:=S.map i j x h1 q1
  obtain⟨m,hm,hl⟩:=I.loc
  have vis:yT X.env.scope x:=by
   rcases n3 with z|z
   · exact .inr (.inl z)
   · exact .inr (.inr z)
  obtain⟨u,r,lk⟩:=hl j x v n1 q2 vis
  refine⟨u,r,?_⟩
  rcases lk with⟨z,_⟩|⟨z,c,e,ic⟩
  · rcases n3 with y|y
    · rw[y]at z;cases z
    · rw[y]at z;cases z
  · refine .inr ⟨yW n2,?_⟩
    obtain⟨c',e'⟩:=iA scope.names [] ⟨c,e⟩ (.inl (PySem.mem_of_lookup n2))
    have e2:=cP _ [] (fun _ _ e=>by cases e) x c' e'
    rw[e]at e2;cases e2
    refine⟨c,?_,ic.keeps k⟩
    show(lz scope C (c9 X.env.cells scope.names [])).lookup x=some c
    unfold lz
    rw[fR,tm ?_]
    · exact e'
    · cases q:(cellsFrom (C+1) scope.names []).lookup x with
      |none=>rfl
      |some c2=>
       have:=S.cells _ (qM (PySem.mem_of_lookup q)) rfl
       rw[n2]at this;cases this⟩
 cell:=fun x c h=>by
  rcases iC h with h|h
  · exact⟨_,hcs x c h⟩
  obtain⟨v,q⟩:=I.cell x c (cP _ [] (fun _ _ e=>by cases e) x c h)
  exact⟨v,q.keeps k⟩
 free:=by show H C=none;rw[hC];exact I.aN.fresh (Nat.le_refl _)
 hZ:=fun x c h=>by
  rcases iC h with h|h
  · have a:=ny (C:=C+1) (Nat.le_refl _) h
    exact I.aN.fresh (by rw[←hC];exact Nat.le_of_succ_le a)
  · exact I.hZ x c (cP _ [] (fun _ _ e=>by cases e) x c h)
 pin:=fun p hp=>by cases hp
 aN:=I.aN.kept k
 len:=by unfold σC;rw[List.length_map];exact S.len
theorem Inv.forget{C:Addr}{h':Heap}(I:Inv X pins σ H s)(f:kj X pins H C)(hs:Heap.SameBut C s.heap h'):Inv X pins σ H {s with heap:=h'}:=by
 refine I.Cg (s':={s with heap:=h'}) (ch:=[C]) rfl ?_ ?_ I.bare fun b hb=>?_
 · have ne:∀b,b∉[C]→b≠C:=fun b hb z=>hb (by simp[z])
   exact{keep:=fun b o q _ _ hx=>(hs.2 b (ne b hx)).trans q,slot:=fun b o q _ _ hx=>⟨o.slots,(hs.2 b (ne b hx)).trans q⟩,free:=fun b o q n _=>n,there:=fun b o q hx=>⟨o,(hs.2 b (ne b hx)).trans q⟩,oO:=fun _ _ e=>e,nA:=fun _ _ _ e=>e,nO:=fun b ps e=>⟨#[],by rw[e];simp⟩}
 · intro a o q
   have na:∀b u,H b=some u→b≠C:=fun b u q z=>by rw[z,f.1]at q;cases q
   refine(I.aN a o q).oN (fun b u hb e=>?_) (fun _ q=>q) fun _ _ q=>q
   rw[hs.2 b ?_]
   · exact e
   · rcases hb with rfl|hb
     · exact na _ _ q
     · exact na _ _ hb
 · have:b=C:=by simpa using hb
   subst this
   exact⟨f.2.2.2.1,f.2.1,f.2.2.2.2.1,f.2.2.2.2.2⟩
theorem u_{elt tg iter:Expr}{ifs:List Expr}{wi:TI}{g:TG}{c:TT}{te:TE}{pos:Pos}{Q:VK}{RR:Value→Addr→Result→Shared→Prop}(hx:X.xe=fun _ _=>False)(hc:X.calm=true)(S:bz X scope Nc fr)(hi:PI X tg iter wi)
 (hg:∀C s H ex,PG (fB X scope Nc C s H ex) tg g) (ht:∀C s H ex,rE (fB X scope Nc C s H ex) ifs c) (he:∀C s H ex,PE (fB X scope Nc C s H ex) elt te) (I:Inv X pins σ H s) (h:uw wi fr g c te σ H Q)
 (fin:∀(l C:Addr) (s6:Shared) (H5:Hp) (m:Str→Option Value),s6.heap.Ns C m→kj X pins H5 C→Inv X pins σ H5 s6→Q (.ref l) H5→RR (.ref l) C (.ok .next) s6):
 wpAny (model X.prog X.w) X.A (eval iter X.env) (fun x s₁=>wpAny (model X.prog X.w) X.A (pyIter x) (fun it s₂=>wpAny (model X.prog X.w) X.A (newList []) (fun acc s₃=>
  wpAny (model X.prog X.w) X.A (newFunctionEnv scope X.env.globals (c9 X.env.cells scope.names []) [] X.env.qual none .none (some X.env)) (fun cenv s₄=>
   codeAny (model X.prog X.w) X.A (.compStart (.ListComp elt [⟨tg,iter,ifs,0⟩] scope pos) 0 it acc {cenv with scope:=relabel scope X.env}) (RR acc cenv.locals) s₄) X.xe s₃) X.xe s₂) X.xe s₁) X.xe s:=by
 refine bR (hi pins s σ H _ I h) fun v s1 h1=>bR h1 fun itv s2 h2=>?_
 obtain⟨it,fp,tn,J,H2,e,I2,T,st2,f2,hR⟩:=h2
 subst e
 refine wpAny_newList ?_ (Nat.zero_le _)
 have I3:=I2.E6 (t':=s2.toks) (its:=[]) (ys:=[]) .nil (Nat.zero_le _)
 generalize e3:({s2 with heap:=s2.heap.push {cls:= .type "list",data:= .seq ([]:List Value).toArray}}:Shared)=s3
 have I3:Inv X pins σ (upd H2 s2.heap.objs.size (.lst [])) s3:=by rw[←e3];exact I3
 have ml:s2.heap.objs.size<s3.heap.objs.size:=by rw[←e3];show _<(s2.heap.push _).objs.size;rw[Heap.size_push];omega
 have k3:∀b o,s2.heap.get? b=some o→s3.heap.get? b=some o:=fun b o q=>by rw[←e3];exact Heap.get?_push_of_some _ q
 obtain⟨W,⟨m0,w0⟩,turn⟩:=hR s2.heap.objs.size (I2.aN.fresh (Nat.le_refl _))
 refine tE ?_
 have hn:(pushCells (s3.heap.push {cls:= .type "dict",data:= .dict #[]}) scope.names).Ns s3.heap.objs.size (fun _=>none):=(Heap.Ns.new s3.heap (.type "dict")).keeps (pushCells_keeps _ _)
 have hcs:∀x c,(x,c)∈cellsFrom (s3.heap.objs.size+1) scope.names []→(pushCells (s3.heap.push {cls:= .type "dict",data:= .dict #[]}) scope.names).IsCell c none:=fun x c h=>((Kg scope.names _ (Heap.size_push ..)).empty x c h).1
 have k4:∀b o,s3.heap.get? b=some o→(pushCells (s3.heap.push {cls:= .type "dict",data:= .dict #[]}) scope.names).get? b=some o:=fun b o q=>pushCells_keeps _ _ b o (Heap.get?_push_of_some _ q)
 generalize(pushCells (s3.heap.push {cls:= .type "dict",data:= .dict #[]}) scope.names)=h' at hn hcs k4⊢
 have hobj:∀b∈fp,∃o,s2.heap.get? b=some o∧∀v,o.data≠ .cell v:=T.obj _ _ st2
 have hlt2:∀b∈fp,b<s3.heap.objs.size:=fun b hb=>let⟨o,q,_⟩:=hobj b hb;Heap.lt_size (k3 b o q)
 have hnl:∀b∈fp,b≠s2.heap.objs.size:=fun b hb=>by
  obtain⟨o,q,_⟩:=hobj b hb
  exact Nat.ne_of_lt (Heap.lt_size q)
 have f3:∀b∈fp,kj X pins (upd H2 s2.heap.objs.size (.lst [])) b:=fun b hb=>⟨by rw[az (hnl b hb)];exact(f2 b hb).1,(f2 b hb).2⟩
 have ok:=J4 (C:=s3.heap.objs.size) (fp:=fp) S I3 rfl f3 hlt2 fun b hb=>(f2 b hb).2.2.2.2.1
 have I4:Inv (fB X scope Nc s3.heap.objs.size s3 (upd H2 s2.heap.objs.size (.lst [])) fp) [] (σC fr σ) (upd H2 s2.heap.objs.size (.lst [])) {s3 with heap:=h',toks:=s3.toks}:=
  Et (s':=s3) S I3 rfl ok (fun b hb=>(f3 b hb).1) k4 hn hcs
 have st4:tn 0 h':=T.keep _ _ _ st2 fun b _ o q=>k4 b o (k3 b o q)
 generalize hXc:fB X scope Nc s3.heap.objs.size s3 (upd H2 s2.heap.objs.size (.lst [])) fp=Xc at I4
 have hgc:PG Xc tg g:=by rw[←hXc];exact hg _ _ _ _
 have htc:rE Xc ifs c:=by rw[←hXc];exact ht _ _ _ _
 have hec:PE Xc elt te:=by rw[←hXc];exact he _ _ _ _
 have xP:Xc.prog=X.prog:=by rw[←hXc];rfl
 have xW:Xc.w=X.w:=by rw[←hXc];rfl
 have xK:Xc.K=X.K:=by rw[←hXc];rfl
 have xc:Xc.calm=true:=by rw[←hXc];exact hc
 have xA:Xc.A=X.A:=by rw[←hXc];rfl
 have xE:Xc.env=compEnvC scope (lz scope s3.heap.objs.size (c9 X.env.cells scope.names [])) s3.heap.objs.size X.env:=by rw[←hXc];rfl
 have xx:Xc.xe=fun _ _=>False:=by rw[←hXc];rfl
 have fpc:∀ {H':Hp},(∀b∈fp,H' b=none)→∀b∈fp,kj Xc [] H' b:=fun{H'} hn b hb=>by
  rw[←hXc]
  refine⟨hn b hb,Nat.ne_of_lt (hlt2 b hb),ok.tU b hb,.inl hb,(ok.D7 b hb).2,fun p hp=>by cases hp⟩
 have loop:codeAny (model X.prog X.w) X.A (.compLoop (.ListComp elt [⟨tg,iter,ifs,0⟩] scope pos) 0 (.ref it) (.ref s2.heap.objs.size) (compEnvC scope (lz scope s3.heap.objs.size (c9 X.env.cells scope.names [])) s3.heap.objs.size X.env))
  (RR (.ref s2.heap.objs.size) s3.heap.objs.size) {s3 with heap:=h',toks:=s3.toks}:=by
  refine zP (fun n s'=>∃i σ' H',Inv Xc [] σ' H' s'∧tn i s'.heap∧(∀b∈fp,H' b=none)∧W i n σ' H') ?_ m0 ⟨0,_,_,I4,st4,fun b hb=>(f3 b hb).1,w0⟩
  rintro n s5 ⟨i,σ5,H5,I5,st5,fr5,w5⟩
  rcases turn i n σ5 H5 w5 with⟨stop,qn⟩|⟨go,N,hN,step⟩
  · have q:=T.done Xc xP xW xK xc i [] s5 σ5 H5 (fun _ _=>False) I5 (fpc fr5) st5 stop
    rw[xA]at q
    refine bR q fun r s6 ⟨hr,I6⟩=>?_
    subst hr
    obtain⟨m,hm,_⟩:=I6.loc
    rw[xE]at hm
    have free6:H5 s3.heap.objs.size=none:=by have:=I6.free;rw[xE]at this;exact this
    have un6:Un (pC X.stack) fp (upd H2 s2.heap.objs.size (.lst [])) H5 s3.heap s6.heap:=by have:=I6.base;rw[←hXc]at this;exact this
    have os6:s6.os=s3.os:=by have:=I6.os;rw[←hXc]at this;exact this
    have hok6:gR X.prog X.w H5 s6.heap:=by have:=I6.aN;rw[xP,xW]at this;exact this
    have J:=I3.Cg (s':=s6) (ch:=fp) os6 un6 hok6 I6.bare fun b hb=>⟨(f3 b hb).2.2.2.1,(f3 b hb).2.1,(f3 b hb).2.2.2.2.1,(f3 b hb).2.2.2.2.2⟩
    exact fin _ _ s6 H5 m hm (I3.t6 (Nat.le_refl _) free6) J qn
  · have q:=T.item Xc xP xW xK xc i [] s5 σ5 H5 (fun _ _=>False) I5 (fpc fr5) st5 go
    rw[xA]at q
    refine bR q fun r s6 ⟨u,hr,h6⟩=>?_
    subst hr
    refine bR h6 fun _ s7 ⟨x,H7,I7,r7,y7,st7,fr7⟩=>?_
    have I7':=I7.pinned (fpc fr7) (T.obj _ _ st7)
    have q8:=hgc _ s7 σ5 H7 x u _ I7' r7 (step x H7 y7)
    rw[xP,xW,xA,xE,xx]at q8
    refine bR q8 fun _ s8 ⟨σ8,H8,I8,q8⟩=>?_
    have q9:=htc _ s8 σ8 H8 _ I8 q8
    rw[xP,xW,xA,xE,xx]at q9
    refine bR q9 fun b s9 ⟨H9,I9,q9⟩=>?_
    have again:∀ {H':Hp} {s':Shared},Inv Xc ([]++rM fp s7.heap) σ8 H' s'→N σ8 H'→∃m,m<n∧∃i σ' H',Inv Xc [] σ' H' s'∧tn i s'.heap∧(∀b∈fp,H' b=none)∧W i m σ' H':=fun{H' s'} J nn=>by
     obtain⟨m',hm,w7⟩:=hN σ8 H' nn
     refine⟨m',hm,i+1,σ8,H',J.gD,T.keep _ _ _ st7 fun b hb o e=>(J.pin (b,o) (List.mem_append_right _ (List.mem_append_right _ (mF hb e)))).1,fun b hb=>?_,w7⟩
     obtain⟨o,e,d⟩:=T.obj _ _ st7 b hb
     exact(J.pin (b,o) (List.mem_append_right _ (List.mem_append_right _ (mF hb e)))).2.1
    cases b with
    |false=>exact again I9 q9
    |true=>
     have qe:=hec _ s9 σ8 H9 _ I9 q9
     rw[xP,xW,xA,xE,xx]at qe
     refine bR qe fun y s10 ⟨vy,H10,I10,ry,ys,hy,hlt,qN⟩=>?_
     have qa:=wg (X:=Xc) _ s10 σ8 H10 (.ref s2.heap.objs.size) [vy] (.ref s2.heap.objs.size) [y] (fun _ H'=>N σ8 H') I10 rfl (.cons ry .nil) ⟨_,ys,vy,rfl,rfl,hy,hlt,qN⟩
     rw[xP,xW,xA,xx]at qa
     exact bR qa fun _ s11 ⟨_,H11,I11,_,q11⟩=>again I11 q11
 refine codeAny_compStart_list ?_ ?_
 · exact loop
 · exact T.self _ 0 _ _ _ st4 loop
theorem AF{elt tg iter:Expr}{ifs:List Expr}{wi:TI}{g:TG}{c:TT}{te:TE}{pos:Pos}(hx:X.xe=fun _ _=>False)(hc:X.calm=true)(S:bz X scope Nc fr)(hi:PI X tg iter wi)
 (hg:∀C s H ex,PG (fB X scope Nc C s H ex) tg g) (ht:∀C s H ex,rE (fB X scope Nc C s H ex) ifs c) (he:∀C s H ex,PE (fB X scope Nc C s H ex) elt te)
 (hs:∀x,foldedSetIterable iter X.env x=pure x:=by intro _;rfl):PE X (.ListComp elt [⟨tg,iter,ifs,0⟩] scope pos) (uw wi fr g c te):=by
 intro pins s σ H Q I h
 rw[eval_ListComp]
 have hcl:closureFor scope X.env=pure (c9 X.env.cells scope.names []):=l_ fun x hx hk=>I.ok.has x.1 (S.free x hx hk)
 refine wpAny_comprehension_free rfl hs hcl S.kind S.names ?_
 exact u_ (RR:=fun acc C=>compPost (model X.prog X.w) X.A X.xe none (EP X pins σ Q) acc C) hx hc S hi hg ht he I h fun l C s6 H5 m hm f J q=>⟨m,hm,fun h'' hs''=>⟨.ref l,H5,Inv.forget J f hs'',rfl,q⟩⟩
theorem ID{elt tg iter:Expr}{ifs:List Expr}{wi:TI}{g:TG}{c:TT}{te:TE}{pos pos' spos:Pos}{i:Nat}{x:Str}(hx:X.xe=fun _ _=>False)(hc:X.calm=true)(S:bz X scope Nc fr)(hi:PI X tg iter wi)
 (hg:∀C s H ex,PG (fB X scope Nc C s H ex) tg g) (ht:∀C s H ex,rE (fB X scope Nc C s H ex) ifs c) (he:∀C s H ex,PE (fB X scope Nc C s H ex) elt te) (hN:X.N.Nodup) (hni:X.N[i]?=some x) (hl:Loc X.env.scope x) (hf:X.fn x=true∨X.env.scope.names.lookup x=some .local)
 (hsw:swapsWith (.ListComp elt [⟨tg,iter,ifs,0⟩] scope pos) (some (.Name x pos')) spos.line X.env=pure true)
 (hs:∀x,foldedSetIterable iter X.env x=pure x:=by intro _;rfl):PS X (.Assign [.Name x pos'] (.ListComp elt [⟨tg,iter,ifs,0⟩] scope pos) spos) (oF (uw wi fr g c te) (mM i)):=by
 intro pins s σ H D I h
 have hcl:closureFor scope X.env=pure (c9 X.env.cells scope.names []):=l_ fun x hx hk=>I.ok.has x.1 (S.free x hx hk)
 rw[exec_Assign_Name_used _ _ _ _ hsw]
 refine wpAny_bind (wpAny_standAt (wpAny_bind ?_))
 show wpAny _ X.A (do let _ ←comprehension (.ListComp elt [⟨tg,iter,ifs,0⟩] scope pos) scope X.env _ (newList []) false (eval iter X.env) (some (assign (.Name x pos') X.env))) _ _ s
 refine wpAny_bind (wpAny_mono (wpAny_comprehension_free (use:=some (assign (.Name x pos') X.env)) (Q:=fun _ s'=>SP X pins D .next s') rfl hs hcl S.kind S.names
  (u_ (RR:=fun acc C=>compPost (model X.prog X.w) X.A X.xe (some (assign (.Name x pos') X.env)) (fun _ s'=>SP X pins D .next s') acc C) hx hc S hi hg ht he I h fun l C s6 H5 m hm f J q=>?_)) (fun _ s' hq=>wpAny_pure (wpAny_pure hq)) fun _ _ e=>e)
 show wpAny _ X.A (assign (.Name x pos') X.env (.ref l)) _ _ _
 refine wpAny_assign_Name (wN J hN hni hl (show RelV (.ref l) (.ref l)from rfl) (fun s7 J7 hch=>?_) hf)
 obtain⟨a,hsame,ha⟩:=hch
 have hCa:C≠a:=by
  rcases ha with rfl|ha
  · exact f.2.1
  · exact fun z=>f.2.2.2.2.1 x a ha z.symm
 refine⟨m,hm.sameBut hsame hCa,fun h'' hs''=>⟨σ.set i (some (.ref l)),H5,Inv.forget J7 f hs'',q⟩⟩
end
end L3
namespace L3
open PySem PySem.Spec L2
open PyProof.Rows hiding St
inductive D where
 |aK|bl (b:Bool)|int (i:Int)|str (x:Str)|ty (n:String)|ref (n:Nat)|lst (xs:List D)|tup (xs:List D)
inductive Cell where
 |lst (xs:List D)|ins (C:Addr) (fs:List (Str×D))|dead
  |tab (P:Addr) (pos:Pos) (qual:Str) (b:Bool)
noncomputable abbrev ag:=List Cell
noncomputable abbrev cj:=List (Option D)
mutual
noncomputable def Rep(α:List (Option Addr))(H:Hp):D→V→Prop
 | .aK,v=>v= .aK
 | .bl b,v=>v= .bl b
 | .int i,v=>v= .int i
 | .str x,v=>v= .str x
 | .ty n,v=>v= .ty n
 | .ref n,v=>α[n]?=some none∨∃a,α[n]?=some (some a)∧v= .ref a
 | .lst xs,v=>∃a vs,v= .ref a∧some a∉α∧Rd H a (.lst vs)∧aL α H xs vs
 | .tup xs,v=>∃a vs,v= .ref a∧some a∉α∧H a=some (.tup vs)∧aL α H xs vs
noncomputable def aL(α:List (Option Addr))(H:Hp):List D→List V→Prop
 | [],vs=>vs=[]
 |d::ds,vs=>∃v r,vs=v::r∧Rep α H d v∧aL α H ds r
end
theorem bh{α:List (Option Addr)}{H:Hp}:∀ {ds:List D} {vs:List V},aL α H ds vs↔Paired (Rep α H) ds vs
 | [],vs=>by
   unfold aL
   constructor
   · rintro rfl;exact .nil
   · intro h;cases h;rfl
 |d::ds,vs=>by
  unfold aL
  constructor
  · rintro⟨v,r,rfl,h1,h2⟩;exact .cons h1 (bh.mp h2)
  · intro h;cases h with|cons h1 h2=>exact⟨_,_,rfl,h1,bh.mpr h2⟩
section
variable {α:List (Option Addr)}{H:Hp}
theorem aL.length{ds:List D}{vs:List V}(h:aL α H ds vs):ds.length=vs.length:=Paired.length (bh.mp h)
theorem uu{A B:Type}{F:A→B→Prop}:∀ {xs:List A} {ys:List B} {i:Nat} {x:A},Paired F xs ys→xs[i]?=some x→∃y,ys[i]?=some y∧F x y
 |_,_,_,_,.nil,e=>by simp at e
 |_,_,0,_,.cons r _,e=>by simp at e;subst e;exact⟨_,rfl,r⟩
 |_,_,i+1,x,.cons _ t,e=>by
  obtain⟨u,h1,h2⟩:=uu (i:=i) (x:=x) t (by simpa using e)
  exact⟨u,by simpa using h1,h2⟩
theorem fN{A B:Type}{F:A→B→Prop}:∀ {xs xs':List A} {ys ys':List B},Paired F xs ys→Paired F xs' ys'→Paired F (xs++xs') (ys++ys')
 |_,_,_,_,.nil,s=>s
 |_,_,_,_,.cons r t,s=> .cons r (fN t s)
theorem sS{A B:Type}{F:A→B→Prop}:∀ {xs:List A} {ys:List B} (n:Nat),Paired F xs ys→Paired F (xs.take n) (ys.take n)
 |_,_,0,_=> .nil
 |_,_,_+1,.nil=> .nil
 |_,_,n+1,.cons r t=> .cons r (sS n t)
theorem sM{A B:Type}{F:A→B→Prop}:∀ {xs:List A} {ys:List B} (n:Nat),Paired F xs ys→Paired F (xs.drop n) (ys.drop n)
 |_,_,0,r=>r
 |_,_,_+1,.nil=> .nil
 |_,_,n+1,.cons _ t=>sM n t
theorem u9{A B:Type}{F:A→B→Prop}{x:A}{y:B}(r:F x y):∀ {xs:List A} {ys:List B} (i:Nat),Paired F xs ys→Paired F (xs.set i x) (ys.set i y)
 |_,_,_,.nil=> .nil
 |_,_,0,.cons _ t=> .cons r t
 |_,_,i+1,.cons q t=> .cons q (u9 r i t)
theorem k9{A B:Type}{F:A→B→Prop}{xs:List A}{ys:List B}(h:Paired F xs ys):∀k:Nat,Paired F (List.replicate k xs).flatten (List.replicate k ys).flatten
 |0=> .nil
 |k+1=>by
  rw[List.replicate_succ,List.replicate_succ,List.flatten_cons,List.flatten_cons]
  exact fN h (k9 h k)
theorem aL.get{ds:List D}{vs:List V}{i:Nat}{d:D}(h:aL α H ds vs)(e:ds[i]?=some d):∃v,vs[i]?=some v∧Rep α H d v:=uu (bh.mp h) e
end
structure Step(α:List (Option Addr))(H:Hp)(α':List (Option Addr))(H':Hp):Prop where
 ext:∀b o,some b∉α→H b=some o→H' b=some o
 pre:∀(n:Nat) (x:Option Addr),α[n]?=some x→α'[n]?=some x∨α'[n]?=some none
 new:∀b,some b∈α'→some b∉α→H b=none
theorem Step.refl{α:List (Option Addr)}{H:Hp}:Step α H α H:=⟨fun _ _ _ h=>h,fun _ _ h=> .inl h,fun _ h n=>absurd h n⟩
theorem Step.trans{α α1 α2:List (Option Addr)}{H H1 H2:Hp}(a:Step α H α1 H1)(b:Step α1 H1 α2 H2):Step α H α2 H2 where
 ext:=fun c o hc e=>b.ext c o (fun z=>by rw[a.new c z hc]at e;cases e) (a.ext c o hc e)
 pre:=fun n x e=>by
  rcases a.pre n x e with h|h
  · exact b.pre n x h
  · rcases b.pre n none h with h'|h'
    · exact .inr h'
    · exact .inr h'
 new:=fun c hc n=>by
  by_cases h1:some c∈α1
  · exact a.new c h1 n
  · have:=b.new c hc h1
    cases q:H c with
    |none=>rfl
    |some o=>rw[a.ext c o n q]at this;cases this
theorem Step.laid{α:List (Option Addr)}{H:Hp}{p:Addr}{o:HO}(h:H p=none):Step α H α (upd H p o):=
 ⟨fun b u _ e=>by rw[az (dm e h)];exact e,fun _ _ h=> .inl h,fun _ h n=>absurd h n⟩
theorem Step.cell{α:List (Option Addr)}{H:Hp}{p:Addr}{o:HO}(h:H p=none):Step α H (α++[some p]) (upd H p o):=
 ⟨fun b u _ e=>by rw[az (dm e h)];exact e,fun n x e=> .inl (by rw[List.getElem?_append_left (List.getElem?_eq_some_iff.mp e).1];exact e),fun b hb n=>by
  rcases List.mem_append.mp hb with z|z
  · exact absurd z n
  · have:b=p:=by simpa using z
    subst this;exact h⟩
theorem Step.write{α:List (Option Addr)}{H:Hp}{p:Addr}{o:HO}(h:some p∈α):Step α H α (upd H p o):=
 ⟨fun b u n e=>by rw[az (fun z=>by subst z;exact n h)];exact e,fun _ _ h=> .inl h,fun _ h n=>absurd h n⟩
mutual
theorem Rep.step{α α':List (Option Addr)}{H H':Hp}(s:Step α H α' H'):∀ {d:D} {v:V},Rep α H d v→Rep α' H' d v
 | .aK,_,h=>by unfold Rep at h⊢;exact h
 | .bl _,_,h=>by unfold Rep at h⊢;exact h
 | .int _,_,h=>by unfold Rep at h⊢;exact h
 | .str _,_,h=>by unfold Rep at h⊢;exact h
 | .ty _,_,h=>by unfold Rep at h⊢;exact h
 | .ref n,_,h=>by
   unfold Rep at h⊢
   rcases h with h|⟨a,e,r⟩
   · rcases s.pre _ _ h with z|z<;>exact .inl z
   · rcases s.pre _ _ e with z|z
     · exact .inr ⟨a,z,r⟩
     · exact .inl z
 | .lst xs,_,h=>by
   unfold Rep at h⊢
   obtain⟨a,vs,e,n,r,q⟩:=h
   refine⟨a,vs,e,fun z=>?_,?_,aL.step s q⟩
   · have:=s.new a z n
     rcases r with r|⟨o,r⟩<;>(rw[this]at r;cases r)
   · rcases r with r|⟨o,r⟩
     · exact .inl (s.ext _ _ n r)
     · exact .inr ⟨o,s.ext _ _ n r⟩
 | .tup xs,_,h=>by
   unfold Rep at h⊢
   obtain⟨a,vs,e,n,r,q⟩:=h
   exact⟨a,vs,e,(fun z=>by rw[s.new a z n]at r;exact nomatch r),s.ext _ _ n r,aL.step s q⟩
theorem aL.step{α α':List (Option Addr)}{H H':Hp}(s:Step α H α' H'):∀ {ds:List D} {vs:List V},aL α H ds vs→aL α' H' ds vs
 | [],_,h=>by unfold aL at h⊢;exact h
 |d::ds,_,h=>by
  unfold aL at h⊢
  obtain⟨v,r,e,h1,h2⟩:=h
  exact⟨v,r,e,Rep.step s h1,aL.step s h2⟩
end
structure b_(G F H:Hp):Prop where
 eq:∀b,H b=(G b).or (F b)
 yv:∀b o,G b=some o→F b=none
section
variable {G F H:Hp}
theorem b_.get(P:b_ G F H){b:Addr}{o:HO}(h:G b=some o):H b=some o:=by rw[P.eq b,h];rfl
theorem b_.same(P:b_ G F H):El G H:=fun _ _ h=>P.get h
theorem b_.none(P:b_ G F H){b:Addr}(h:H b=none):G b=none∧F b=none:=by
 have e:=P.eq b
 rw[h]at e
 cases q:G b with
 |none=>rw[q]at e;exact⟨rfl,e.symm⟩
 |some o=>rw[q]at e;cases e
theorem b_.frame(P:b_ G F H){b:Addr}{o:HO}(h:F b=some o):H b=some o∧G b=Option.none:=by
 have hn:G b=Option.none:=by
  cases q:G b with
  |none=>rfl
  |some u=>rw[P.yv b u q]at h;cases h
 exact⟨by rw[P.eq b,hn,h];rfl,hn⟩
theorem b_.laid(P:b_ G F H){p:Addr}{o:HO}(h:H p=Option.none):b_ (upd G p o) F (upd H p o):=by
 obtain⟨h1,h2⟩:=P.none h
 refine⟨fun b=>?_,fun b u e=>?_⟩
 · by_cases hb:b=p
   · subst hb;rw[aZ,aZ];rfl
   · rw[az hb,az hb];exact P.eq b
 · by_cases hb:b=p
   · subst hb;exact h2
   · rw[az hb]at e;exact P.yv b u e
theorem b_.write(P:b_ G F H){p:Addr}{o o':HO}(h:G p=some o):b_ (upd G p o') F (upd H p o'):=by
 refine⟨fun b=>?_,fun b u e=>?_⟩
 · by_cases hb:b=p
   · subst hb;rw[aZ,aZ];rfl
   · rw[az hb,az hb];exact P.eq b
 · by_cases hb:b=p
   · subst hb;exact P.yv b o h
   · rw[az hb]at e;exact P.yv b u e
theorem b_.hide(P:b_ G F H){p:Addr}{o:HO}(h:H p=Option.none):b_ G (upd F p o) (upd H p o):=by
 obtain⟨h1,h2⟩:=P.none h
 refine⟨fun b=>?_,fun b u e=>?_⟩
 · by_cases hb:b=p
   · subst hb;rw[aZ,aZ,h1];rfl
   · rw[az hb,az hb];exact P.eq b
 · by_cases hb:b=p
   · subst hb;rw[h1]at e;cases e
   · rw[az hb];exact P.yv b u e
theorem b_.OI(P:b_ G F H){p:Addr}{o o':HO}(h:F p=some o):b_ G (upd F p o') (upd H p o'):=by
 have h1:=(P.frame h).2
 refine⟨fun b=>?_,fun b u e=>?_⟩
 · by_cases hb:b=p
   · subst hb;rw[aZ,aZ,h1];rfl
   · rw[az hb,az hb];exact P.eq b
 · by_cases hb:b=p
   · subst hb;rw[h1]at e;cases e
   · rw[az hb];exact P.yv b u e
theorem b_.show{p:Addr}{o:HO}(P:b_ G (upd F p o) H)(h:F p=Option.none):b_ (upd G p o) F H:=by
 have h1:=(P.frame (b:=p) aZ)
 refine⟨fun b=>?_,fun b u e=>?_⟩
 · by_cases hb:b=p
   · subst hb;rw[aZ,h1.1];rfl
   · rw[az hb,P.eq b,az hb]
 · by_cases hb:b=p
   · subst hb;exact h
   · rw[az hb]at e
     have:=P.yv b u e
     rw[az hb]at this;exact this
end
mutual
theorem Rep.mono{α:List (Option Addr)}{G H:Hp}(s:El G H):∀ {d:D} {v:V},Rep α G d v→Rep α H d v
 | .aK,_,h=>by unfold Rep at h⊢;exact h
 | .bl _,_,h=>by unfold Rep at h⊢;exact h
 | .int _,_,h=>by unfold Rep at h⊢;exact h
 | .str _,_,h=>by unfold Rep at h⊢;exact h
 | .ty _,_,h=>by unfold Rep at h⊢;exact h
 | .ref n,_,h=>by unfold Rep at h⊢;exact h
 | .lst xs,_,h=>by
   unfold Rep at h⊢
   obtain⟨a,vs,e,n,r,q⟩:=h
   refine⟨a,vs,e,n,?_,aL.mono s q⟩
   rcases r with r|⟨o,r⟩
   · exact .inl (s _ _ r)
   · exact .inr ⟨o,s _ _ r⟩
 | .tup xs,_,h=>by
   unfold Rep at h⊢
   obtain⟨a,vs,e,n,r,q⟩:=h
   exact⟨a,vs,e,n,s _ _ r,aL.mono s q⟩
theorem aL.mono{α:List (Option Addr)}{G H:Hp}(s:El G H):∀ {ds:List D} {vs:List V},aL α G ds vs→aL α H ds vs
 | [],_,h=>by unfold aL at h⊢;exact h
 |d::ds,_,h=>by
  unfold aL at h⊢
  obtain⟨v,r,e,h1,h2⟩:=h
  exact⟨v,r,e,Rep.mono s h1,aL.mono s h2⟩
end
noncomputable def ji(α:List (Option Addr))(H:Hp):List (Str×D)→List (Str×V)→Prop:=Paired fun p q=>p.1=q.1∧Rep α H p.2 q.2
noncomputable def jN(α:List (Option Addr))(H:Hp)(a:Addr):Cell→Prop
 | .lst xs=>∃vs,H a=some (.lst vs)∧aL α H xs vs
 | .ins C fs=>∃dx vs,H a=some (.ins C dx vs)∧ji α H fs vs
 | .dead=>False
 | .tab P pos qual b=>a=P∧∃ps:Array Value,H a=some (.jC ps)∧TriplesOk ps.toList∧
    ((b=false∧codeAmong pos ps.toList=none)∨(b=true∧∃c o vs t,codeAmong pos ps.toList=some (.ref c)∧some c∉α∧H c=some (.gb o (.own c))∧o.data= .fields vs∧vs[1]?=some (.str qual t)))
structure aS(α:List (Option Addr))(st:ag)(H:Hp):Prop where
 len:α.length=st.length
 nd:∀(i j:Nat) (a:Addr),α[i]?=some (some a)→α[j]?=some (some a)→i=j
 at':∀(n:Nat) (c:Cell),st[n]?=some c→(c= .dead∧α[n]?=some none)∨∃a,α[n]?=some (some a)∧jN α H a c
theorem ji.step{α α':List (Option Addr)}{H H':Hp}(s:Step α H α' H'){ds:List (Str×D)}{vs:List (Str×V)}(h:ji α H ds vs):ji α' H' ds vs:=Paired.EU h fun _ _ z=>⟨z.1,z.2.step s⟩
theorem jN.same{α α':List (Option Addr)}{H H':Hp}{a:Addr}{c:Cell}(s:Step α H α' H')(e:H' a=H a)(h:jN α H a c):jN α' H' a c:=by
 cases c with
 |lst xs=>obtain⟨vs,h1,h2⟩:=h;exact⟨vs,e.trans h1,h2.step s⟩
 |ins C fs=>obtain⟨dx,vs,h1,h2⟩:=h;exact⟨dx,vs,e.trans h1,h2.step s⟩
 |dead=>exact h.elim
 |tab P pos qual b=>
  obtain⟨z,ps,h1,h2,h3⟩:=h
  refine⟨z,ps,e.trans h1,h2,?_⟩
  rcases h3 with h3|⟨hb,c,o,vs,t,q1,q2,q3,q4⟩
  · exact .inl h3
  · exact .inr ⟨hb,c,o,vs,t,q1,(fun y=>by rw[s.new c y q2]at q3;cases q3),s.ext c _ q2 q3,q4⟩
theorem jN.some{α:List (Option Addr)}{H:Hp}{a:Addr}{c:Cell}(h:jN α H a c):∃o,H a=some o:=by
 cases c with
 |lst xs=>obtain⟨vs,h1,h2⟩:=h;exact⟨_,h1⟩
 |ins C fs=>obtain⟨dx,vs,h1,h2⟩:=h;exact⟨_,h1⟩
 |dead=>exact h.elim
 |tab P pos qual b=>obtain⟨_,ps,h1,_⟩:=h;exact⟨_,h1⟩
theorem dQ{α:List (Option Addr)}{H:Hp}{n:Nat}{v:V}{a:Addr}(e:α[n]?=Option.some (Option.some a))(r:Rep α H (.ref n) v):v= .ref a:=by
 unfold Rep at r
 rcases r with r|⟨b,eb,rfl⟩
 · rw[e]at r;cases r
 · rw[e]at eb;cases eb;rfl
section
variable {α:List (Option Addr)}{st:ag}{H:Hp}
theorem aS.jh(S:aS α st H){n:Nat}{xs:List D}(e:st[n]?=Option.some (.lst xs)):∃a,α[n]?=Option.some (Option.some a)∧∃vs,H a=Option.some (.lst vs)∧aL α H xs vs:=by
 rcases S.at' n _ e with⟨z,_⟩|z
 · cases z
 · exact z
theorem aS.xS(S:aS α st H){n:Nat}{C:Addr}{fs:List (Str×D)}(e:st[n]?=Option.some (.ins C fs)):∃a,α[n]?=Option.some (Option.some a)∧∃dx vs,H a=Option.some (.ins C dx vs)∧ji α H fs vs:=by
 rcases S.at' n _ e with⟨z,_⟩|z
 · cases z
 · exact z
theorem aS.mem(S:aS α st H){a:Addr}(h:Option.some a∈α):∃(n:Nat) (c:Cell),α[n]?=Option.some (Option.some a)∧st[n]?=Option.some c∧jN α H a c:=by
 obtain⟨n,hn,e⟩:=List.mem_iff_getElem.mp h
 have hl:n<st.length:=by rw[←S.len];exact hn
 have e':α[n]?=Option.some (Option.some a):=by rw[List.getElem?_eq_getElem hn,e]
 rcases S.at' n st[n] (by simp[hl])with⟨_,q⟩|⟨a',q,ca⟩
 · rw[e']at q;cases q
 · rw[e']at q;cases q
   exact⟨n,_,e',by simp[hl],ca⟩
theorem aS.jM(S:aS α st H){p:Addr}(h:H p=none):Option.some p∉α:=fun z=>by
 obtain⟨n,c,_,_,ca⟩:=S.mem z
 obtain⟨o,e⟩:=ca.some
 rw[h]at e;cases e
theorem aS.laid(S:aS α st H){p:Addr}{o:HO}(h:H p=none):aS α st (upd H p o):=
 ⟨S.len,S.nd,fun n c e=>by
  rcases S.at' n c e with z|⟨a,q,ca⟩
  · exact .inl z
  · exact .inr ⟨a,q,ca.same (Step.laid h) (az (by obtain⟨u,z⟩:=ca.some;exact dm z h))⟩⟩
theorem aS.cell(S:aS α st H){p:Addr}{o:HO}{c:Cell}(h:H p=none)(hc:jN (α++[Option.some p]) (upd H p o) p c):aS (α++[Option.some p]) (st++[c]) (upd H p o) where
 len:=by rw[List.length_append,List.length_append,S.len];rfl
 nd:=fun i j a ei ej=>by
  have key:∀(i:Nat) (a:Addr),(α++[Option.some p])[i]?=Option.some (Option.some a)→(i<α.length∧α[i]?=Option.some (Option.some a))∨(i=α.length∧a=p):=by
   intro i a e
   by_cases hi:i<α.length
   · rw[List.getElem?_append_left hi]at e;exact .inl ⟨hi,e⟩
   · rw[List.getElem?_append_right (Nat.le_of_not_lt hi)]at e
     have h0:i-α.length=0:=by
      cases q:i-α.length with
      |zero=>rfl
      |succ k=>rw[q]at e;simp at e
     rw[h0]at e
     have:p=a:=by simpa using e
     exact .inr ⟨by omega,this.symm⟩
  rcases key i a ei with⟨h1,e1⟩|⟨h1,e1⟩<;>rcases key j a ej with⟨h2,e2⟩|⟨h2,e2⟩
  · exact S.nd i j a e1 e2
  · subst e2;exact absurd (List.mem_of_getElem? e1) (S.jM h)
  · subst e1;exact absurd (List.mem_of_getElem? e2) (S.jM h)
  · omega
 at':=fun n d e=>by
  by_cases hn:n<st.length
  · rw[List.getElem?_append_left hn]at e
    have hl:n<α.length:=by rw[S.len];exact hn
    rcases S.at' n d e with⟨z,q⟩|⟨a,q,ca⟩
    · exact .inl ⟨z,by rw[List.getElem?_append_left hl];exact q⟩
    · exact .inr ⟨a,by rw[List.getElem?_append_left hl];exact q,ca.same (Step.cell h) (az (by obtain⟨u,z⟩:=ca.some;exact dm z h))⟩
  · rw[List.getElem?_append_right (Nat.le_of_not_lt hn)]at e
    have h0:n-st.length=0:=by
     cases q:n-st.length with
     |zero=>rfl
     |succ k=>rw[q]at e;simp at e
    rw[h0]at e
    have hd:c=d:=by simpa using e
    subst hd
    refine .inr ⟨p,?_,hc⟩
    rw[List.getElem?_append_right (by rw[S.len];exact Nat.le_of_not_lt hn),S.len,h0]
    rfl
theorem aS.write(S:aS α st H){p:Addr}{o:HO}{c:Cell}{n:Nat}(e:α[n]?=Option.some (Option.some p))(hc:jN α (upd H p o) p c):aS α (st.set n c) (upd H p o) where
 len:=by rw[List.length_set];exact S.len
 nd:=S.nd
 at':=fun m d q=>by
  have hp:Option.some p∈α:=List.mem_of_getElem? e
  by_cases hm:m=n
  · subst hm
    have hl:m<st.length:=by
     have:=(List.getElem?_eq_some_iff.mp q).1
     rw[List.length_set]at this;exact this
    rw[List.getElem?_set_self hl]at q
    cases q
    exact .inr ⟨p,e,hc⟩
  · rw[List.getElem?_set_ne (Ne.symm hm)]at q
    rcases S.at' m d q with z|⟨a,r,ca⟩
    · exact .inl z
    · refine .inr ⟨a,r,ca.same (Step.write hp) (az fun z=>?_)⟩
      subst z
      exact hm (S.nd m n _ r e)
end
end L3
namespace L3
open PySem PySem.Spec L2
open PyProof.Rows hiding St
noncomputable abbrev DK:=D→ag→Prop
noncomputable abbrev DE:=cj→ag→DK→Prop
noncomputable abbrev DT:=cj→ag→(Bool→ag→Prop)→Prop
noncomputable abbrev DA:=cj→ag→(List D→ag→Prop)→Prop
structure oC where
 nx:cj→ag→Prop
 rt:DK
 bk:cj→ag→Prop:=fun _ _=>False
 ct:cj→ag→Prop:=fun _ _=>False
noncomputable abbrev DS:=oC→cj→ag→Prop
structure d8(α:List (Option Addr))(H:Hp)(σd:cj)(σ:L2.St):Prop where
 len:σd.length=σ.length
 at':∀(i:Nat) (d:D),σd[i]?=some (some d)→∃v,σ[i]?=some (some v)∧Rep α H d v
theorem d8.step{α α':List (Option Addr)}{H H':Hp}{σd:cj}{σ:L2.St}(s:Step α H α' H')(h:d8 α H σd σ):d8 α' H' σd σ:=
 ⟨h.len,fun i d e=>let⟨v,q,r⟩:=h.at' i d e;⟨v,q,r.step s⟩⟩
theorem d8.set{α:List (Option Addr)}{H:Hp}{σd:cj}{σ:L2.St}(h:d8 α H σd σ)(i:Nat){d:D}{v:V}(r:Rep α H d v):d8 α H (σd.set i (some d)) (σ.set i (some v)):=by
 refine⟨by rw[List.length_set,List.length_set,h.len],fun j e q=>?_⟩
 have hl:=h.len
 by_cases hj:j=i
 · subst hj
   have hlt:j<σd.length:=by
    have:=(List.getElem?_eq_some_iff.mp q).1
    rw[List.length_set]at this;exact this
   rw[List.getElem?_set_self hlt]at q
   cases q
   exact⟨v,List.getElem?_set_self (by omega),r⟩
 · rw[List.getElem?_set_ne (Ne.symm hj)]at q
   rw[List.getElem?_set_ne (Ne.symm hj)]
   exact h.at' j e q
noncomputable def LK(α:List (Option Addr))(G F:Hp)(K:DK)(Q:VK):Prop:=∀d st',K d st'→∀α' G' H' v,Step α G α' G'→b_ G' F H'→aS α' st' G'→Rep α' G' d v→Q v H'
noncomputable def Gs(α:List (Option Addr))(G F:Hp)(K:Bool→ag→Prop)(Q:Bool→Hp→Prop):Prop:=∀b st',K b st'→∀α' G' H',Step α G α' G'→b_ G' F H'→aS α' st' G'→Q b H'
noncomputable def OU(α:List (Option Addr))(G F:Hp)(K:List D→ag→Prop)(Q:List V→Hp→Prop):Prop:=∀ds st',K ds st'→∀α' G' H' vs,Step α G α' G'→b_ G' F H'→aS α' st' G'→aL α' G' ds vs→Q vs H'
inductive NI(t:DE)(σ:L2.St)(H:Hp)(Q:VK):Prop
 |mk (α:List (Option Addr)) (σd:cj) (st:ag) (K:DK) (G F:Hp) (P:b_ G F H) (R:d8 α G σd σ) (S:aS α st G) (h:t σd st K) (k:LK α G F K Q):NI t σ H Q
noncomputable def LE(t:DE):TE:=NI t
inductive NJ(t:DT)(σ:L2.St)(H:Hp)(Q:Bool→Hp→Prop):Prop
 |mk (α:List (Option Addr)) (σd:cj) (st:ag) (K:Bool→ag→Prop) (G F:Hp) (P:b_ G F H) (R:d8 α G σd σ) (S:aS α st G) (h:t σd st K) (k:Gs α G F K Q):NJ t σ H Q
noncomputable def LT(t:DT):TT:=NJ t
inductive Np(t:DA)(σ:L2.St)(H:Hp)(Q:List V→Hp→Prop):Prop
 |mk (α:List (Option Addr)) (σd:cj) (st:ag) (K:List D→ag→Prop) (G F:Hp) (P:b_ G F H) (R:d8 α G σd σ) (S:aS α st G) (h:t σd st K) (k:OU α G F K Q):Np t σ H Q
noncomputable def LA(t:DA):TA:=Np t
theorem LK.here{α:List (Option Addr)}{G F H:Hp}{K:DK}{Q:VK}(h:LK α G F K Q)(P:b_ G F H){d:D}{st:ag}{v:V}(k:K d st)(S:aS α st G)(r:Rep α G d v):Q v H:=h d st k α G H v Step.refl P S r
theorem LK.at{α α1:List (Option Addr)}{G F G1:Hp}{K:DK}{Q:VK}(h:LK α G F K Q)(s:Step α G α1 G1):LK α1 G1 F K Q:=fun d st' k α' G' H' v s' P S r=>h d st' k α' G' H' v (s.trans s') P S r
theorem Gs.at{α α1:List (Option Addr)}{G F G1:Hp}{K:Bool→ag→Prop}{Q:Bool→Hp→Prop}(h:Gs α G F K Q)(s:Step α G α1 G1):Gs α1 G1 F K Q:=fun d st' k α' G' H' s' P S=>h d st' k α' G' H' (s.trans s') P S
section
variable {X:Cx}{a b c e:Expr}{es:List Expr}{ta tb tc te:DE}{pos:Pos}
theorem PE.imp{t t':TE}(h:PE X e t)(f:∀σ H Q,t' σ H Q→t σ H Q):PE X e t':=fun pins s σ H Q I q=>h pins s σ H Q I (f σ H Q q)
theorem PT.imp{t t':TT}(h:PT X e t)(f:∀σ H Q,t' σ H Q→t σ H Q):PT X e t':=fun pins s σ H Q I q=>h pins s σ H Q I (f σ H Q q)
theorem PW.imp{t t':TT}(h:PW X e t)(f:∀σ H Q,t' σ H Q→t σ H Q):PW X e t':=fun w pins s σ H Q I q=>h w pins s σ H Q I (f σ H Q q)
theorem PA.imp{t t':TA}(h:PA X es t)(f:∀σ H Q,t' σ H Q→t σ H Q):PA X es t':=fun p pins s σ H Q I q=>h p pins s σ H Q I (f σ H Q q)
noncomputable def ae(i:Nat):DE:=fun σ st K=>match σ[i]? with|some (some d)=>K d st|_=>False
noncomputable def dC(d:D):DE:=fun _ st K=>K d st
theorem Md{i:Nat}{x:Str}(h:PE X (.Name x pos) (JD i)):PE X (.Name x pos) (LE (ae i)):=PE.imp h fun σ H Q ⟨α,σd,st,K,G,F,P,R,S,t,k⟩=>by
 unfold ae at t
 split at t
 · rename_i d q
   obtain⟨v,e,r⟩:=R.at' i d q
   exact⟨v,e,k.here P t S r⟩
 · exact t.elim
theorem ph{v:V}{d:D}(h:PE X e (tC v))(r:∀α H,Rep α H d v):PE X e (LE (dC d)):=PE.imp h fun σ H Q ⟨α,σd,st,K,G,F,P,R,S,t,k⟩=>k.here P t S (r α G)
theorem MU{i:Int}{j:Nat}:PE X (.Constant (.int i) j pos) (LE (dC (.int i))):=ph JP fun _ _=>by unfold Rep;rfl
theorem Ou{i:Bool}{j:Nat}:PE X (.Constant (.bool i) j pos) (LE (dC (.bl i))):=ph M5 fun _ _=>by unfold Rep;rfl
theorem MK{i:Str}{j:Nat}:PE X (.Constant (.str i) j pos) (LE (dC (.str i))):=ph Ks fun _ _=>by unfold Rep;rfl
theorem LV{j:Nat}:PE X (.Constant .none j pos) (LE (dC .aK)):=ph Jt fun _ _=>by unfold Rep;rfl
noncomputable abbrev cT:=D→D→ag→DK→Prop
noncomputable abbrev yw:=D→ag→DK→Prop
noncomputable abbrev eR:=List D→ag→DK→Prop
inductive NG(r:cT)(x y:V)(H:Hp)(Q:VK):Prop
 |mk (α:List (Option Addr)) (d e:D) (st:ag) (K:DK) (G F:Hp) (P:b_ G F H) (rx:Rep α G d x) (ry:Rep α G e y) (S:aS α st G) (h:r d e st K) (k:LK α G F K Q):NG r x y H Q
noncomputable def LR(r:cT):R2:=NG r
inductive Ku(r:yw)(x:V)(H:Hp)(Q:VK):Prop
 |mk (α:List (Option Addr)) (d:D) (st:ag) (K:DK) (G F:Hp) (P:b_ G F H) (rx:Rep α G d x) (S:aS α st G) (h:r d st K) (k:LK α G F K Q):Ku r x H Q
noncomputable def FP(r:yw):V→Hp→VK→Prop:=Ku r
inductive JV(r:eR)(xs:List V)(H:Hp)(Q:VK):Prop
 |mk (α:List (Option Addr)) (ds:List D) (st:ag) (K:DK) (G F:Hp) (P:b_ G F H) (rx:aL α G ds xs) (S:aS α st G) (h:r ds st K) (k:LK α G F K Q):JV r xs H Q
noncomputable def fA(r:eR):List V→Hp→VK→Prop:=JV r
noncomputable def aq(r:cT)(ta tb:DE):DE:=fun σ st K=>ta σ st fun x st1=>tb σ st1 fun y st2=>r x y st2 K
noncomputable def lG(r:yw)(ta:DE):DE:=fun σ st K=>ta σ st fun x st1=>r x st1 K
theorem LE.op{r:cT}{σ:L2.St}{H:Hp}{Q:VK}(h:LE (aq r ta tb) σ H Q):Ej (LR r) (LE ta) (LE tb) σ H Q:=by
 obtain⟨α,σd,st,K,G,F,P,R,S,t,k⟩:=h
 refine⟨α,σd,st,_,G,F,P,R,S,t,fun d st1 q α1 G1 H1 v s1 P1 S1 r1=>?_⟩
 refine⟨α1,σd,st1,_,G1,F,P1,R.step s1,S1,q,fun d2 st2 q2 α2 G2 H2 v2 s2 P2 S2 r2=>?_⟩
 exact⟨α2,d,d2,st2,K,G2,F,P2,r1.step s2,r2,S2,q2,(k.at s1).at s2⟩
theorem LE.un{r:yw}{σ:L2.St}{H:Hp}{Q:VK}(h:LE (lG r ta) σ H Q):Nd (FP r) (LE ta) σ H Q:=by
 obtain⟨α,σd,st,K,G,F,P,R,S,t,k⟩:=h
 refine⟨α,σd,st,_,G,F,P,R,S,t,fun d st1 q α1 G1 H1 v s1 P1 S1 r1=>?_⟩
 exact⟨α1,d,st1,K,G1,F,P1,r1,S1,q,k.at s1⟩
theorem NK{op:Operator}{r:cT}(ho:bL X (binaryOp op) (LR r))(ha:PE X a (LE ta))(hb:PE X b (LE tb)):PE X (.BinOp a op b pos) (LE (aq r ta tb)):=PE.imp (Lx ho ha hb) fun _ _ _ h=>LE.op h
theorem NZ{op:UnaryOp}{r:yw}(ho:AH X (unaryOp op) (FP r))(ha:PE X a (LE ta)):PE X (.UnaryOp op a pos) (LE (lG r ta)):=PE.imp (Mw ho ha) fun _ _ _ h=>LE.un h
theorem L8{op:CmpOp}{r:cT}(ho:bL X (compareOp op) (LR r))(ha:PE X a (LE ta))(hb:PE X b (LE tb))(hm:behindInMarks op b=false:=by first|exact bj _|rfl):PE X (.Compare a [op] [b] pos) (LE (aq r ta tb)):=PE.imp (Hw ho ha hb hm) fun _ _ _ h=>LE.op h
noncomputable def a5(t:DE):DT:=fun σ st K=>t σ st fun d st1=>match d with| .bl b=>K b st1|_=>False
theorem LT.test{σ:L2.St}{H:Hp}{Q:Bool→Hp→Prop}(h:LT (a5 te) σ H Q):LE te σ H fun x H'=>∃k,x= .bl k∧Q k H':=by
 obtain⟨α,σd,st,K,G,F,P,R,S,t,k⟩:=h
 refine⟨α,σd,st,_,G,F,P,R,S,t,fun d st1 q α1 G1 H1 v s1 P1 S1 r1=>?_⟩
 cases d with
 |bl b=>
  unfold Rep at r1
  exact⟨b,r1,k b st1 q α1 G1 H1 s1 P1 S1⟩
 |_=>exact q.elim
theorem Ld{op:CmpOp}{r:cT}(ho:bL X (compareOp op) (LR r))(ha:PE X a (LE ta))(hb:PE X b (LE tb))(hm:behindInMarks op b=false:=by first|exact bj _|rfl):PT X (.Compare a [op] [b] pos) (LT (a5 (aq r ta tb))):=PT.imp (Iy ho ha hb hm) fun σ H Q h=>by
 have q:=LT.test h
 exact LE.op (Q:=fun x H'=>∃k,x= .bl k∧Q k H') q
theorem KD(he:PE X e (LE te))(hv:∀whole,isTrue e X.env whole=(do let v ←whole;standAt e.pos;holding [v] (truthy v)):=by intro _;rfl):PT X e (LT (a5 te)):=PT.imp (JJ he hv) fun σ H Q h=>LT.test h
noncomputable def j4(t:DT):DT:=fun σ st K=>t σ st fun b st1=>K (!b) st1
noncomputable def qh(t u:DT):DT:=fun σ st K=>t σ st fun b st1=>if b=true then u σ st1 K else K false st1
noncomputable def js(t u:DT):DT:=fun σ st K=>t σ st fun b st1=>if b=true then K true st1 else u σ st1 K
theorem J6{t:DT}(ha:PT X a (LT t)):PT X (.UnaryOp .Not a pos) (LT (j4 t)):=PT.imp (IT ha) fun σ H Q ⟨α,σd,st,K,G,F,P,R,S,t,k⟩=>
 ⟨α,σd,st,_,G,F,P,R,S,t,fun b st1 q α1 G1 H1 s1 P1 S1=>k _ st1 q α1 G1 H1 s1 P1 S1⟩
theorem LT.and{t u:DT}{σ:L2.St}{H:Hp}{Q:Bool→Hp→Prop}(h:LT (qh t u) σ H Q):K6 (LT t) (LT u) σ H Q:=by
 obtain⟨α,σd,st,K,G,F,P,R,S,t,k⟩:=h
 refine⟨α,σd,st,_,G,F,P,R,S,t,fun b st1 q α1 G1 H1 s1 P1 S1=>?_⟩
 cases b with
 |true=>exact⟨α1,σd,st1,K,G1,F,P1,R.step s1,S1,q,k.at s1⟩
 |false=>exact k _ st1 q α1 G1 H1 s1 P1 S1
theorem LT.or{t u:DT}{σ:L2.St}{H:Hp}{Q:Bool→Hp→Prop}(h:LT (js t u) σ H Q):ND (LT t) (LT u) σ H Q:=by
 obtain⟨α,σd,st,K,G,F,P,R,S,t,k⟩:=h
 refine⟨α,σd,st,_,G,F,P,R,S,t,fun b st1 q α1 G1 H1 s1 P1 S1=>?_⟩
 cases b with
 |false=>exact⟨α1,σd,st1,K,G1,F,P1,R.step s1,S1,q,k.at s1⟩
 |true=>exact k _ st1 q α1 G1 H1 s1 P1 S1
theorem HY{t:DT}(ha:PT X a (LT t)):PW X (.BoolOp .And [a] pos) (LT t):=pw_and1 ha
theorem Jk{t:DT}(ha:PT X a (LT t)):PW X (.BoolOp .Or [a] pos) (LT t):=pw_or1 ha
theorem KZ{t u:DT}(ha:PT X a (LT t))(hb:PW X (.BoolOp .And (b::es) pos) (LT u)):PW X (.BoolOp .And (a::b::es) pos) (LT (qh t u)):=PW.imp (pw_and ha hb) fun _ _ _ h=>LT.and h
theorem Mv{t u:DT}(ha:PT X a (LT t))(hb:PW X (.BoolOp .Or (b::es) pos) (LT u)):PW X (.BoolOp .Or (a::b::es) pos) (LT (js t u)):=PW.imp (pw_or ha hb) fun _ _ _ h=>LT.or h
noncomputable def xQ(ta tb:DE):DE:=fun σ st K=>ta σ st fun d st1=>match d with| .bl b=>if b=true then tb σ st1 K else K (.bl false) st1|_=>False
noncomputable def xI(t:DT):DE:=fun σ st K=>t σ st fun b st1=>K (.bl (!b)) st1
theorem MP{op:BoolOp}(ha:PE X a (LE ta)):PE X (.BoolOp op [a] pos) (LE ta):=Jv ha
theorem ME(ha:PE X a (LE ta))(hb:PE X (.BoolOp .And (b::es) pos) (LE tb)):PE X (.BoolOp .And (a::b::es) pos) (LE (xQ ta tb)):=PE.imp (Kj ha hb) fun σ H Q ⟨α,σd,st,K,G,F,P,R,S,t,k⟩=>by
 refine⟨α,σd,st,_,G,F,P,R,S,t,fun d st1 q α1 G1 H1 v s1 P1 S1 r1=>?_⟩
 cases d with
 |bl b=>
  unfold Rep at r1
  refine⟨b,r1,?_⟩
  cases b with
  |true=>exact⟨α1,σd,st1,K,G1,F,P1,R.step s1,S1,q,k.at s1⟩
  |false=>exact k _ st1 q α1 G1 H1 _ s1 P1 S1 (by unfold Rep;rfl)
 |_=>exact q.elim
theorem M8(ha:PE X a (LE ta)):PE X (.UnaryOp .Not a pos) (LE (xI (a5 ta))):=PE.imp (KN ha) fun σ H Q ⟨α,σd,st,K,G,F,P,R,S,t,k⟩=>by
 refine⟨α,σd,st,_,G,F,P,R,S,t,fun d st1 q α1 G1 H1 v s1 P1 S1 r1=>?_⟩
 cases d with
 |bl b=>
  unfold Rep at r1
  exact⟨b,r1,k _ st1 q α1 G1 H1 _ s1 P1 S1 (by unfold Rep;rfl)⟩
 |_=>exact q.elim
noncomputable def Gr(t:DT)(ta tb:DE):DE:=fun σ st K=>t σ st fun b st1=>if b=true then ta σ st1 K else tb σ st1 K
theorem LD{t:DT}(hc:PT X c (LT t))(ha:PE X a (LE ta))(hb:PE X b (LE tb)):PE X (.IfExp c a b pos) (LE (Gr t ta tb)):=PE.imp (EB hc ha hb) fun σ H Q ⟨α,σd,st,K,G,F,P,R,S,t,k⟩=>by
 refine⟨α,σd,st,_,G,F,P,R,S,t,fun b st1 q α1 G1 H1 s1 P1 S1=>?_⟩
 cases b with
 |true=>exact⟨α1,σd,st1,K,G1,F,P1,R.step s1,S1,q,k.at s1⟩
 |false=>exact⟨α1,σd,st1,K,G1,F,P1,R.step s1,S1,q,k.at s1⟩
noncomputable def ak:DA:=fun _ st K=>K [] st
noncomputable def af(ta:DE)(tr:DA):DA:=fun σ st K=>ta σ st fun x st1=>tr σ st1 fun xs st2=>K (x::xs) st2
theorem yZ:PA X [] (LA ak):=PA.imp Jd fun σ H Q ⟨α,σd,st,K,G,F,P,R,S,t,k⟩=>k [] st t α G H [] Step.refl P S (by unfold aL;rfl)
theorem vp{tr:DA}(ha:PE X e (LE te))(hr:PA X es (LA tr))(hs:starEach (e::es) X.env=(false,eval e X.env)::starEach es X.env:=by rfl):PA X (e::es) (LA (af te tr)):=PA.imp (Ie ha hr hs) fun σ H Q ⟨α,σd,st,K,G,F,P,R,S,t,k⟩=>by
 refine⟨α,σd,st,_,G,F,P,R,S,t,fun d st1 q α1 G1 H1 v s1 P1 S1 r1=>?_⟩
 refine⟨α1,σd,st1,_,G1,F,P1,R.step s1,S1,q,fun ds st2 q2 α2 G2 H2 vs s2 P2 S2 r2=>?_⟩
 exact k _ st2 q2 α2 G2 H2 (v::vs) (s1.trans s2) P2 S2 (by unfold aL;exact⟨v,vs,rfl,r1.step s2,r2⟩)
noncomputable def l7(t:DA):DE:=fun σ st K=>t σ st fun ds st1=>ds.length≤sizeLine∧K (.tup ds) st1
noncomputable def nG(t:DA):DE:=fun σ st K=>t σ st fun ds st1=>ds.length≤sizeLine∧K (.lst ds) st1
noncomputable def Bm(t:DA):DE:=fun σ st K=>t σ st fun ds st1=>ds.length≤sizeLine∧K (.ref st1.length) (st1++[.lst ds])
theorem LK.tup{α:List (Option Addr)}{G F H:Hp}{K:DK}{Q:VK}{ds:List D}{vs:List V}{st:ag}{p:Addr}(k:LK α G F K Q)(P:b_ G F H)(q:K (.tup ds) st)(S:aS α st G)(r:aL α G ds vs)(hp:H p=none):Q (.ref p) (upd H p (.tup vs)):=
 have hg:=(P.none hp).1
 k _ st q α _ _ _ (Step.laid hg) (P.laid hp) (S.laid hg) (by unfold Rep;exact⟨p,vs,rfl,S.jM hg,aZ,r.step (Step.laid hg)⟩)
theorem LK.lst{α:List (Option Addr)}{G F H:Hp}{K:DK}{Q:VK}{ds:List D}{vs:List V}{st:ag}{p:Addr}(k:LK α G F K Q)(P:b_ G F H)(q:K (.lst ds) st)(S:aS α st G)(r:aL α G ds vs)(hp:H p=none):Q (.ref p) (upd H p (.lst vs)):=
 have hg:=(P.none hp).1
 k _ st q α _ _ _ (Step.laid hg) (P.laid hp) (S.laid hg) (by unfold Rep;exact⟨p,vs,rfl,S.jM hg,.of aZ,r.step (Step.laid hg)⟩)
theorem LK.new{α:List (Option Addr)}{G F H:Hp}{K:DK}{Q:VK}{ds:List D}{vs:List V}{st:ag}{p:Addr}(k:LK α G F K Q)(P:b_ G F H)(q:K (.ref st.length) (st++[.lst ds]))(S:aS α st G)(r:aL α G ds vs)(hp:H p=none):Q (.ref p) (upd H p (.lst vs)):=
 have hg:=(P.none hp).1
 k _ _ q (α++[some p]) _ _ _ (Step.cell hg) (P.laid hp) (S.cell hg ⟨vs,aZ,r.step (Step.cell hg)⟩) (by
  unfold Rep
  refine .inr ⟨p,?_,rfl⟩
  rw[List.getElem?_append_right (by rw[S.len];exact Nat.le_refl _),S.len,Nat.sub_self]
  rfl)
theorem ML{n:Nat}{t:DA}(h:PA X es (LA t)):PE X (.Tuple es n pos) (LE (l7 t)):=PE.imp (KP h) fun σ H Q ⟨α,σd,st,K,G,F,P,R,S,t,k⟩=>
 ⟨α,σd,st,_,G,F,P,R,S,t,fun ds st1 q α1 G1 H1 vs s1 P1 S1 r1=>⟨by rw[←r1.length];exact q.1,fun p hp=>(k.at s1).tup P1 q.2 S1 r1 hp⟩⟩
theorem Me{t:DA}(h:PA X es (LA t)):PE X (.List es pos) (LE (nG t)):=PE.imp (CW h) fun σ H Q ⟨α,σd,st,K,G,F,P,R,S,t,k⟩=>
 ⟨α,σd,st,_,G,F,P,R,S,t,fun ds st1 q α1 G1 H1 vs s1 P1 S1 r1=>⟨by rw[←r1.length];exact q.1,fun p hp=>(k.at s1).lst P1 q.2 S1 r1 hp⟩⟩
theorem MD{t:DA}(h:PA X es (LA t)):PE X (.List es pos) (LE (Bm t)):=PE.imp (CW h) fun σ H Q ⟨α,σd,st,K,G,F,P,R,S,t,k⟩=>
 ⟨α,σd,st,_,G,F,P,R,S,t,fun ds st1 q α1 G1 H1 vs s1 P1 S1 r1=>⟨by rw[←r1.length];exact q.1,fun p hp=>(k.at s1).new P1 q.2 S1 r1 hp⟩⟩
noncomputable abbrev cp:=List D→ag→DK→Prop
inductive Kn(T:cp)(vs:List V)(H:Hp)(Q:VK):Prop
 |mk (α:List (Option Addr)) (ds:List D) (st:ag) (K:DK) (G F:Hp) (P:b_ G F H) (rx:aL α G ds vs) (S:aS α st G) (h:T ds st K) (k:LK α G F K Q):Kn T vs H Q
noncomputable def cv(S:cp):Sp:=fun vs H Q _=>Kn S vs H Q
noncomputable def aE(S:cp)(t:DA):DE:=fun σ st K=>t σ st fun ds st1=>S ds st1 K
theorem LE.call{S:cp}{t:DA}{σ:L2.St}{H:Hp}{Q:VK}(h:LE (aE S t) σ H Q):FY (cv S) [] E0 (LA t) σ H Q:=by
 obtain⟨α,σd,st,K,G,F,P,R,S,t,k⟩:=h
 refine⟨α,σd,st,_,G,F,P,R,S,t,fun ds st1 q α1 G1 H1 vs s1 P1 S1 r1=>?_⟩
 try dsimp only
 rw[List.append_nil]
 exact⟨α1,ds,st1,K,G1,F,P1,r1,S1,q,k.at s1⟩
theorem J0{S:cp}{k:Nat}{f:Addr}{fd:FuncData}{ps:List Str}{x:Str}{p:Pos}{t:DA}(F:a8 X.prog X.w X.K X.mg X.base cq k f fd ps (cv S))(hr:cO k X.A)(hg:Gl X x)(hm:X.mg x=some (.ref f))(hk:PySem.W.keepIn X.K (.ref f)=true)(hb:Binds X.K fd ps [])
 (ha:PA X (e::es) (LA t)) (hdb:(x==("__debug__":Str))=false:=by decide) (he:starEach (e::es) X.env=(false,eval e X.env)::starEach es X.env:=by rfl) (hpl:(backTo pos (starEach es X.env)).any (·.1)=false:=by rfl):
 PE X (.Call (.Name x p) (e::es) [] pos) (LE (aE S t)):=PE.imp (HE F hr hg hm hk hb .nil Be ha hdb he hpl) fun _ _ _ h=>LE.call h
noncomputable def bp(r:eR)(t:DA):DE:=fun σ st K=>t σ st fun ds st1=>r ds st1 K
theorem LE.cb{r:eR}{t:DA}{σ:L2.St}{H:Hp}{Q:VK}(h:LE (bp r t) σ H Q):Lo (fA r) (LA t) σ H Q:=by
 obtain⟨α,σd,st,K,G,F,P,R,S,t,k⟩:=h
 refine⟨α,σd,st,_,G,F,P,R,S,t,fun ds st1 q α1 G1 H1 vs s1 P1 S1 r1=>?_⟩
 exact⟨α1,ds,st1,K,G1,F,P1,r1,S1,q,k.at s1⟩
end
end L3
namespace L3
open PySem PySem.Spec L2
open PyProof.Rows hiding St
section
variable {X:Cx}
theorem bL.imp{f:Value→Value→Sem Value}{r r':R2}(h:bL X f r)(k:∀x y H Q,r' x y H Q→r x y H Q):bL X f r':=fun pins s σ H x y v u Q I rx ry q=>h pins s σ H x y v u Q I rx ry (k x y H Q q)
theorem bD.imp{f:Value}{r r':List V→Hp→VK→Prop}(h:bD X f r)(k:∀xs H Q,r' xs H Q→r xs H Q):bD X f r':=fun pins s σ H xs us Q I rs q=>h pins s σ H xs us Q I rs (k xs H Q q)
noncomputable def sL(C:Int→Int→Prop)(g:Int→Int→D):cT:=fun x y st K=>match x,y with| .int i,.int j=>C i j∧K (g i j) st|_,_=>False
theorem jO{f:Value→Value→Sem Value}{C:Int→Int→Prop}{g:Int→Int→D}{g':Int→Int→V}(hg:∀i j α H,Rep α H (g i j) (g' i j))(h:bL X f (rI C g')):bL X f (LR (sL C g)):=bL.imp h fun x y H Q ⟨α,d,e,st,K,G,F',P,r1,r2,S,q,k⟩=>by
 cases d<;>cases e<;>first
  |exact q.elim
  |(unfold Rep at r1 r2;exact⟨_,_,r1,r2,q.1,k.here P q.2 S (hg _ _ _ _)⟩)
noncomputable abbrev T2:Int→Int→Prop:=fun _ _=>True
theorem uZ{g:Int→Int→V}{f:Value→Value→Sem Value}(h:bL X f (u0 g)):bL X f (rI T2 g):=bL.imp h fun x y H Q ⟨i,j,e1,e2,_,q⟩=>⟨i,j,e1,e2,q⟩
noncomputable abbrev GG:cT:=sL T2 fun i j=> .int (i-j)
noncomputable abbrev Dj:cT:=sL (fun _ j=>j≠0∧j.natAbs.log2<9000) fun i j=> .int (i.fdiv j)
noncomputable abbrev Gy:cT:=sL (fun _ j=>j≠0) fun i j=> .int (i.fmod j)
noncomputable abbrev Gg:cT:=sL EJ fun i j=> .int (i^j.toNat)
noncomputable abbrev Lp:cT:=sL T2 fun i j=> .bl (decide (i<j))
noncomputable abbrev Jb:cT:=sL T2 fun i j=> .bl (decide (i≤j))
noncomputable abbrev Lq:cT:=sL T2 fun i j=> .bl (decide (j<i))
noncomputable abbrev Lk:cT:=sL T2 fun i j=> .bl (decide (j≤i))
theorem LQ:bL X (binaryOp .Sub) (LR GG):=jO (fun _ _ _ _=>by unfold Rep;rfl) (uZ Ju)
theorem Kz:bL X (binaryOp .FloorDiv) (LR Dj):=jO (fun _ _ _ _=>by unfold Rep;rfl) (F9 fun i j _ _ _ _ _ hc q=>floordiv_int hc.1 q (.inl (PyProof.noPylong_of_log2 hc.2)))
theorem MR:bL X (binaryOp .Mod) (LR Gy):=jO (fun _ _ _ _=>by unfold Rep;rfl) IE
theorem Mh:bL X (binaryOp .Pow) (LR Gg):=jO (fun _ _ _ _=>by unfold Rep;rfl) J5
theorem Ob:bL X (compareOp .Lt) (LR Lp):=jO (fun _ _ _ _=>by unfold Rep;rfl) (uZ MT)
theorem N_:bL X (compareOp .LtE) (LR Jb):=jO (fun _ _ _ _=>by unfold Rep;rfl) (uZ Mo)
theorem NM:bL X (compareOp .Gt) (LR Lq):=jO (fun _ _ _ _=>by unfold Rep;rfl) (uZ M1)
theorem NX:bL X (compareOp .GtE) (LR Lk):=jO (fun _ _ _ _=>by unfold Rep;rfl) (uZ L7)
noncomputable def FX:yw:=fun x st K=>match x with| .int i=>K (.int (-i)) st|_=>False
theorem LW:AH X (unaryOp .USub) (FP FX):=fun pins s σ H x v Q I rx ⟨α,d,st,K,G,F',P,r,S,q,k⟩=>by
 cases d<;>first
  |exact q.elim
  |(unfold Rep at r;exact J3 pins s σ H x v Q I rx ⟨_,r,k.here P q S (by unfold Rep;rfl)⟩)
theorem Inv.vk{pins:List (Addr×Obj)}{σ:L2.St}{H:Hp}{s:Shared}{l:Addr}{xs:List V}(I:Inv X pins σ H s)(h:Rd H l (.lst xs)):
 xs.length≤sizeLine∧∃(its:List Value) (n:Nat),Vals xs its∧xs.length=its.length∧s.heap.get? l=some {cls:= .type "list",data:= .seq its.toArray n}:=by
 obtain⟨z,its,n,r,e⟩:=h.ok I.aN
 exact⟨z,its,n,r,r.length,e⟩
theorem gh{G F H:Hp}(P:b_ G F H){a:Addr}{u:HO}(h:Rd G a u):Rd H a u:=by
 rcases h with h|⟨o,h⟩
 · exact .inl (P.get h)
 · exact .inr ⟨o,P.get h⟩
theorem Hb:bL X (binaryOp .Add) (fun x y H Q=>∃l b xs zs,x= .ref l∧y= .ref b∧Rd H l (.lst xs)∧Rd H b (.lst zs)∧xs.length+zs.length≤sizeLine∧∀p,H p=none→Q (.ref p) (upd H p (.lst (xs++zs)))):=by
 intro pins s σ H x y v u Q I rx ry h
 obtain⟨l,b,xs,zs,rfl,rfl,hH,hB,hz,q⟩:=h
 cases rx
 cases ry
 obtain⟨z,its,n,r,hl,e⟩:=Inv.vk I hH
 obtain⟨z2,its2,n2,r2,hl2,e2⟩:=Inv.vk I hB
 refine PySem.P.add_list e e2 ?_ (by rw[List.size_toArray,List.size_toArray];omega)
 have ea:its.toArray++its2.toArray=(its++its2).toArray:=by simp
 rw[ea]
 exact⟨.ref _,_,I.E6 (t':=s.toks) (r.append r2) (by rw[List.length_append];omega),rfl,q _ I.fresh⟩
theorem Az:bL X (binaryOp .Mult) (fun x y H Q=>∃l k xs,x= .ref l∧y= .int k∧Rd H l (.lst xs)∧ -(2^63)≤k∧k<2^63∧xs.length*k.toNat≤sizeLine∧
 ∀p,H p=none→Q (.ref p) (upd H p (.lst (List.replicate k.toNat xs).flatten))):=by
 intro pins s σ H x y v u Q I rx ry h
 obtain⟨l,k,xs,rfl,rfl,hH,h1,h2,hz,q⟩:=h
 cases rx
 obtain⟨t,rfl⟩:=ry
 obtain⟨z,its,n,r,hl,e⟩:=Inv.vk I hH
 have hlen:its.toArray.size*k.toNat≤sizeLine:=by rw[List.size_toArray,←hl];exact hz
 have hcap:¬its.toArray.size*k.toNat>(2^63-1)/8:=by
  have:(sizeLine:Nat)≤(2^63-1)/8:=by decide
  omega
 have hfit:¬(!Builtin.List.listFitsIndex k)=true:=by
  rw[fitsIndex_both h1 h2]
  exact Bool.false_ne_true
 have hlong:¬Builtin.List.listTooLong (its.toArray.size*k.toNat)=true:=by
  rw[Ew hlen]
  exact Bool.false_ne_true
 have hnew:List.foldl (fun x1 x2=>x1++x2) #[] (List.replicate (if its.toArray.isEmpty=true then 0 else k.toNat) its.toArray)=(List.replicate k.toNat its).flatten.toArray:=by
  have f0:∀m:Nat,List.foldl (fun x1 x2=>x1++x2) #[] (List.replicate m its.toArray)=(List.replicate m its).flatten.toArray:=fun m=>by
   have:=foldl_rep its m []
   rw[List.nil_append]at this
   exact this
  rw[f0]
  cases its with
  |nil=>simp
  |cons a r'=>rw[if_neg (by simp)]
 refine wpAny_binaryOp_repeat_ref (T:="list") (U:="int") (by decide) ⟨_,e,rfl⟩ (fun s'=>typeIs_int s' k t) noFill_list_mul F.fills_int_mul F.slot_int_rmul repeat_list F.slot_int_index.lookup
  (call_meets F.slot_int_rmul (typeIs_int s k t) F.entry_int_rmul (F.args_int_rmul_2 _ _) (int___rmul___int_list k t l its.toArray n)
    ⟨e,rfl,⟨_,e,rfl⟩,call_meets F.slot_list_mul ⟨_,e,rfl⟩ F.entry_list_mul (F.args_list_mul_2 _ _) (AutoListH.list___mul___list_int_3 l its.toArray n k t hfit hcap hlong) ⟨e,?_⟩⟩)
 rw[hnew]
 exact⟨.ref _,_,I.E6 (t':=s.toks) (r.rep k.toNat) (by rw[len_rep,Nat.mul_comm];exact hz),rfl,q _ I.fresh⟩
theorem EI:bL X (binaryOp .Add) (fun x y H Q=>∃a b xs ys,x= .ref a∧y= .ref b∧H a=some (.tup xs)∧H b=some (.tup ys)∧xs.length+ys.length≤sizeLine∧
 (xs=[]→Q (.ref b) H)∧(xs≠ []→ys=[]→Q (.ref a) H)∧(xs≠ []→ys≠ []→∀p,H p=none→Q (.ref p) (upd H p (.tup (xs++ys))))):=by
 intro pins s σ H x y v u Q I rx ry h
 obtain⟨a,b,xs,ys,rfl,rfl,ha,hb,hz,q0,q1,q2⟩:=h
 by_cases hx:xs=[]
 · cases rx
   cases ry
   obtain⟨its,r1,p1,_⟩:=I.tuple (.of ha)
   obtain⟨its2,r2,p2,_⟩:=I.tuple (.of hb)
   obtain⟨⟨cls,dd,data,sl⟩,ho,hc,n,hd⟩:=id p1
   obtain⟨⟨cls2,dd2,data2,sl2⟩,ho2,hc2,n2,hd2⟩:=id p2
   simp only at hc hd hc2 hd2
   subst hc hd hc2 hd2
   have hi:its=[]:=(L2.Vals.sy r1).mpr hx
   exact concat_meets ⟨_,ho,rfl⟩ ⟨_,ho2,rfl⟩ noFill_tuple_add seq_tuple_add PySem.F.slot_tuple_add PySem.F.entry_tuple_add (PySem.F.args_tuple_add_2 _ _)
    (tuple_addW0 a b its.toArray its2.toArray n n2 dd dd2 sl sl2 (by simp[hi])) ⟨ho,ho2,⟨.ref b,H,I,rfl,q0 hx⟩⟩
 · exact G0 pins s σ H _ _ v u Q I rx ry ⟨a,b,xs,ys,rfl,rfl,.of ha,.of hb,hx,hz,q1 hx,q2 hx⟩
theorem vD:fillsNumberSlot (.type "tuple") "mul"=pure false:=
 PySem.fillsNumberSlot_seq (id:="tuple.__mul__") (r:=some (.builtin "tuple.__rmul__")) F.slot_tuple_mul.lookup (by decide+kernel) F.slot_tuple_rmul.lookup (by decide+kernel)
theorem BM:seqRepeat? (.type "tuple")=pure (some (.builtin "tuple.__mul__")):=by
 unfold seqRepeat?
 rw[PySem.seqSlot_of (T:="tuple") (name:="__mul__") (id:="tuple.__mul__") F.slot_tuple_mul.lookup (by decide+kernel),PySem.seqSlot_of (T:="tuple") (name:="__rmul__") (id:="tuple.__rmul__") F.slot_tuple_rmul.lookup (by decide+kernel)]
 rfl
theorem yi(a:Int)(t:Tok)(l:Addr)(its:Array Value)(n:Nat)(dd:Option Addr)(sl:Array (Option Value)):Meets (Builtin.«int.__rmul__» ⟨[.int a t,.ref l],[]⟩) (fun _ R s=>s.heap.get? l=some {cls:= .type "tuple",dict:=dd,data:= .seq its n,slots:=sl}∧R (.ok (.ret Value.notImplemented)) s):=
 .of_wp fun P w A R s h=>by
  obtain⟨hp,g,d,tk,os⟩:=s
  obtain⟨hl,h⟩:=h
  wp_walk
  exact⟨_,rfl,h⟩
theorem yL(l:Addr)(its:Array Value)(n:Nat)(dd:Option Addr)(sl:Array (Option Value))(x:Int)(u:Tok)(h0:(decide (x< -(2^63))||decide (x≥2^63))=false)(h1:(its.isEmpty||x==1)=true):
 Meets (Builtin.«tuple.__mul__» ⟨[.ref l,.int x u],[]⟩) (fun _ R s=>s.heap.get? l=some {cls:= .type "tuple",dict:=dd,data:= .seq its n,slots:=sl}∧R (.ok (.ret (.ref l))) s):=
 .of_wp fun P w A R s h=>by
  obtain⟨hp,g,d,tk,os⟩:=s
  obtain⟨hl,h⟩:=h
  wp_walk
  refine wpAny_ite_false (by rw[h0];rfl) ?_
  wp_walk
  exact⟨_,rfl,h⟩
theorem yg(l:Addr)(its:Array Value)(n:Nat)(dd:Option Addr)(sl:Array (Option Value))(x:Int)(u:Tok)(h0:(decide (x< -(2^63))||decide (x≥2^63))=false)(h1:(its.isEmpty||x==1)=false)(h2:(decide (x≤0)||its.isEmpty)=true):
 Meets (Builtin.«tuple.__mul__» ⟨[.ref l,.int x u],[]⟩) (fun _ R s=>s.heap.get? l=some {cls:= .type "tuple",dict:=dd,data:= .seq its n,slots:=sl}∧R (.ok (.ret (.ref s.heap.objs.size))) {s with heap:=s.heap.push {cls:= .type "tuple",data:= .seq #[]}}):=
 .of_wp fun P w A R s h=>by
  obtain⟨hp,g,d,tk,os⟩:=s
  obtain⟨hl,h⟩:=h
  wp_walk
  refine wpAny_ite_false (by rw[h0];rfl) ?_
  wp_walk
  exact⟨_,rfl,h⟩
theorem yV(l:Addr)(its:Array Value)(n:Nat)(dd:Option Addr)(sl:Array (Option Value))(x:Int)(u:Tok)(h0:(decide (x< -(2^63))||decide (x≥2^63))=false)(h1:(its.isEmpty||x==1)=false)(h2:(decide (x≤0)||its.isEmpty)=false)(h3:¬((its.size:Int)*x>(2^63-1)/8))(h4:Builtin.Tuple.tupleTooMany (its.size*x)=false)
 (hz:(List.foldl (fun x1 x2=>x1++x2) #[] (List.replicate x.toNat its)).size≤sizeLine):
 Meets (Builtin.«tuple.__mul__» ⟨[.ref l,.int x u],[]⟩) (fun _ R s=>s.heap.get? l=some {cls:= .type "tuple",dict:=dd,data:= .seq its n,slots:=sl}∧R (.ok (.ret (.ref s.heap.objs.size))) {s with heap:=s.heap.push {cls:= .type "tuple",data:= .seq (List.foldl (fun x1 x2=>x1++x2) #[] (List.replicate x.toNat its))}}):=
 .of_wp fun P w A R s h=>by
  obtain⟨hp,g,d,tk,os⟩:=s
  obtain⟨hl,h⟩:=h
  wp_walk
  refine wpAny_ite_false (by rw[h0];rfl) ?_
  wp_walk
  refine wpAny_ite_false (decide_eq_false h3) ?_
  wp_walk
  exact⟨_,rfl,h⟩
theorem HN:bL X (binaryOp .Mult) (fun x y H Q=>∃l k xs,x= .ref l∧y= .int k∧H l=some (.tup xs)∧ -(2^63)≤k∧k<2^63∧xs.length*k.toNat≤sizeLine∧
 ((xs=[]∨k=1)→Q (.ref l) H)∧(¬(xs=[]∨k=1)→∀p,H p=none→Q (.ref p) (upd H p (.tup (List.replicate k.toNat xs).flatten)))):=by
 intro pins s σ H x y v u Q I rx ry h
 obtain⟨l,k,xs,rfl,rfl,hH,h1,h2,hz,q1,q2⟩:=h
 cases rx
 obtain⟨t,rfl⟩:=ry
 obtain⟨its,r,p1,_⟩:=I.tuple (.of hH)
 obtain⟨⟨cls,dd,data,sl⟩,ho,hc,n,hd⟩:=id p1
 simp only at hc hd
 subst hc hd
 have hl:xs.length=its.length:=r.length
 have f0:(decide (k< -(2^63))||decide (k≥2^63))=false:=by
  rw[decide_eq_false (by omega),decide_eq_false (by omega)];rfl
 refine wpAny_binaryOp_repeat_ref (T:="tuple") (U:="int") (by decide) ⟨_,ho,rfl⟩ (fun s'=>typeIs_int s' k t) vD F.fills_int_mul F.slot_int_rmul BM F.slot_int_index.lookup
  (call_meets F.slot_int_rmul (typeIs_int s k t) F.entry_int_rmul (F.args_int_rmul_2 _ _) (yi k t l its.toArray n dd sl) ⟨ho,rfl,⟨_,ho,rfl⟩,?_⟩)
 by_cases hs:xs=[]∨k=1
 · have f1:(its.toArray.isEmpty||k==1)=true:=by
    rcases hs with z|z
    · have:its=[]:=List.length_eq_zero_iff.mp (by rw[←hl,z];rfl)
      rw[this];rfl
    · rw[z];simp
   exact call_meets F.slot_tuple_mul ⟨_,ho,rfl⟩ F.entry_tuple_mul (F.args_tuple_mul_2 _ _) (yL l its.toArray n dd sl k t f0 f1) ⟨ho,⟨.ref l,H,I,rfl,q1 hs⟩⟩
 · have hne:its≠ []:=fun z=>hs (.inl (List.length_eq_zero_iff.mp (by rw[hl,z];rfl)))
   have hk1:k≠1:=fun z=>hs (.inr z)
   have e1:its.toArray.isEmpty=false:=by simpa using hne
   have f1:(its.toArray.isEmpty||k==1)=false:=by rw[e1];simpa using hk1
   have new:∀(us:List Value) (ys:List V),Vals ys us→ys.length≤sizeLine→Inv X pins σ (upd H s.heap.objs.size (.tup ys)) {s with heap:=s.heap.push {cls:= .type "tuple",data:= .seq us.toArray}}:=fun us ys hv hy=>
    I.laid (t':=s.toks) (fun _ _ q=>Heap.get?_push_of_some _ q) (Nat.le_refl _) ⟨hy,us,hv,⟨_,Heap.get?_push_size _ rfl,rfl,_,rfl⟩⟩
   by_cases h0:k≤0
   · have f2:(decide (k≤0)||its.toArray.isEmpty)=true:=by rw[decide_eq_true h0];rfl
     refine call_meets F.slot_tuple_mul ⟨_,ho,rfl⟩ F.entry_tuple_mul (F.args_tuple_mul_2 _ _) (yg l its.toArray n dd sl k t f0 f1 f2) ⟨ho,?_⟩
     have ez:k.toNat=0:=by omega
     rw[ez]at q2
     exact⟨.ref _,_,new [] [] .nil (Nat.zero_le _),rfl,q2 hs _ I.fresh⟩
   · have f2:(decide (k≤0)||its.toArray.isEmpty)=false:=by rw[decide_eq_false h0,e1];rfl
     have hk:(k.toNat:Int)=k:=by omega
     have hlen:its.toArray.size*k.toNat≤sizeLine:=by rw[List.size_toArray,←hl];exact hz
     have hsz:((its.toArray.size:Nat):Int)*k≤(sizeLine:Int):=by
      rw[←hk]
      exact_mod_cast hlen
     have f3:¬(((its.toArray.size:Nat):Int)*k>(2^63-1)/8):=by
      have:((sizeLine:Nat):Int)≤(2^63-1)/8:=by decide
      omega
     have f4:Builtin.Tuple.tupleTooMany (((its.toArray.size:Nat):Int)*k)=false:=by
      unfold Builtin.Tuple.tupleTooMany
      exact decide_eq_false (by omega)
     have hnew:List.foldl (fun x1 x2=>x1++x2) #[] (List.replicate k.toNat its.toArray)=(List.replicate k.toNat its).flatten.toArray:=by
      have:=foldl_rep its k.toNat []
      rw[List.nil_append]at this
      exact this
     have hfl:(List.replicate k.toNat its).flatten.length=its.length*k.toNat:=by rw[len_rep,Nat.mul_comm]
     refine call_meets F.slot_tuple_mul ⟨_,ho,rfl⟩ F.entry_tuple_mul (F.args_tuple_mul_2 _ _) (yV l its.toArray n dd sl k t f0 f1 f2 f3 f4 (by rw[hnew,List.size_toArray,hfl];exact hlen)) ⟨ho,?_⟩
     rw[hnew]
     exact⟨.ref _,_,new _ _ (r.rep k.toNat) (by rw[len_rep,Nat.mul_comm];exact hz),rfl,q2 hs _ I.fresh⟩
noncomputable def F7:cT:=fun x y st K=>match x,y with
 | .int i,.int j=>K (.int (i+j)) st
 | .tup xs,.tup ys=>xs.length+ys.length≤sizeLine∧K (.tup (xs++ys)) st
 | .lst xs,.lst ys=>xs.length+ys.length≤sizeLine∧K (.lst (xs++ys)) st
 | .str x,.str y=>x.length+y.length≤sizeLine∧K (.str (x++y)) st
 |_,_=>False
theorem Mj:bL X (binaryOp .Add) (LR F7):=fun pins s σ H x y v u Q I rx ry ⟨α,d,e,st,K,G,F',P,r1,r2,S,q,k⟩=>by
 cases d<;>cases e<;>try exact q.elim
 · unfold Rep at r1 r2
   exact Kw pins s σ H x y v u Q I rx ry ⟨_,_,r1,r2,k.here P q S (by unfold Rep;rfl)⟩
 · unfold Rep at r1 r2
   exact Ca pins s σ H x y v u Q I rx ry ⟨_,_,r1,r2,q.1,k.here P q.2 S (by unfold Rep;rfl)⟩
 · unfold Rep at r1 r2
   obtain⟨a,vs,rfl,na,ha,ra⟩:=r1
   obtain⟨b,ws,rfl,nb,hb,rb⟩:=r2
   refine Hb pins s σ H _ _ v u Q I rx ry ⟨a,b,vs,ws,rfl,rfl,gh P ha,gh P hb,by rw[←ra.length,←rb.length];exact q.1,fun p hp=>?_⟩
   exact k.lst P q.2 S (bh.mpr (fN (bh.mp ra) (bh.mp rb))) hp
 · rename_i xs ys
   unfold Rep at r1 r2
   obtain⟨a,vs,rfl,na,ha,ra⟩:=r1
   obtain⟨b,ws,rfl,nb,hb,rb⟩:=r2
   have hl1:=ra.length
   have hl2:=rb.length
   refine EI pins s σ H _ _ v u Q I rx ry ⟨a,b,vs,ws,rfl,rfl,P.get ha,P.get hb,by rw[←hl1,←hl2];exact q.1,fun z=>?_,fun _ z=>?_,fun _ _ p hp=>?_⟩
   · refine k.here P q.2 S ?_
     unfold Rep
     have:xs=[]:=by rw[z]at hl1;exact List.length_eq_zero_iff.mp hl1
     subst this
     exact⟨b,ws,rfl,nb,hb,rb⟩
   · refine k.here P q.2 S ?_
     unfold Rep
     have:ys=[]:=by rw[z]at hl2;exact List.length_eq_zero_iff.mp hl2
     subst this
     rw[List.append_nil]
     exact⟨a,vs,rfl,na,ha,ra⟩
   · exact k.tup P q.2 S (bh.mpr (fN (bh.mp ra) (bh.mp rb))) hp
noncomputable def GV:cT:=fun x y st K=>match x,y with
 | .int i,.int j=>IntMulOk i j∧K (.int (i*j)) st
 | .lst xs,.int k=>(-(2^63)≤k∧k<2^63∧xs.length*k.toNat≤sizeLine)∧K (.lst (List.replicate k.toNat xs).flatten) st
 | .tup xs,.int k=>(-(2^63)≤k∧k<2^63∧xs.length*k.toNat≤sizeLine)∧K (.tup (List.replicate k.toNat xs).flatten) st
 |_,_=>False
theorem M7:bL X (binaryOp .Mult) (LR GV):=fun pins s σ H x y v u Q I rx ry ⟨α,d,e,st,K,G,F',P,r1,r2,S,q,k⟩=>by
 cases d<;>cases e<;>try exact q.elim
 · unfold Rep at r1 r2
   have h:bL X (binaryOp .Mult) (rI IntMulOk fun i j=> .int (i*j)):=F9 fun _ _ _ _ _ _ _ hc q=>mul_int q hc
   exact h pins s σ H x y v u Q I rx ry ⟨_,_,r1,r2,q.1,k.here P q.2 S (by unfold Rep;rfl)⟩
 · unfold Rep at r1 r2
   obtain⟨a,vs,rfl,na,ha,ra⟩:=r1
   refine Az pins s σ H _ _ v u Q I rx ry ⟨a,_,vs,rfl,r2,gh P ha,q.1.1,q.1.2.1,by rw[←ra.length];exact q.1.2.2,fun p hp=>?_⟩
   exact k.lst P q.2 S (bh.mpr (k9 (bh.mp ra) _)) hp
 · rename_i xs m
   have r1':=r1
   unfold Rep at r1 r2
   obtain⟨a,vs,rfl,na,ha,ra⟩:=r1
   refine HN pins s σ H _ _ v u Q I rx ry ⟨a,_,vs,rfl,r2,P.get ha,q.1.1,q.1.2.1,by rw[←ra.length];exact q.1.2.2,fun hs=>?_,fun _ p hp=>k.tup P q.2 S (bh.mpr (k9 (bh.mp ra) _)) hp⟩
   have e:(List.replicate m.toNat xs).flatten=xs:=by
    rcases hs with z|z
    · have:xs=[]:=List.length_eq_zero_iff.mp (by rw[ra.length,z];rfl)
      rw[this];simp
    · rw[z];simp
   have q2:=q.2
   rw[e]at q2
   exact k.here P q2 S r1'
noncomputable def live(st:ag):D→Bool
 | .ref n=>(match st[n]? with|some (.lst _)=>true|some (.ins _ _)=>true|_=>false)
 |_=>true
theorem xV{α:List (Option Addr)}{H:Hp}{st:ag}{n:Nat}{v:V}(S:aS α st H)(h:live st (.ref n)=true)(r:Rep α H (.ref n) v):∃a,v= .ref a:=by
 unfold live at h
 simp only at h
 split at h
 · rename_i e
   obtain⟨a,ea,_⟩:=S.jh e
   exact⟨a,dQ ea r⟩
 · rename_i e
   obtain⟨a,ea,_⟩:=S.xS e
   exact⟨a,dQ ea r⟩
 · cases h
noncomputable def IA:cT:=fun x y st K=>match y with| .aK=>live st x=true∧K (.bl (match x with| .aK=>false|_=>true)) st|_=>False
theorem HH:bL X (compareOp .IsNot) (LR IA):=bL.imp Hu fun x y H Q ⟨α,d,e,st,K,G,F',P,r1,r2,S,q,k⟩=>by
 cases e<;>try exact q.elim
 unfold Rep at r2
 refine⟨r2,k.here P q.2 S ?_⟩
 unfold Rep
 cases d
 case ref n=>
  obtain⟨a,rfl⟩:=xV S q.1 r1
  rfl
 all_goals(unfold Rep at r1;first|(rw[r1];rfl)|(obtain⟨a,vs,rfl,_⟩:=r1;rfl))
noncomputable def pH:cT:=fun x y st K=>match y with
 | .int i=>(match x with
   | .lst xs=>(match dZ xs i with|some d=>K d st|none=>False)
   | .tup xs=>(match dZ xs i with|some d=>K d st|none=>False)
   | .ref n=>(match st[n]? with|some (.lst xs)=>(match dZ xs i with|some d=>K d st|none=>False)|_=>False)
   |_=>False)
 |_=>False
theorem aL.dZ{α:List (Option Addr)}{H:Hp}{ds:List D}{vs:List V}{i:Int}{d:D}(h:aL α H ds vs)(e:L2.dZ ds i=some d):∃v,L2.dZ vs i=some v∧Rep α H d v:=by
 unfold L2.dZ at e⊢
 rw[←h.length]
 cases q:mi ds.length i with
 |none=>rw[q]at e;cases e
 |some j=>rw[q]at e;exact h.get e
theorem NT:GU X (LR pH):=fun value slice pins s σ H x y v u Q I rx ry ⟨α,d,e,st,K,G,F',P,r1,r2,S,q,k⟩ hs=>by
 cases e<;>try exact q.elim
 unfold Rep at r2
 cases d<;>try exact q.elim
 · rename_i i n
   unfold pH at q
   simp only at q
   split at q
   · split at q
     · rename_i xs e1 _ d' e2
       obtain⟨a,ea,vs,hv,rv⟩:=S.jh e1
       have r1':=dQ ea r1
       subst r1'
       obtain⟨z,ez,rz⟩:=rv.dZ e2
       exact Ai value slice pins s σ H _ _ v u Q I rx ry ⟨a,vs,_,z,rfl,r2,.of (P.get hv),ez,k.here P q S rz⟩ hs
     · exact q.elim
   · exact q.elim
 · unfold pH at q
   simp only at q
   split at q
   · rename_i xs d' e2
     unfold Rep at r1
     obtain⟨a,vs,rfl,na,ha,ra⟩:=r1
     obtain⟨z,ez,rz⟩:=ra.dZ e2
     exact Ai value slice pins s σ H _ _ v u Q I rx ry ⟨a,vs,_,z,rfl,r2,.inl (gh P ha),ez,k.here P q S rz⟩ hs
   · exact q.elim
 · unfold pH at q
   simp only at q
   split at q
   · rename_i xs d' e2
     unfold Rep at r1
     obtain⟨a,vs,rfl,na,ha,ra⟩:=r1
     obtain⟨z,ez,rz⟩:=ra.dZ e2
     exact Kr value slice pins s σ H _ _ v u Q I rx ry ⟨a,vs,_,z,rfl,r2,.of (P.get ha),ez,k.here P q S rz⟩ hs
   · exact q.elim
theorem NY{a b:Expr}{ta tb:DE}{pos:Pos}(ha:PE X a (LE ta))(hb:PE X b (LE tb))(hs:sv b:=by intro _ _;rfl):PE X (.Subscript a b pos) (LE (aq pH ta tb)):=PE.imp (LY NT ha hb hs) fun _ _ _ h=>LE.op h
end
end L3
namespace L3
open PySem PySem.Spec L2
open PyProof.Rows hiding St
section
variable {X:Cx}
noncomputable def items?(st:ag):D→Option (List D)
 | .lst xs=>some xs
 | .tup xs=>some xs
 | .ref n=>(match st[n]? with|some (.lst xs)=>some xs|_=>none)
 |_=>none
@[simp] theorem Nf(st:ag)(xs:List D):items? st (.lst xs)=some xs:=rfl
@[simp] theorem Nt(st:ag)(xs:List D):items? st (.tup xs)=some xs:=rfl
@[simp] theorem items_int(st:ag)(i:Int):items? st (.int i)=none:=rfl
@[simp] theorem NS(st:ag)(i:Bool):items? st (.bl i)=none:=rfl
@[simp] theorem items_str(st:ag)(i:Str):items? st (.str i)=none:=rfl
@[simp] theorem Ni(st:ag):items? st .aK=none:=rfl
theorem aJ{st:ag}{n:Nat}{xs:List D}(h:st[n]?=some (.lst xs)):items? st (.ref n)=some xs:=by unfold items?;simp only[h]
theorem oh{α:List (Option Addr)}{H:Hp}{st:ag}{d:D}{v:V}{xs:List D}(S:aS α st H)(r:Rep α H d v)(e:items? st d=some xs):
 ∃p vs,v= .ref p∧aL α H xs vs∧(Rd H p (.lst vs)∨H p=some (.tup vs)):=by
 cases d<;>try(cases e;done)
 · unfold items? at e
   simp only at e
   split at e
   · rename_i ys q
     cases e
     obtain⟨a,ea,vs,h1,h2⟩:=S.jh q
     have r':=dQ ea r
     subst r'
     exact⟨a,vs,rfl,h2,.inl (.of h1)⟩
   · cases e
 · cases e
   unfold Rep at r
   obtain⟨a,vs,rfl,_,h1,h2⟩:=r
   exact⟨a,vs,rfl,h2,.inl h1⟩
 · cases e
   unfold Rep at r
   obtain⟨a,vs,rfl,_,h1,h2⟩:=r
   exact⟨a,vs,rfl,h2,.inr h1⟩
theorem BV{K:PySem.W.Frag}{G F H:Hp}(P:b_ G F H){p:Addr}{vs:List V}(h:Rd G p (.lst vs)∨G p=some (.tup vs)):lE K H p vs∨ib K H p vs:=h.elim (fun z=> .inl (.inl (gh P z))) fun z=> .inr (.of (P.get z))
theorem gN{α:List (Option Addr)}{H:Hp}{ds:List D}{xs:List V}{d:D}(r:aL α H ds xs)(e:ds=[d]):∃v,xs=[v]∧Rep α H d v:=by
 subst e
 unfold aL at r
 obtain⟨v,q,rfl,h1,h2⟩:=r
 unfold aL at h2
 subst h2
 exact⟨v,rfl,h1⟩
theorem oq{α:List (Option Addr)}{H:Hp}{ds:List D}{xs:List V}{d e:D}(r:aL α H ds xs)(q:ds=[d,e]):∃v u,xs=[v,u]∧Rep α H d v∧Rep α H e u:=by
 subst q
 unfold aL at r
 obtain⟨v,q,rfl,h1,h2⟩:=r
 obtain⟨u,rfl,h3⟩:=gN h2 rfl
 exact⟨v,u,rfl,h1,h3⟩
noncomputable def xT:eR:=fun ds st K=>match ds with
 | [.str x]=>x.length≤sizeLine∧K (.int x.length) st
 | [d]=>(match items? st d with|some xs=>K (.int xs.length) st|none=>False)
 |_=>False
theorem MG:bD X (.builtin "len") (fA xT):=fun pins s σ H xs us Q I rs ⟨α,ds,st,K,G,F',P,r,S,q,k⟩=>by
 unfold xT at q
 split at q
 · rename_i x
   obtain⟨v,rfl,r1⟩:=gN r rfl
   unfold Rep at r1
   subst r1
   exact zh pins s σ H _ us Q I rs ⟨x,rfl,q.1,k.here P q.2 S (by unfold Rep;rfl)⟩
 · rename_i d _
   split at q
   · rename_i ys e
     obtain⟨v,rfl,r1⟩:=gN r rfl
     obtain⟨p,vs,rfl,r2,h⟩:=oh S r1 e
     refine yy pins s σ H _ us Q I rs ⟨p,vs,rfl,BV P h,k.here P q S (by unfold Rep;rw[r2.length])⟩
   · exact q.elim
 · exact q.elim
noncomputable def NC(g:Int→Int):eR:=fun ds st K=>match ds with| [.int i]=>K (.int (g i)) st|_=>False
noncomputable abbrev A4:eR:=NC fun i=>if i<0 then-i else i
theorem M0:bD X (.builtin "abs") (fA A4):=bD.imp E_ fun xs H Q ⟨α,ds,st,K,G,F',P,r,S,q,k⟩=>by
 unfold A4 NC at q
 split at q
 · obtain⟨v,rfl,r1⟩:=gN r rfl
   unfold Rep at r1
   subst r1
   exact⟨_,rfl,k.here P q S (by unfold Rep;rfl)⟩
 · exact q.elim
noncomputable def BY(g:Int→Int→Int):eR:=fun ds st K=>match ds with| [.int i,.int j]=>K (.int (g i j)) st|_=>False
noncomputable abbrev Bx:eR:=BY fun i j=>if j>i then j else i
noncomputable abbrev Bj:eR:=BY fun i j=>if j<i then j else i
theorem LU(hc:X.calm=true):bD X (.builtin "max") (fA Bx):=bD.imp (CQ hc) fun xs H Q ⟨α,ds,st,K,G,F',P,r,S,q,k⟩=>by
 unfold Bx BY at q
 split at q
 · obtain⟨v,u,rfl,r1,r2⟩:=oq r rfl
   unfold Rep at r1 r2
   subst r1 r2
   exact⟨_,_,rfl,k.here P q S (by unfold Rep;rfl)⟩
 · exact q.elim
theorem MV(hc:X.calm=true):bD X (.builtin "min") (fA Bj):=bD.imp (C6 hc) fun xs H Q ⟨α,ds,st,K,G,F',P,r,S,q,k⟩=>by
 unfold Bj BY at q
 split at q
 · obtain⟨v,u,rfl,r1,r2⟩:=oq r rfl
   unfold Rep at r1 r2
   subst r1 r2
   exact⟨_,_,rfl,k.here P q S (by unfold Rep;rfl)⟩
 · exact q.elim
noncomputable def BK:eR:=fun ds st K=>match ds with| [.int i]=>K (.int i) st| [.bl b]=>K (.int (if b then 1 else 0)) st|_=>False
theorem MI:bD X (.type "int") (fA BK):=bD.imp D3 fun xs H Q ⟨α,ds,st,K,G,F',P,r,S,q,k⟩=>by
 unfold BK at q
 split at q
 · obtain⟨v,rfl,r1⟩:=gN r rfl
   unfold Rep at r1
   subst r1
   exact .inl ⟨_,rfl,k.here P q S (by unfold Rep;rfl)⟩
 · obtain⟨v,rfl,r1⟩:=gN r rfl
   unfold Rep at r1
   subst r1
   exact .inr ⟨_,rfl,k.here P q S (by unfold Rep;rfl)⟩
 · exact q.elim
noncomputable def rS:eR:=fun ds st K=>match ds with| [d]=>(match items? st d with|some xs=>K (.tup xs) st|none=>False)|_=>False
theorem Ij:bD X (.type "tuple") (fA rS):=bD.imp xn fun xs H Q ⟨α,ds,st,K,G,F',P,r,S,q,k⟩=>by
 unfold rS at q
 split at q
 · rename_i d
   split at q
   · rename_i ys e
     obtain⟨v,rfl,r1⟩:=gN r rfl
     cases d with
     |tup zs=>
      cases e
      have r0:=r1
      unfold Rep at r1
      obtain⟨a,vs,rfl,na,h1,h2⟩:=r1
      exact⟨a,vs,rfl,.inr ⟨.of (P.get h1),k.here P q S r0⟩⟩
     |_=>
      obtain⟨p,vs,rfl,r2,h⟩:=oh S r1 e
      refine⟨p,vs,rfl,?_⟩
      rcases h with h|h
      · exact .inl ⟨.inl (gh P h),fun l hl=>k.tup P q S r2 hl⟩
      · first
         |(cases e;done)
         |(exfalso
           unfold items? at e
           simp only at e
           first
            |(split at e
              · rename_i z
                obtain⟨a,ea,vs',h1,h2⟩:=S.jh z
                have e':=dQ ea r1
                cases e'
                rw[h]at h1;cases h1
              · cases e)
            |(unfold Rep at r1
              obtain⟨a,vs',e',_,h1,_⟩:=r1
              cases e'
              rcases h1 with h1|⟨o,h1⟩<;>(rw[h]at h1;cases h1)))
   · exact q.elim
 · exact q.elim
noncomputable def uy:eR:=fun ds st K=>match ds with| [d]=>(match items? st d with|some xs=>K (.lst xs) st|none=>False)|_=>False
theorem Jx:bD X (.type "list") (fA uy):=bD.imp rg fun xs H Q ⟨α,ds,st,K,G,F',P,r,S,q,k⟩=>by
 unfold uy at q
 split at q
 · split at q
   · rename_i ys e
     obtain⟨v,rfl,r1⟩:=gN r rfl
     obtain⟨p,vs,rfl,r2,h⟩:=oh S r1 e
     exact⟨p,vs,rfl,BV P h,fun l hl=>k.lst P q S r2 hl⟩
   · exact q.elim
 · exact q.elim
noncomputable def rO:eR:=fun ds st K=>match ds with| [d]=>(match items? st d with|some xs=>K (.ref st.length) (st++[.lst xs])|none=>False)|_=>False
theorem Ii:bD X (.type "list") (fA rO):=bD.imp rg fun xs H Q ⟨α,ds,st,K,G,F',P,r,S,q,k⟩=>by
 unfold rO at q
 split at q
 · split at q
   · rename_i ys e
     obtain⟨v,rfl,r1⟩:=gN r rfl
     obtain⟨p,vs,rfl,r2,h⟩:=oh S r1 e
     exact⟨p,vs,rfl,BV P h,fun l hl=>k.new P q S r2 hl⟩
   · exact q.elim
 · exact q.elim
noncomputable def i0:List D→Option (List Bool)
 | []=>some []
 | .bl b::r=>(i0 r).map (b:: ·)
 |_::_=>none
noncomputable def kX:List D→Option (List Int)
 | []=>some []
 | .int b::r=>(kX r).map (b:: ·)
 |_::_=>none
theorem uo{α:List (Option Addr)}{H:Hp}:∀ {ds:List D} {vs:List V} {bs:List Bool},aL α H ds vs→i0 ds=some bs→vs=bs.map V.bl
 | [],vs,bs,r,e=>by
   unfold aL at r
   cases e
   exact r
 |d::ds,vs,bs,r,e=>by
  unfold aL at r
  obtain⟨v,q,rfl,h1,h2⟩:=r
  cases d<;>try(cases e;done)
  unfold i0 at e
  cases z:i0 ds with
  |none=>rw[z]at e;cases e
  |some cs=>
   rw[z]at e
   cases e
   unfold Rep at h1
   rw[h1,uo h2 z]
   rfl
theorem rp{α:List (Option Addr)}{H:Hp}:∀ {ds:List D} {vs:List V} {bs:List Int},aL α H ds vs→kX ds=some bs→vs=bs.map V.int
 | [],vs,bs,r,e=>by
   unfold aL at r
   cases e
   exact r
 |d::ds,vs,bs,r,e=>by
  unfold aL at r
  obtain⟨v,q,rfl,h1,h2⟩:=r
  cases d<;>try(cases e;done)
  unfold kX at e
  cases z:kX ds with
  |none=>rw[z]at e;cases e
  |some cs=>
   rw[z]at e
   cases e
   unfold Rep at h1
   rw[h1,rp h2 z]
   rfl
theorem uG:∀ {bs:List Bool} {us:List Value},Vals (bs.map V.bl) us→us=bs.map Value.bool
 | [],_,.nil=>rfl
 |b::bs,_,.cons h t=>by
  have h:_=Value.bool b:=h
  rw[h,uG t]
  rfl
end
end L3
namespace L3
open PySem PySem.Spec L2
open PyProof.Rows hiding St
section
variable {X:Cx}
noncomputable def xt:eR:=fun ds st K=>match ds with| [.lst xs]=>(match i0 xs with|some bs=>K (.bl (bs.all id)) st|none=>False)|_=>False
theorem range_all{α:Type}(l:List α)(f:α→Bool)(tr:Nat→Bool)(h:∀i x,l[i]?=some x→tr i=f x):(List.range l.length).all tr=l.all f:=by
 induction l generalizing tr with
 |nil=>rfl
 |cons a l ih=>
  rw[List.length_cons,List.range_succ_eq_map,List.all_cons,List.all_cons,List.all_map,h 0 a rfl]
  congr 1
  exact ih (tr∘Nat.succ) fun i x e=>h (i+1) x (by simpa using e)
theorem MJ(hc:X.calm=true):bD X (.builtin "all") (fA xt):=fun pins s σ H xs us Q I rs ⟨α,ds,st,K,G,F',P,r,S,q,k⟩=>by
 unfold xt at q
 split at q
 · rename_i ys
   split at q
   · rename_i bs e
     obtain⟨v,rfl,r1⟩:=gN r rfl
     unfold Rep at r1
     obtain⟨a,vs,rfl,na,h1,h2⟩:=r1
     obtain⟨u,rfl,ru⟩:=vals1 rs
     cases ru
     have hv:=uo h2 e
     subst hv
     obtain⟨z,its,n,rv,hl,eo⟩:=Inv.vk I (gh P h1)
     have hits:=uG rv
     subst hits
     have isL:s.heap.IsList a (bs.map Value.bool).toArray:=⟨_,eo,rfl,n,rfl⟩
     refine call_all_walk (wpAny_pyIter_list isL ?_)
     have hne:a≠s.heap.objs.size:=Nat.ne_of_lt (Heap.lt_size eo)
     refine⟨s.heap.objs.size,_,_,_,_,_,fun i=>(bs[i]?).getD true,rfl,Walks.list (A:=X.A.in1) (I.ok.hd hc) _ a hne (bs.map Value.bool).toArray,⟨⟨_,Heap.get?_push_size _ rfl,rfl,rfl⟩,⟨_,Heap.get?_push_of_some _ eo,rfl,n,rfl⟩⟩,?_,?_⟩
     · intro i w s' Q' E' hP hQ
       rw[List.getElem?_toArray,List.getElem?_map]at hP
       cases zb:bs[i]? with
       |none=>rw[zb]at hP;cases hP
       |some b=>
        rw[zb]at hP
        cases hP
        simp only[zb]at hQ
        exact wpAny_truthy_bool hQ
     · intro h' tk hk
       have kp:∀b o,s.heap.get? b=some o→h'.get? b=some o:=fun b o q=>hk b o (by
        intro hb
        have:b=s.heap.objs.size:=by simpa using hb
        exact absurd (Heap.lt_size q) (by rw[this];exact Nat.lt_irrefl _)) (Heap.get?_push_of_some _ q)
       have ea:(List.range (bs.map Value.bool).toArray.size).all (fun i=>(bs[i]?).getD true)=bs.all id:=by
        rw[List.size_toArray,List.length_map]
        exact range_all bs id _ fun i x e=>by rw[e];rfl
       rw[ea]
       exact⟨.bl (bs.all id),H,I.kept (t':=tk) kp,rfl,k.here P q S (by unfold Rep;rfl)⟩
   · exact q.elim
 · exact q.elim
noncomputable def iO(st:ag):D→Option String
 | .aK=>some "NoneType"
 | .bl _=>some "bool"
 | .int _=>some "int"
 | .str _=>some "str"
 | .lst _=>some "list"
 | .tup _=>some "tuple"
 | .ref n=>(match st[n]? with|some (.lst _)=>some "list"|_=>none)
 | .ty _=>none
@[simp] theorem O3(st:ag)(xs:List D):iO st (.lst xs)=some "list":=rfl
@[simp] theorem OS(st:ag)(xs:List D):iO st (.tup xs)=some "tuple":=rfl
@[simp] theorem ty_int(st:ag)(i:Int):iO st (.int i)=some "int":=rfl
@[simp] theorem O5(st:ag)(i:Bool):iO st (.bl i)=some "bool":=rfl
@[simp] theorem ty_str(st:ag)(i:Str):iO st (.str i)=some "str":=rfl
@[simp] theorem OJ(st:ag):iO st .aK=some "NoneType":=rfl
noncomputable def tF(t c:String):Bool:=t==c||(t=="bool"&&c=="int")
theorem zB{α:List (Option Addr)}{H:Hp}{st:ag}{K:PySem.W.Frag}{d:D}{v:V}{t:String}(S:aS α st H)(r:Rep α H d v)(e:iO st d=some t):iU K H v (.type t):=by
 cases d<;>unfold iO at e<;>try(cases e;done)
 · unfold Rep at r;cases e;subst r;exact .aK
 · unfold Rep at r;cases e;subst r;exact .bl _
 · unfold Rep at r;cases e;subst r;exact .int _
 · unfold Rep at r;cases e;subst r;exact .str _
 · simp only at e
   split at e
   · rename_i z
     cases e
     obtain⟨a,ea,vs',h1,h2⟩:=S.jh z
     have r':=dQ ea r
     subst r'
     exact .lst h1
   · cases e
 · cases e
   unfold Rep at r
   obtain⟨a,vs,rfl,na,h1,h2⟩:=r
   rcases h1 with h1|⟨o,h1⟩
   · exact .lst h1
   · exact .gb h1
 · cases e
   unfold Rep at r
   obtain⟨a,vs,rfl,na,h1,h2⟩:=r
   exact .tup h1
theorem AA{G F H:Hp}{K:PySem.W.Frag}(P:b_ G F H){x:V}{t:Value}(h:iU K G x t):iU K H x t:=by
 cases h with
 |aK=>exact .aK
 |bl x=>exact .bl x
 |int x=>exact .int x
 |str x=>exact .str x
 |sW x=>exact .sW x
 |lst e=>exact .lst (P.get e)
 |gb e=>exact .gb (P.get e)
 |tup e=>exact .tup (P.get e)
 |dK e=>exact .dK (P.get e)
 |dT e=>exact .dT (P.get e)
 |ins e a b c d f=>exact .ins (P.get e) a b c d f
noncomputable def su:List String:=["NoneType","bool","int","str","list","tuple"]
noncomputable def m6:List String:=["bool","int","str","list","tuple"]
theorem AJ(K:PySem.W.Frag){t c:String}(ht:t∈su)(hc:c∈m6):PySem.W.kitOne K (.type t) (.type c)=some (tF t c):=by
 simp only[su,m6,List.mem_cons,List.not_mem_nil,or_false]at ht hc
 rcases ht with rfl|rfl|rfl|rfl|rfl|rfl<;>rcases hc with rfl|rfl|rfl|rfl|rfl<;>with_unfolding_all rfl
theorem yC{st:ag}{d:D}{t:String}(e:iO st d=some t):t∈su:=by
 cases d<;>unfold iO at e<;>first
  |(cases e;done)
  |(cases e;decide)
  |(simp only at e;split at e<;>cases e;decide)
theorem kitx_of{pins:List (Addr×Obj)}{σ:L2.St}{H:Hp}{s:Shared}{x:V}{u:Value}{t:String}(I:Inv X pins σ H s)(rx:RelV x u)(ty:iU X.K H x (.type t)):
 ∃Hh:Heap→Prop,PySem.W.KitX X.K u (.type t) Hh∧Hh s.heap∧u≠ .builtin "__main__.__loader__#opaque":=by
 cases ty with
 |aK=>cases (show u=Value.none from rx);exact⟨_,PySem.W.kitx_none,True.intro,fun z=>nomatch z⟩
 |bl y=>cases (show u=Value.bool y from rx);exact⟨_,PySem.W.kitx_bool,True.intro,fun z=>nomatch z⟩
 |int i=>obtain⟨t,q⟩:=(show∃t,u=Value.int i t from rx);cases q;exact⟨_,PySem.W.kitx_int,True.intro,fun z=>nomatch z⟩
 |str y=>obtain⟨t,q⟩:=(show∃t,u=Value.str y t from rx);cases q;exact⟨_,PySem.W.kitx_str,True.intro,fun z=>nomatch z⟩
 |sW y=>obtain⟨t,q⟩:=(show∃t,u=Value.float y t from rx);cases q;exact⟨_,PySem.W.kitx_float,True.intro,fun z=>nomatch z⟩
 | @lst a xs ea=>
   cases (show u=Value.ref a from rx)
   obtain⟨_,_,n,_,h1⟩:=(show dv X.prog X.w H s.heap a (.lst xs)from I.aN a _ ea)
   exact⟨_,PySem.W.kitx_list,⟨_,h1,rfl⟩,fun z=>nomatch z⟩
 | @gb a ob xs ea=>
   cases (show u=Value.ref a from rx)
   obtain⟨_,_,_,n,_,h1⟩:=(show dv X.prog X.w H s.heap a (.gb ob (.lst xs))from I.aN a _ ea)
   exact⟨_,PySem.W.kitx_list,⟨_,h1,rfl⟩,fun z=>nomatch z⟩
 | @tup a xs ea=>
   cases (show u=Value.ref a from rx)
   obtain⟨_,_,_,p⟩:=(show dv X.prog X.w H s.heap a (.tup xs)from I.aN a _ ea)
   obtain⟨o,h1,h2,_⟩:=p
   exact⟨_,PySem.W.kitx_tuple,⟨o,h1,h2⟩,fun z=>nomatch z⟩
 | @dK a kvs ea=>
   cases (show u=Value.ref a from rx)
   obtain⟨_,_,vs,_,p⟩:=(show dv X.prog X.w H s.heap a (.dK kvs)from I.aN a _ ea)
   obtain⟨o,es,ep,h1,h2,_⟩:=p
   exact⟨_,PySem.W.kitx_dict,⟨o,h1,h2.1⟩,fun z=>nomatch z⟩
 | @dT a kvs ea=>
   cases (show u=Value.ref a from rx)
   obtain⟨_,_,xs,_,o,es,ep,h1,h2,_⟩:=(show dv X.prog X.w H s.heap a (.dT kvs)from I.aN a _ ea)
   exact⟨_,PySem.W.kitx_dict,⟨o,h1,h2.1⟩,fun z=>nomatch z⟩
noncomputable def pe:List D→Option (List String)
 | []=>some []
 | .ty b::r=>(pe r).map (b:: ·)
 |_::_=>none
theorem ya{α:List (Option Addr)}{H:Hp}:∀ {ds:List D} {vs:List V} {bs:List String},aL α H ds vs→pe ds=some bs→vs=bs.map V.ty
 | [],vs,bs,r,e=>by
   unfold aL at r
   cases e
   exact r
 |d::ds,vs,bs,r,e=>by
  unfold aL at r
  obtain⟨v,q,rfl,h1,h2⟩:=r
  cases d<;>try(cases e;done)
  unfold pe at e
  cases z:pe ds with
  |none=>rw[z]at e;cases e
  |some cs=>
   rw[z]at e
   cases e
   unfold Rep at h1
   rw[h1,ya h2 z]
   rfl
theorem yY:∀ {bs:List String} {us:List Value},Vals (bs.map V.ty) us→us=bs.map Value.type
 | [],_,.nil=>rfl
 |b::bs,_,.cons h t=>by
  have h:_=Value.type b:=h
  rw[h,yY t]
  rfl
theorem Af(K:PySem.W.Frag){t:String}(ht:t∈su):∀cs:List String,(∀c∈cs,c∈m6)→PySem.W.kitAny K (.type t) (cs.map Value.type)=some (cs.any (tF t))
 | [],_=>rfl
 |c::cs,h=>by
  show(match PySem.W.kitOne K (.type t) (.type c)with|some true=>some true|some false=>PySem.W.kitAny K (.type t) (cs.map Value.type)|none=>none)=_
  rw[AJ K ht (h c List.mem_cons_self),List.any_cons]
  cases tF t c with
  |true=>rfl
  |false=>exact Af K ht cs fun c hc=>h c (List.mem_cons_of_mem _ hc)
noncomputable def xD:eR:=fun ds st K=>match ds with
 | [d,.ty c]=>(match iO st d with|some t=>c∈m6∧K (.bl (tF t c)) st|none=>False)
 | [d,.tup cs]=>(match iO st d,pe cs with|some t,some cl=>(∀c∈cl,c∈m6)∧K (.bl (cl.any (tF t))) st|_,_=>False)
 |_=>False
theorem Lw:bD X (.builtin "isinstance") (fA xD):=fun pins s σ H xs us Q I rs ⟨α,ds,st,K,G,F',P,r,S,q,k⟩=>by
 unfold xD at q
 split at q
 · rename_i d c
   split at q
   · rename_i t e
     obtain⟨v,v2,rfl,r1,r2⟩:=oq r rfl
     obtain⟨u,u2,rfl,ru,ru2⟩:=vals2 rs
     unfold Rep at r2
     subst r2
     cases (show u2=Value.type c from ru2)
     exact CY I ru (AA P (zB S r1 e)) (AJ _ (yC e) q.1) fun tk=>⟨.bl (tF t c),H,I.tok tk,rfl,k.here P q.2 S (by unfold Rep;rfl)⟩
   · exact q.elim
 · rename_i d cs
   split at q
   · rename_i t cl e ec
     obtain⟨v,v2,rfl,r1,r2⟩:=oq r rfl
     obtain⟨u,u2,rfl,ru,ru2⟩:=vals2 rs
     unfold Rep at r2
     obtain⟨a,vs,rfl,na,h1,h2⟩:=r2
     cases (show u2=Value.ref a from ru2)
     have hv:=ya h2 ec
     subst hv
     obtain⟨Hh,Z,hh,hne⟩:=kitx_of I ru (AA P (zB S r1 e))
     obtain⟨its,r',pl,hz⟩:=I.tuple (ib.of (P.get h1))
     have hi:=yY r'
     subst hi
     obtain⟨⟨cls,dd,data,sl⟩,ho,hc,n,hd⟩:=pl
     simp only at hc hd
     subst hc hd
     exact PySem.W.kia_tup Z I.gB hh ho (Af _ (yC e) cl q.1) hne fun tk=>⟨.bl _,H,I.tok tk,rfl,k.here P q.2 S (by unfold Rep;rfl)⟩
   · exact q.elim
 · exact q.elim
end
end L3
namespace L3
open PySem PySem.Spec L2 PySem.SeqAt
open PyProof.Rows hiding St
mutual
noncomputable def cH:D→D→Bool
 | .aK,.aK=>true
 | .bl a,.bl b=>a==b
 | .bl a,.int b=>(if a then 1 else 0)==b
 | .int a,.bl b=>a==(if b then 1 else 0)
 | .int a,.int b=>a==b
 | .str a,.str b=>a==b
 | .lst xs,.lst ys=>kK xs ys
 | .tup xs,.tup ys=>kK xs ys
 |_,_=>false
noncomputable def kK:List D→List D→Bool
 | [],[]=>true
 |x::xs,y::ys=>cH x y&&kK xs ys
 |_,_=>false
end
noncomputable def pl:Nat→D→Bool
 |_,.aK=>true
 |_,.bl _=>true
 |_,.int _=>true
 |_,.str _=>true
 |n+1,.lst xs=>xs.all (pl n)
 |n+1,.tup xs=>xs.all (pl n)
 |_,_=>false
mutual
theorem nv:∀(n:Nat) (d:D),pl n d=true→cH d d=true
 |_,.aK,_=>rfl
 |_,.bl _,_=>by simp[cH]
 |_,.int _,_=>by simp[cH]
 |_,.str _,_=>by simp[cH]
 |n+1,.lst xs,h=>by unfold cH;exact rG n xs (by unfold pl at h;exact h)
 |n+1,.tup xs,h=>by unfold cH;exact rG n xs (by unfold pl at h;exact h)
 |0,.lst xs,h=>by cases h
 |0,.tup xs,h=>by cases h
 |_,.ref _,h=>by unfold pl at h;cases h
 |_,.ty _,h=>by unfold pl at h;cases h
theorem rG:∀(n:Nat) (xs:List D),xs.all (pl n)=true→kK xs xs=true
 |_,[],_=>by unfold kK;rfl
 |n,x::xs,h=>by
  rw[List.all_cons,Bool.and_eq_true]at h
  unfold kK
  rw[nv n x h.1,rG n xs h.2]
  rfl
end
mutual
theorem Rep.inj{α:List (Option Addr)}{H:Hp}:∀ {d e:D} {v:V} (n:Nat),pl n d=true→pl n e=true→Rep α H d v→Rep α H e v→d=e
 | .aK,e,v,n,_,he,h1,h2=>by
   unfold Rep at h1;subst h1
   cases e<;>first|(unfold pl at he;cases he;done)|(unfold Rep at h2;cases h2;rfl)|(unfold Rep at h2;cases h2;done)|(unfold Rep at h2;obtain⟨_,_,h2,_⟩:=h2;cases h2)|rfl|(cases h2;done)|(obtain⟨_,_,h2,_⟩:=h2;cases h2)|(obtain⟨_,_,h2⟩:=h2;cases h2)
 | .bl b,e,v,n,_,he,h1,h2=>by
   unfold Rep at h1;subst h1
   cases e<;>first|(unfold pl at he;cases he;done)|(unfold Rep at h2;cases h2;rfl)|(unfold Rep at h2;cases h2;done)|(unfold Rep at h2;obtain⟨_,_,h2,_⟩:=h2;cases h2)|(cases h2;rfl)|(cases h2;done)|(obtain⟨_,_,h2,_⟩:=h2;cases h2)|(obtain⟨_,_,h2⟩:=h2;cases h2)
 | .int b,e,v,n,_,he,h1,h2=>by
   unfold Rep at h1;subst h1
   cases e<;>first|(unfold pl at he;cases he;done)|(unfold Rep at h2;cases h2;rfl)|(unfold Rep at h2;cases h2;done)|(unfold Rep at h2;obtain⟨_,_,h2,_⟩:=h2;cases h2)|(cases h2;rfl)|(cases h2;done)|(obtain⟨_,_,h2,_⟩:=h2;cases h2)|(obtain⟨_,_,h2⟩:=h2;cases h2)
 | .str b,e,v,n,_,he,h1,h2=>by
   unfold Rep at h1;subst h1
   cases e<;>first|(unfold pl at he;cases he;done)|(unfold Rep at h2;cases h2;rfl)|(unfold Rep at h2;cases h2;done)|(unfold Rep at h2;obtain⟨_,_,h2,_⟩:=h2;cases h2)|(cases h2;rfl)|(cases h2;done)|(obtain⟨_,_,h2,_⟩:=h2;cases h2)|(obtain⟨_,_,h2⟩:=h2;cases h2)
 | .ty b,e,v,n,hd,he,h1,h2=>by unfold pl at hd;cases hd
 | .ref b,e,v,n,hd,he,h1,h2=>by unfold pl at hd;cases hd
 | .lst xs,e,v,0,hd,he,h1,h2=>by cases hd
 | .tup xs,e,v,0,hd,he,h1,h2=>by cases hd
 | .lst xs,e,v,n+1,hd,he,h1,h2=>by
   unfold Rep at h1
   obtain⟨a,vs,rfl,na,ha,ra⟩:=h1
   cases e<;>unfold Rep at h2<;>try(cases h2;done)
   · unfold pl at he;cases he
   · obtain⟨a',vs',e',na',ha',ra'⟩:=h2
     cases e'
     have:vs=vs':=by
      rcases ha with ha|⟨o,ha⟩<;>rcases ha' with ha'|⟨o',ha'⟩<;>(rw[ha]at ha';first|(cases ha';rfl)|(cases ha';done))
     subst this
     rw[aL.inj n (by unfold pl at hd;exact hd) (by unfold pl at he;exact he) ra ra']
   · obtain⟨a',vs',e',na',ha',ra'⟩:=h2
     cases e'
     rcases ha with ha|⟨o,ha⟩<;>(rw[ha]at ha';cases ha')
 | .tup xs,e,v,n+1,hd,he,h1,h2=>by
   unfold Rep at h1
   obtain⟨a,vs,rfl,na,ha,ra⟩:=h1
   cases e<;>unfold Rep at h2<;>try(cases h2;done)
   · unfold pl at he;cases he
   · obtain⟨a',vs',e',na',ha',ra'⟩:=h2
     cases e'
     rcases ha' with ha'|⟨o,ha'⟩<;>(rw[ha]at ha';cases ha')
   · obtain⟨a',vs',e',na',ha',ra'⟩:=h2
     cases e'
     rw[ha]at ha'
     cases ha'
     rw[aL.inj n (by unfold pl at hd;exact hd) (by unfold pl at he;exact he) ra ra']
theorem aL.inj{α:List (Option Addr)}{H:Hp}:∀ {ds es:List D} {vs:List V} (n:Nat),ds.all (pl n)=true→es.all (pl n)=true→aL α H ds vs→aL α H es vs→ds=es
 | [],es,vs,n,_,_,h1,h2=>by
   unfold aL at h1
   subst h1
   cases es with
   |nil=>rfl
   |cons e es=>unfold aL at h2;obtain⟨_,_,h,_⟩:=h2;cases h
 |d::ds,es,vs,n,hd,he,h1,h2=>by
  unfold aL at h1
  obtain⟨v,r,rfl,r1,r2⟩:=h1
  cases es with
  |nil=>unfold aL at h2;cases h2
  |cons e es=>
   unfold aL at h2
   obtain⟨v',r',h,q1,q2⟩:=h2
   cases h
   rw[List.all_cons,Bool.and_eq_true]at hd he
   rw[Rep.inj n hd.1 he.1 r1 q1,aL.inj n hd.2 he.2 r2 q2]
end
theorem nB:∀ {xs ys:List D},xs.length≠ys.length→kK xs ys=false
 | [],[],h=>absurd rfl h
 | [],_::_,_=>by unfold kK;rfl
 |_::_,[],_=>by unfold kK;rfl
 |x::xs,y::ys,h=>by
  unfold kK
  rw[nB (by simpa using h),Bool.and_false]
theorem nD:∀ {xs ys:List D},xs.length=ys.length→kK xs ys=(List.range xs.length).all fun j=>cH (xs.getD j .aK) (ys.getD j .aK)
 | [],[],_=>by unfold kK;rfl
 | [],_::_,h=>by cases h
 |_::_,[],h=>by cases h
 |x::xs,y::ys,h=>by
  unfold kK
  rw[List.length_cons,List.range_succ_eq_map,List.all_cons,List.all_map,nD (by simpa using h)]
  rfl
section
variable {X:Cx}{pins:List (Addr×Obj)}{σ:L2.St}{H:Hp}{s:Shared}{α:List (Option Addr)}
theorem jv{xs:List D}{vs:List V}{its:List Value}(r:aL α H xs vs)(v:Vals vs its)(j:Nat)(hj:j<its.length):∃x,xs[j]?=some (xs.getD j .aK)∧Rep α H (xs.getD j .aK) x∧RelV x its[j]:=by
 have h1:=r.length
 have h2:=v.length
 have hx:j<xs.length:=by omega
 have e:xs[j]?=some (xs.getD j .aK):=by rw[List.getElem?_eq_getElem hx,List.getD_eq_getElem?_getD,List.getElem?_eq_getElem hx];rfl
 obtain⟨x,q,rr⟩:=r.get e
 obtain⟨u,q2,rv⟩:=v.get q
 rw[List.getElem?_eq_getElem hj]at q2
 cases q2
 exact⟨x,e,rr,rv⟩
theorem ik{xs:List D}{n:Nat}(h:xs.all (pl n)=true)(j:Nat):pl n (xs.getD j .aK)=true:=by
 rw[List.getD_eq_getElem?_getD]
 cases e:xs[j]? with
 |none=>cases n<;>rfl
 |some d=>exact List.all_eq_true.mp h d (List.mem_of_getElem? e)
noncomputable def we:D→Bool
 | .aK=>true
 | .bl _=>true
 | .int _=>true
 | .str _=>true
 |_=>false
theorem AS{A:Around}{d e:D}{x y:V}{u v:Value}(hd:we d=true)(he:we e=true)(rd:Rep α H d x)(re:Rep α H e y)(rx:RelV x u)(ry:RelV y v):RcAt A s u v (cH d e)∧EqAt A s u v (cH d e):=by
 cases d<;>cases e<;>try(first|(cases hd;done)|(cases he;done))
 all_goals(unfold Rep at rd re;subst rd re)
 all_goals(first|(obtain⟨t,rfl⟩:=rx;obtain⟨t',rfl⟩:=ry)|(obtain⟨t,rfl⟩:=rx;cases ry)|(cases rx;obtain⟨t,rfl⟩:=ry)|(cases rx;cases ry))
 all_goals unfold cH
 · exact⟨RcAt.none_none,EqAt.same _⟩
 · exact⟨RcAt.none_bool _,EqAt.none_bool _⟩
 · exact⟨RcAt.none_int _ _,EqAt.none_int _ _⟩
 · exact⟨RcAt.none_str _ _,EqAt.none_str _ _⟩
 · exact⟨RcAt.bool_none _,EqAt.bool_none _⟩
 · exact⟨RcAt.bool_bool _ _,EqAt.bool_bool _ _⟩
 · exact⟨RcAt.bool_int _ _ _,EqAt.bool_int _ _ _⟩
 · exact⟨RcAt.bool_str _ _ _,EqAt.bool_str _ _ _⟩
 · exact⟨RcAt.int_none _ _,EqAt.int_none _ _⟩
 · exact⟨RcAt.int_bool _ _ _,EqAt.int_bool _ _ _⟩
 · exact⟨RcAt.int_int _ _ _ _,EqAt.int_int _ _ _ _⟩
 · exact⟨RcAt.int_str _ _ _ _,EqAt.int_str _ _ _ _⟩
 · exact⟨RcAt.str_none _ _,EqAt.str_none _ _⟩
 · exact⟨RcAt.str_bool _ _ _,EqAt.str_bool _ _ _⟩
 · exact⟨RcAt.str_int _ _ _ _,EqAt.str_int _ _ _ _⟩
 · exact⟨RcAt.str_str _ _ _ _,EqAt.str_str _ _ _ _⟩
theorem lst_is(I:Inv X pins σ H s){xs:List D}{x:V}{u:Value}(r:Rep α H (.lst xs) x)(rx:RelV x u):∃a vs its,u= .ref a∧aL α H xs vs∧Vals vs its∧s.heap.IsList a its.toArray:=by
 unfold Rep at r
 obtain⟨a,vs,rfl,na,ha,ra⟩:=r
 cases rx
 obtain⟨z,its,n,rv,hl,eo⟩:=Inv.vk I ha
 exact⟨a,vs,its,rfl,ra,rv,⟨_,eo,rfl,n,rfl⟩⟩
theorem tup_is(I:Inv X pins σ H s){xs:List D}{x:V}{u:Value}(r:Rep α H (.tup xs) x)(rx:RelV x u):∃a vs its,u= .ref a∧aL α H xs vs∧Vals vs its∧s.heap.IsTuple a its.toArray:=by
 unfold Rep at r
 obtain⟨a,vs,rfl,na,ha,ra⟩:=r
 cases rx
 obtain⟨its,r',p,hz⟩:=I.tuple (ib.of ha)
 exact⟨a,vs,its,rfl,ra,r',p⟩
theorem wZ(I:Inv X pins σ H s){A:Around}{xs:List D}{e:D}{x y:V}{u v:Value}(he:we e=true)(rd:Rep α H (.lst xs) x)(re:Rep α H e y)(rx:RelV x u)(ry:RelV y v)(hu:A.units<cLine):
 (RcAt A s u v (cH (.lst xs) e)∧EqAt A s u v (cH (.lst xs) e))∧RcAt A s v u (cH e (.lst xs))∧EqAt A s v u (cH e (.lst xs)):=by
 obtain⟨a,vs,its,rfl,_,_,hl⟩:=lst_is I rd rx
 cases e<;>try(cases he;done)
 all_goals(unfold Rep at re;subst re)
 all_goals(first|(obtain⟨t,rfl⟩:=ry)|(cases ry))
 all_goals unfold cH
 · exact⟨⟨RcAt.list_none hl hu,EqAt.list_none hl hu⟩,RcAt.none_list hl hu,EqAt.none_list hl hu⟩
 · exact⟨⟨RcAt.list_bool _ hl hu,EqAt.list_bool _ hl hu⟩,RcAt.bool_list _ hl hu,EqAt.bool_list _ hl hu⟩
 · exact⟨⟨RcAt.list_int _ _ hl hu,EqAt.list_int _ _ hl hu⟩,RcAt.int_list _ _ hl hu,EqAt.int_list _ _ hl hu⟩
 · exact⟨⟨RcAt.list_str _ _ hl hu,EqAt.list_str _ _ hl hu⟩,RcAt.str_list _ _ hl hu,EqAt.str_list _ _ hl hu⟩
theorem wX(I:Inv X pins σ H s){A:Around}{xs:List D}{e:D}{x y:V}{u v:Value}(he:we e=true)(rd:Rep α H (.tup xs) x)(re:Rep α H e y)(rx:RelV x u)(ry:RelV y v)(hu:A.units<cLine):
 (RcAt A s u v (cH (.tup xs) e)∧EqAt A s u v (cH (.tup xs) e))∧RcAt A s v u (cH e (.tup xs))∧EqAt A s v u (cH e (.tup xs)):=by
 obtain⟨a,vs,its,rfl,_,_,hl⟩:=tup_is I rd rx
 cases e<;>try(cases he;done)
 all_goals(unfold Rep at re;subst re)
 all_goals(first|(obtain⟨t,rfl⟩:=ry)|(cases ry))
 all_goals unfold cH
 · exact⟨⟨RcAt.tuple_none hl hu,EqAt.tuple_none hl hu⟩,RcAt.none_tuple hl hu,EqAt.none_tuple hl hu⟩
 · exact⟨⟨RcAt.tuple_bool _ hl hu,EqAt.tuple_bool _ hl hu⟩,RcAt.bool_tuple _ hl hu,EqAt.bool_tuple _ hl hu⟩
 · exact⟨⟨RcAt.tuple_int _ _ hl hu,EqAt.tuple_int _ _ hl hu⟩,RcAt.int_tuple _ _ hl hu,EqAt.int_tuple _ _ hl hu⟩
 · exact⟨⟨RcAt.tuple_str _ _ hl hu,EqAt.tuple_str _ _ hl hu⟩,RcAt.str_tuple _ _ hl hu,EqAt.str_tuple _ _ hl hu⟩
theorem Al{A:Around}{n:Nat}{d e:D}{x y:V}{a b:Addr}(hd:pl n d=true)(he:pl n e=true)(rd:Rep α H d x)(re:Rep α H e y)(rx:RelV x (.ref a))(ry:RelV y (.ref b))(h:RcAt A s (.ref a) (.ref b) (cH d e)):
 RcAt A s (.ref a) (.ref b) (cH d e)∧EqAt A s (.ref a) (.ref b) (cH d e):=by
 refine⟨h,?_⟩
 by_cases hab:a=b
 · subst hab
   have hx:x=y:=RelV.inj rx ry
   subst hx
   have:=Rep.inj n hd he rd re
   subst this
   rw[nv n d hd]
   exact EqAt.same _
 · exact EqAt.of_refs hab h
theorem Bz(I:Inv X pins σ H s):∀(n:Nat) (A:Around) (d e:D) (x y:V) (u v:Value),pl n d=true→pl n e=true→Rep α H d x→Rep α H e y→RelV x u→RelV y v→A.units+n<cLine→
 RcAt A s u v (cH d e)∧EqAt A s u v (cH d e):=by
 intro n
 induction n with
 |zero=>
  intro A d e x y u v hd he rd re rx ry hu
  refine AS ?_ ?_ rd re rx ry
  · cases d<;>first|rfl|(cases hd)
  · cases e<;>first|rfl|(cases he)
 |succ n ih=>
  intro A d e x y u v hd he rd re rx ry hu
  have hu0:A.units<cLine:=by omega
  have hin:A.in1.units+n<cLine:=by rw[Around.in1_units];omega
  cases d<;>try(cases hd;done)
  case lst xs=>
   cases e<;>try(cases he;done)
   case lst ys=>
    have rd0:=rd
    have re0:=re
    have rx0:=rx
    have ry0:=ry
    obtain⟨a,vs,its,rfl,r1,v1,l1⟩:=lst_is I rd rx
    obtain⟨b,ws,jts,rfl,r2,v2,l2⟩:=lst_is I re ry
    have e1:=r1.length
    have e2:=v1.length
    have e3:=r2.length
    have e4:=v2.length
    refine Al hd he rd0 re0 rx0 ry0 ?_
    unfold cH
    by_cases hlen:xs.length=ys.length
    · rw[nD hlen]
      have hsz:its.toArray.size=jts.toArray.size:=by simp only[List.size_toArray];omega
      have hx:xs.length=its.toArray.size:=by simp only[List.size_toArray];omega
      rw[hx]
      refine RcAt.lists l1 l2 hsz hu0 fun j h1 h2=>?_
      have h1':j<its.length:=by simpa using h1
      have h2':j<jts.length:=by simpa using h2
      obtain⟨p,_,q1,q2⟩:=jv r1 v1 j h1'
      obtain⟨p',_,q1',q2'⟩:=jv r2 v2 j h2'
      exact(ih A.in1 _ _ p p' _ _ (ik (by unfold pl at hd;exact hd) j) (ik (by unfold pl at he;exact he) j) q1 q1' (by simpa using q2) (by simpa using q2') hin).2
    · rw[nB hlen]
      exact RcAt.lists_lengths l1 l2 (by simp only[List.size_toArray,bne_iff_ne,ne_eq];omega) hu0
   case tup ys=>
    obtain⟨a,vs,its,rfl,r1,v1,l1⟩:=lst_is I rd rx
    obtain⟨b,ws,jts,rfl,r2,v2,l2⟩:=tup_is I re ry
    unfold cH
    exact⟨RcAt.list_tuple l1 l2 hu0,EqAt.list_tuple l1 l2 hu0⟩
   all_goals exact(wZ I rfl rd re rx ry hu0).1
  case tup xs=>
   cases e<;>try(cases he;done)
   case tup ys=>
    have rd0:=rd
    have re0:=re
    have rx0:=rx
    have ry0:=ry
    obtain⟨a,vs,its,rfl,r1,v1,l1⟩:=tup_is I rd rx
    obtain⟨b,ws,jts,rfl,r2,v2,l2⟩:=tup_is I re ry
    have e1:=r1.length
    have e2:=v1.length
    have e3:=r2.length
    have e4:=v2.length
    refine Al hd he rd0 re0 rx0 ry0 ?_
    unfold cH
    have key:=RcAt.tuples (e:=fun j=>cH (xs.getD j .aK) (ys.getD j .aK)) l1 l2 hu0 fun j h1 h2=>by
     have h1':j<its.length:=by simpa using h1
     have h2':j<jts.length:=by simpa using h2
     obtain⟨p,_,q1,q2⟩:=jv r1 v1 j h1'
     obtain⟨p',_,q1',q2'⟩:=jv r2 v2 j h2'
     exact(ih A.in1 _ _ p p' _ _ (ik (by unfold pl at hd;exact hd) j) (ik (by unfold pl at he;exact he) j) q1 q1' (by simpa using q2) (by simpa using q2') hin).2
    by_cases hlen:xs.length=ys.length
    · rw[nD hlen]
      have hsz:its.toArray.size=jts.toArray.size:=by simp only[List.size_toArray];omega
      have hx:xs.length=its.toArray.size:=by simp only[List.size_toArray];omega
      rw[hsz,Nat.min_self,beq_self_eq_true,Bool.and_true,←hsz,←hx]at key
      exact key
    · rw[nB hlen]
      have hne:(its.toArray.size==jts.toArray.size)=false:=by simp only[List.size_toArray,beq_eq_false_iff_ne,ne_eq];omega
      rw[hne,Bool.and_false]at key
      exact key
   case lst ys=>
    obtain⟨a,vs,its,rfl,r1,v1,l1⟩:=tup_is I rd rx
    obtain⟨b,ws,jts,rfl,r2,v2,l2⟩:=lst_is I re ry
    unfold cH
    exact⟨RcAt.tuple_list l1 l2 hu0,EqAt.tuple_list l1 l2 hu0⟩
   all_goals exact(wX I rfl rd re rx ry hu0).1
  all_goals
   cases e<;>try(cases he;done)
   case lst ys=>exact(wZ I rfl re rd ry rx hu0).2
   case tup ys=>exact(wX I rfl re rd ry rx hu0).2
   all_goals exact AS rfl rfl rd re rx ry
noncomputable def Je:cT:=fun x y st K=>pl 40 x=true∧pl 40 y=true∧K (.bl (cH x y)) st
theorem N5{k:Nat}(hr:cO k X.A):bL X (compareOp .Eq) (LR Je):=fun pins s σ H x y v u Q I rx ry ⟨α,d,e,st,K,G,F',P,r1,r2,S,q,k⟩=>by
 have hu:=hr.units
 exact(Bz I 40 X.A d e x y v u q.1 q.2.1 (r1.mono P.same) (r2.mono P.same) rx ry (by omega)).1 _ _ _ _ ⟨.bl (cH d e),H,I,rfl,k.here P q.2.2 S (by unfold Rep;rfl)⟩
noncomputable def Ky:cT:=fun x y st K=>match x,y with
 | .int i,.int j=>K (.bl (!decide (i=j))) st
 | .bl i,.bl j=>K (.bl (!decide (i=j))) st
 | .str i,.str j=>K (.bl (!decide (i=j))) st
 |_,_=>False
theorem NO:bL X (compareOp .NotEq) (LR Ky):=bL.imp LP fun x y H Q ⟨α,d,e,st,K,G,F',P,r1,r2,S,q,k⟩=>by
 cases d<;>cases e<;>try exact q.elim
 all_goals(unfold Rep at r1 r2;subst r1 r2)
 · exact⟨rfl,k.here P q S (by unfold Rep;congr 2;exact decide_eq_decide.mpr ⟨fun h=>by cases h;rfl,fun h=>by rw[h]⟩)⟩
 · exact⟨rfl,k.here P q S (by unfold Rep;congr 2;exact decide_eq_decide.mpr ⟨fun h=>by cases h;rfl,fun h=>by rw[h]⟩)⟩
 · exact⟨rfl,k.here P q S (by unfold Rep;congr 2;exact decide_eq_decide.mpr ⟨fun h=>by cases h;rfl,fun h=>by rw[h]⟩)⟩
end
end L3
namespace L3
open PySem PySem.Spec L2
open PyProof.Rows hiding St
noncomputable def LC(α:List (Option Addr))(G F:Hp)(K:cj→ag→Prop)(Q:L2.St→Hp→Prop):Prop:=∀σd' st',K σd' st'→∀α' G' H' σ',Step α G α' G'→b_ G' F H'→d8 α' G' σd' σ'→aS α' st' G'→Q σ' H'
structure xG(α:List (Option Addr))(G F:Hp)(DD:oC)(D:Ends):Prop where
 nx:LC α G F DD.nx D.nx
 rt:LK α G F DD.rt D.rt
 bk:LC α G F DD.bk D.bk
 ct:LC α G F DD.ct D.ct
inductive NH(t:DS)(D:Ends)(σ:L2.St)(H:Hp):Prop
 |mk (α:List (Option Addr)) (σd:cj) (st:ag) (DD:oC) (G F:Hp) (P:b_ G F H) (R:d8 α G σd σ) (S:aS α st G) (h:t DD σd st) (k:xG α G F DD D):NH t D σ H
noncomputable def LS(t:DS):TS:=NH t
theorem LC.at{α α1:List (Option Addr)}{G F G1:Hp}{K:cj→ag→Prop}{Q:L2.St→Hp→Prop}(h:LC α G F K Q)(s:Step α G α1 G1):LC α1 G1 F K Q:=fun d st' k α' G' H' v s' P R S=>h d st' k α' G' H' v (s.trans s') P R S
theorem LC.here{α:List (Option Addr)}{G F H:Hp}{K:cj→ag→Prop}{Q:L2.St→Hp→Prop}(h:LC α G F K Q)(P:b_ G F H){σd:cj}{st:ag}{σ:L2.St}(k:K σd st)(R:d8 α G σd σ)(S:aS α st G):Q σ H:=h σd st k α G H σ Step.refl P R S
theorem xG.at{α α1:List (Option Addr)}{G F G1:Hp}{DD:oC}{D:Ends}(h:xG α G F DD D)(s:Step α G α1 G1):xG α1 G1 F DD D:=⟨h.nx.at s,h.rt.at s,h.bk.at s,h.ct.at s⟩
section
variable {X:Cx}{a b c e o i:Expr}{es:List Expr}{ta tb tc te:DE}{pos:Pos}{st:Stmt}{sts:List Stmt}{t u:DS}
theorem PS.imp{t t':TS}(h:PS X st t)(f:∀D σ H,t' D σ H→t D σ H):PS X st t':=fun pins s σ H D I q=>h pins s σ H D I (f D σ H q)
theorem gz.imp{t t':TS}(h:gz X sts t)(f:∀D σ H,t' D σ H→t D σ H):gz X sts t':=fun pins s σ H D I q=>h pins s σ H D I (f D σ H q)
noncomputable def cU:DS:=fun D σ st=>D.nx σ st
noncomputable def aH(t u:DS):DS:=fun D σ st=>t {D with nx:=u D} σ st
theorem Iu:gz X [] (LS cU):=gz.imp Iv fun D σ H ⟨α,σd,st,DD,G,F,P,R,S,t,k⟩=>k.nx.here P t R S
theorem IL(h:PS X st (LS t)):gz X [st] (LS t):=Hc h
theorem ET(h:PS X st (LS t))(h2:gz X sts (LS u)):gz X (st::sts) (LS (aH t u)):=gz.imp (Eo h h2) fun D σ H ⟨α,σd,st,DD,G,F,P,R,S,t,k⟩=>
 ⟨α,σd,st,_,G,F,P,R,S,t,fun σd' st' q α' G' H' σ' s' P' R' S'=>⟨α',σd',st',DD,G',F,P',R',S',q,k.at s'⟩,k.rt,k.bk,k.ct⟩
noncomputable def ba(te:DE):DS:=fun D σ st=>te σ st D.rt
theorem Ja(h:PE X e (LE te)):PS X (.Return (some e) pos) (LS (ba te)):=PS.imp (Lv h) fun D σ H ⟨α,σd,st,DD,G,F,P,R,S,t,k⟩=>⟨α,σd,st,_,G,F,P,R,S,t,k.rt⟩
noncomputable def mI(te:DE):DS:=fun D σ st=>te σ st fun _ st1=>D.nx σ st1
theorem GZ(h:PE X e (LE te))(hs:swapsWith e none pos.line X.env=pure false:=by rfl):PS X (.Expr e pos) (LS (mI te)):=PS.imp (IK h hs) fun D σ H ⟨α,σd,st,DD,G,F,P,R,S,t,k⟩=>
 ⟨α,σd,st,_,G,F,P,R,S,t,fun d st1 q α1 G1 H1 v s1 P1 S1 r1=>(k.nx.at s1).here P1 q (R.step s1) S1⟩
noncomputable def d7(c:DT)(t u:DS):DS:=fun D σ st=>c σ st fun b st1=>if b=true then t D σ st1 else u D σ st1
theorem Lz{x y:List Stmt}{tc:DT}(hc:PT X c (LT tc))(ha:gz X x (LS t))(hb:gz X y (LS u)):PS X (.If c x y pos) (LS (d7 tc t u)):=PS.imp (MS hc ha hb) fun D σ H ⟨α,σd,st,DD,G,F,P,R,S,t,k⟩=>by
 refine⟨α,σd,st,_,G,F,P,R,S,t,fun b st1 q α1 G1 H1 s1 P1 S1=>?_⟩
 cases b with
 |true=>exact⟨α1,σd,st1,DD,G1,F,P1,R.step s1,S1,q,k.at s1⟩
 |false=>exact⟨α1,σd,st1,DD,G1,F,P1,R.step s1,S1,q,k.at s1⟩
noncomputable abbrev fL:=D→cj→Option cj
noncomputable def bJ(i:Nat):fL:=fun d σ=>some (σ.set i (some d))
noncomputable def je(i j:Nat):fL:=fun d σ=>match d with| .tup [x,y]=>some ((σ.set i (some x)).set j (some y))|_=>none
inductive Nr(t:fL)(v:V)(σ:L2.St)(H:Hp)(Q:L2.St→Hp→Prop):Prop
 |mk (α:List (Option Addr)) (σd:cj) (st:ag) (d:D) (K:cj→ag→Prop) (G F:Hp) (P:b_ G F H) (R:d8 α G σd σ) (S:aS α st G) (r:Rep α G d v) (h:∃σ',t d σd=some σ'∧K σ' st) (k:LC α G F K Q):Nr t v σ H Q
noncomputable def LG(t:fL):TG:=Nr t
theorem PG.imp{tg:Expr}{t t':TG}(h:PG X tg t)(f:∀v σ H Q,t' v σ H Q→t v σ H Q):PG X tg t':=fun pins s σ H v u Q I r q=>h pins s σ H v u Q I r (f v σ H Q q)
theorem IG{tg:Expr}{i:Nat}(h:PG X tg (mM i)):PG X tg (LG (bJ i)):=PG.imp h fun v σ H Q ⟨α,σd,st,d,K,G,F,P,R,S,r,⟨σ',e,q⟩,k⟩=>by
 cases e
 exact k.here P q (R.set i r) S
theorem Kx{tg:Expr}{i j:Nat}(h:PG X tg (JZ X.K 2 (AZ (mM i) (AZ (mM j) Kb)))):PG X tg (LG (je i j)):=PG.imp h fun v σ H Q ⟨α,σd,st,d,K,G,F,P,R,S,r,⟨σ',e,q⟩,k⟩=>by
 unfold je at e
 split at e
 · rename_i x y
   cases e
   unfold Rep at r
   obtain⟨a,vs,rfl,na,h1,h2⟩:=r
   obtain⟨v1,v2,rfl,r1,r2⟩:=oq h2 rfl
   exact⟨a,_,rfl,.of (P.get h1),rfl,v1,_,rfl,v2,_,rfl,rfl,k.here P q ((R.set i r1).set j r2) S⟩
 · cases e
noncomputable def bg(i:Nat)(te:DE):DS:=fun D σ st=>te σ st fun d st1=>D.nx (σ.set i (some d)) st1
theorem JX{i:Nat}(h:PS X st (oF (LE te) (mM i))):PS X st (LS (bg i te)):=PS.imp h fun D σ H ⟨α,σd,st,DD,G,F,P,R,S,t,k⟩=>
 ⟨α,σd,st,_,G,F,P,R,S,t,fun d st1 q α1 G1 H1 v s1 P1 S1 r1=>(k.nx.at s1).here P1 q ((R.step s1).set i r1) S1⟩
noncomputable def E3(tg:fL)(te:DE):DS:=fun D σ st=>te σ st fun d st1=>∃σ',tg d σ=some σ'∧D.nx σ' st1
theorem Kv{tg:fL}(h:PS X st (oF (LE te) (LG tg))):PS X st (LS (E3 tg te)):=PS.imp h fun D σ H ⟨α,σd,st,DD,G,F,P,R,S,t,k⟩=>
 ⟨α,σd,st,_,G,F,P,R,S,t,fun d st1 q α1 G1 H1 v s1 P1 S1 r1=>⟨α1,σd,st1,d,DD.nx,G1,F,P1,R.step s1,S1,r1,q,k.nx.at s1⟩⟩
noncomputable def BO(i:Nat)(r:cT)(te:DE):DS:=fun D σ st=>match σ[i]? with|some (some x)=>te σ st fun y st1=>r x y st1 fun z st2=>D.nx (σ.set i (some z)) st2|_=>False
noncomputable def zE(f:Int→Int→Int):cT:=fun x y st K=>match x,y with| .int i,.int j=>K (.int (f i j)) st|_,_=>False
theorem Jo{i:Nat}{f:Int→Int→Int}(h:PS X st (Ll i (LE te) (Ls f))):PS X st (LS (BO i (zE f) te)):=PS.imp h fun D σ H ⟨α,σd,st,DD,G,F,P,R,S,t,k⟩=>by
 unfold BO at t
 split at t
 · rename_i x e
   obtain⟨v,ev,rv⟩:=R.at' i x e
   refine⟨v,ev,α,σd,st,_,G,F,P,R,S,t,fun y st1 q α1 G1 H1 w s1 P1 S1 r1=>?_⟩
   cases x<;>cases y<;>try exact q.elim
   have rv':=rv
   unfold Rep at rv r1
   exact⟨_,_,rv,r1,(k.nx.at s1).here P1 q ((R.step s1).set i (by unfold Rep;rfl)) S1⟩
 · exact t.elim
noncomputable def BZ(x y d:D)(st:ag)(K:ag→Prop):Prop:=match x,y with
 | .ref n,.int k=>(match st[n]? with
   |some (.lst xs)=>(match mi xs.length k with|some j=>K (st.set n (.lst (xs.set j d)))|none=>False)
   |_=>False)
 |_,_=>False
noncomputable def KU(to ti te:DE):DS:=fun D σ st=>te σ st fun d st1=>to σ st1 fun x st2=>ti σ st2 fun y st3=>BZ x y d st3 fun st4=>D.nx σ st4
theorem Fb{to ti:DE}(h:PS X st (oF (LE te) (AU (LE to) (LE ti) xH))):PS X st (LS (KU to ti te)):=PS.imp h fun D σ H ⟨α,σd,st,DD,G,F,P,R,S,t,k⟩=>by
 refine⟨α,σd,st,_,G,F,P,R,S,t,fun d st1 q α1 G1 H1 v s1 P1 S1 r1=>?_⟩
 refine⟨α1,σd,st1,_,G1,F,P1,R.step s1,S1,q,fun x st2 q2 α2 G2 H2 v2 s2 P2 S2 r2=>?_⟩
 refine⟨α2,σd,st2,_,G2,F,P2,(R.step s1).step s2,S2,q2,fun y st3 q3 α3 G3 H3 v3 s3 P3 S3 r3=>?_⟩
 cases x<;>cases y<;>try exact q3.elim
 rename_i n kk
 unfold BZ at q3
 simp only at q3
 split at q3
 · rename_i xs e
   split at q3
   · rename_i j ej
     obtain⟨p,ep,vs,hv,rv⟩:=S3.jh e
     have r2':=dQ ep (r2.step s3)
     subst r2'
     unfold Rep at r3
     have hm:some p∈α3:=List.mem_of_getElem? ep
     have rd:=(r1.step s2).step s3
     refine⟨p,vs,kk,j,rfl,r3,P3.get hv,by rw[←rv.length];exact ej,?_⟩
     refine(((k.nx.at s1).at s2).at s3) σd _ q3 α3 (upd G3 p (.lst (vs.set j v))) _ σ (Step.write hm) (P3.write hv) ((((R.step s1).step s2).step s3).step (Step.write hm)) ?_
     exact S3.write ep ⟨vs.set j v,aZ,(bh.mpr (u9 rd j (bh.mp rv))).step (Step.write hm)⟩
   · exact q3.elim
 · exact q3.elim
noncomputable def pd(c:DT)(tb:DS):DS:=fun D σ st=>∃W:Nat→cj→ag→Prop,(∃m,W m σ st)∧∀m σ st,W m σ st→
 c σ st fun b st1=>if b=true then tb {D with nx:=fun σ' st'=>∃m',m'<m∧W m' σ' st',ct:=fun σ' st'=>∃m',m'<m∧W m' σ' st',bk:=D.nx} σ st1 else D.nx σ st1
theorem Fi{tc:DT}(h:PS X st (CD (LT tc) (LS t))):PS X st (LS (pd tc t)):=PS.imp h fun D σ H ⟨α,σd,st,DD,G,F,P,R,S,⟨W,⟨m0,w0⟩,turn⟩,k⟩=>by
 refine⟨fun m σ' H'=>∃α' σd' st' G',Step α G α' G'∧b_ G' F H'∧d8 α' G' σd' σ'∧aS α' st' G'∧W m σd' st',⟨m0,α,σd,st,G,Step.refl,P,R,S,w0⟩,?_⟩
 rintro m σ1 H1 ⟨α1,σd1,st1,G1,s1,P1,R1,S1,w1⟩
 refine⟨α1,σd1,st1,_,G1,F,P1,R1,S1,turn m σd1 st1 w1,fun b st2 q α2 G2 H2 s2 P2 S2=>?_⟩
 cases b with
 |false=>exact((k.nx.at s1).at s2).here P2 q (R1.step s2) S2
 |true=>
  refine⟨fun σ' H'=>∃m',m'<m∧∃α' σd' st' G',Step α G α' G'∧b_ G' F H'∧d8 α' G' σd' σ'∧aS α' st' G'∧W m' σd' st',fun σ' H' z=>z,?_⟩
  refine⟨α2,σd1,st2,_,G2,F,P2,R1.step s2,S2,q,?_⟩
  refine⟨?_,(k.rt.at s1).at s2,(k.nx.at s1).at s2,?_⟩
  · rintro σd3 st3 ⟨m',hm,w3⟩ α3 G3 H3 σ3 s3 P3 R3 S3
    exact⟨m',hm,α3,σd3,st3,G3,(s1.trans s2).trans s3,P3,R3,S3,w3⟩
  · rintro σd3 st3 ⟨m',hm,w3⟩ α3 G3 H3 σ3 s3 P3 R3 S3
    exact⟨m',hm,α3,σd3,st3,G3,(s1.trans s2).trans s3,P3,R3,S3,w3⟩
noncomputable abbrev DI:=cj→ag→(List D→(ag→Prop)→ag→Prop)→Prop
structure tO(J:It)(α:List (Option Addr))(G:Hp)(ok:ag→Prop)(xs:List D):Prop where
 stop:∀(n:Nat) α' G' F' H' st',Step α G α' G'→b_ G' F' H'→aS α' st' G'→ok st'→xs.length≤n→J.stop n H'
 go:∀(n:Nat) d α' G' F' H' st',Step α G α' G'→b_ G' F' H'→aS α' st' G'→ok st'→xs[n]?=some d→J.go n H'
 og:∀(n:Nat) d α' G' F' H' st' x H'',Step α G α' G'→b_ G' F' H'→aS α' st' G'→ok st'→xs[n]?=some d→J.og n H' x H''→∃G'',Step α' G' α' G''∧b_ G'' F' H''∧aS α' st' G''∧Rep α' G'' d x
noncomputable def LI(t:DI):TI:=fun σ H R=>∃α σd st K G F,b_ G F H∧d8 α G σd σ∧aS α st G∧t σd st K∧∀xs ok st1,K xs ok st1→∀J α1 G1 H1,Step α G α1 G1→b_ G1 F H1→aS α1 st1 G1→tO J α1 G1 ok xs→R J H1
noncomputable def yb(d:D)(st1:ag)(K:List D→(ag→Prop)→ag→Prop):Prop:=match d with
 | .lst xs=>K xs (fun _=>True) st1
 | .tup xs=>K xs (fun _=>True) st1
 | .ref n=>(match st1[n]? with|some (.lst xs)=>K xs (fun st'=>st'[n]?=some (.lst xs)) st1|_=>False)
 |_=>False
noncomputable def MX(t:DE):DI:=fun σ st K=>t σ st fun d st1=>yb d st1 K
theorem Ao{K:PySem.W.Frag}{a:Addr}{α:List (Option Addr)}{G:Hp}{ok:ag→Prop}{xs:List D}
 (h:∀α' G' st',Step α G α' G'→aS α' st' G'→ok st'→∃vs,Rd G' a (.lst vs)∧aL α' G' xs vs):tO (Ke K a) α G ok xs where
 stop:=fun n α' G' F' H' st' s P S o hn=>by
  obtain⟨vs,h1,h2⟩:=h α' G' st' s S o
  exact⟨vs,.inl (gh P h1),by rw[←h2.length];exact hn⟩
 go:=fun n d α' G' F' H' st' s P S o hn=>by
  obtain⟨vs,h1,h2⟩:=h α' G' st' s S o
  obtain⟨v,e,_⟩:=h2.get hn
  exact⟨vs,v,.inl (gh P h1),e⟩
 og:=fun n d α' G' F' H' st' x H'' s P S o hn y=>by
  obtain⟨vs,h1,h2⟩:=h α' G' st' s S o
  obtain⟨v,e,r⟩:=h2.get hn
  obtain⟨rfl,y⟩:=y
  have:=y vs (.inl (gh P h1))
  rw[e]at this
  cases this
  exact⟨G',Step.refl,P,S,r⟩
theorem IV{K:PySem.W.Frag}{a:Addr}{α:List (Option Addr)}{G:Hp}{ok:ag→Prop}{xs:List D}
 (h:∀α' G' st',Step α G α' G'→aS α' st' G'→ok st'→∃vs,G' a=some (.tup vs)∧aL α' G' xs vs):tO (KH K a) α G ok xs where
 stop:=fun n α' G' F' H' st' s P S o hn=>by
  obtain⟨vs,h1,h2⟩:=h α' G' st' s S o
  exact⟨vs,.of (P.get h1),by rw[←h2.length];exact hn⟩
 go:=fun n d α' G' F' H' st' s P S o hn=>by
  obtain⟨vs,h1,h2⟩:=h α' G' st' s S o
  obtain⟨v,e,_⟩:=h2.get hn
  exact⟨vs,v,.of (P.get h1),e⟩
 og:=fun n d α' G' F' H' st' x H'' s P S o hn y=>by
  obtain⟨vs,h1,h2⟩:=h α' G' st' s S o
  obtain⟨v,e,r⟩:=h2.get hn
  obtain⟨rfl,y⟩:=y
  have:=y vs (.of (P.get h1))
  rw[e]at this
  cases this
  exact⟨G',Step.refl,P,S,r⟩
theorem Er{α α':List (Option Addr)}{G G':Hp}{a:Addr}{vs:List V}{xs:List D}(s:Step α G α' G')(na:some a∉α)(h1:Rd G a (.lst vs))(h2:aL α G xs vs):Rd G' a (.lst vs)∧aL α' G' xs vs:=by
 refine⟨?_,h2.step s⟩
 rcases h1 with h|⟨o,h⟩
 · exact .inl (s.ext _ _ na h)
 · exact .inr ⟨o,s.ext _ _ na h⟩
theorem Lc{l tg:Expr}{tl:DE}(hl:PE X l (LE tl)):PI X tg l (LI (MX tl)):=by
 intro pins s σ H R I h
 obtain⟨α,σd,st,K,G,F,P,RS,S,t,k⟩:=h
 refine bR (hl pins s σ H (fun x H1=>∃d α1 G1 st1,Step α G α1 G1∧b_ G1 F H1∧aS α1 st1 G1∧Rep α1 G1 d x∧yb d st1 K) I ⟨α,σd,st,_,G,F,P,RS,S,t,fun d st1 q α1 G1 H1 v s1 P1 S1 r1=>⟨d,α1,G1,st1,s1,P1,S1,r1,q⟩⟩) fun v s1 ⟨x,H1,I1,rx,d,α1,G1,st1,s1',P1,S1,r1,q⟩=>?_
 unfold yb at q
 have viaL:∀ {a:Addr} {vs:List V},x= .ref a→Rd H1 a (.lst vs)→R (Ke X.K a) H1→wpAny (model X.prog X.w) X.A (pyIter v) (Gv X pins σ tg R) X.xe s1:=by
  intro a vs ex hr hR
  subst ex
  cases rx
  obtain⟨its,rv,p,hz⟩:=I1.list (.inl hr)
  refine wpAny_pyIter_list p.isList ?_
  refine⟨s1.heap.objs.size,[s1.heap.objs.size],_,_,H1,rfl,I1.kept (t':=s1.toks) fun b o e=>Heap.get?_push_of_some _ e,Dr a _,⟨_,Heap.get?_push_size _ rfl,rfl,rfl⟩,fun b hb=>?_,hR⟩
  have e:b=s1.heap.objs.size:=by simpa using hb
  subst e
  exact I1.t6 (Nat.le_refl _) (I1.aN.fresh (Nat.le_refl _))
 have viaT:∀ {a:Addr} {vs:List V},x= .ref a→H1 a=some (.tup vs)→R (KH X.K a) H1→wpAny (model X.prog X.w) X.A (pyIter v) (Gv X pins σ tg R) X.xe s1:=by
  intro a vs ex hr hR
  subst ex
  cases rx
  obtain⟨its,rv,p,hz⟩:=I1.tuple (ib.of hr)
  refine wpAny_pyIter_tuple (show s1.heap.IsTuple a its.toArray from p) ?_
  refine⟨s1.heap.objs.size,[s1.heap.objs.size],_,_,H1,rfl,I1.kept (t':=s1.toks) fun b o e=>Heap.get?_push_of_some _ e,AY a _,⟨_,Heap.get?_push_size _ rfl,rfl,rfl⟩,fun b hb=>?_,hR⟩
  have e:b=s1.heap.objs.size:=by simpa using hb
  subst e
  exact I1.t6 (Nat.le_refl _) (I1.aN.fresh (Nat.le_refl _))
 cases d<;>try exact q.elim
 · rename_i n
   simp only at q
   split at q
   · rename_i xs e
     obtain⟨a,ea,vs,h1,h2⟩:=S1.jh e
     have r1':=dQ ea r1
     subst r1'
     refine viaL rfl (gh P1 (.of h1)) (k _ _ st1 q _ α1 G1 H1 s1' P1 S1 (Ao fun α' G' st' s S o=>?_))
     obtain⟨b,eb,ws,g1,g2⟩:=S.jh o
     have hb:b=a:=by
      rcases s.pre _ _ ea with z|z<;>(rw[z]at eb;cases eb)
      rfl
     subst hb
     exact⟨ws,.of g1,g2⟩
   · exact q.elim
 · unfold Rep at r1
   obtain⟨a,vs,rfl,na,ha,ra⟩:=r1
   exact viaL rfl (gh P1 ha) (k _ _ st1 q _ α1 G1 H1 s1' P1 S1 (Ao fun α' G' st' s S o=>⟨vs,Er s na ha ra⟩))
 · unfold Rep at r1
   obtain⟨a,vs,rfl,na,ha,ra⟩:=r1
   exact viaT rfl (P1.get ha) (k _ _ st1 q _ α1 G1 H1 s1' P1 S1 (IV fun α' G' st' s S o=>⟨vs,s.ext _ _ na ha,ra.step s⟩))
noncomputable def dY(lo:Int)(n:Nat):List D:=(List.range n).map fun(k:Nat)=>D.int (lo+(k:Int))
theorem uV{lo:Int}{n k:Nat}:(dY lo n)[k]?=if k<n then some (.int (lo+(k:Int)))else none:=by
 unfold dY
 rw[List.getElem?_map]
 by_cases h:k<n
 · rw[List.getElem?_range h,if_pos h];rfl
 · rw[List.getElem?_eq_none (by simpa using h),if_neg h];rfl
theorem dR{lo:Int}{n:Nat}:(dY lo n).length=n:=by unfold dY;simp
theorem x4{α:List (Option Addr)}{G:Hp}{lo:Int}{n:Nat}:tO (w9 lo n) α G (fun _=>True) (dY lo n) where
 stop:=fun m α' G' F' H' st' s P S o hn=>by rw[dR]at hn;exact hn
 go:=fun m d α' G' F' H' st' s P S o hn=>by
  rw[uV]at hn
  split at hn
  · assumption
  · cases hn
 og:=fun m d α' G' F' H' st' x H'' s P S o hn y=>by
  obtain⟨rfl,rfl⟩:=y
  rw[uV]at hn
  split at hn
  · cases hn
    exact⟨G',Step.refl,P,S,by unfold Rep;rfl⟩
  · cases hn
theorem PI.imp{tg iter:Expr}{t t':TI}(h:PI X tg iter t)(f:∀σ H R,t' σ H R→t σ H R):PI X tg iter t':=fun pins s σ H R I q=>h pins s σ H R I (f σ H R q)
noncomputable def FN(ds:List D)(st1:ag)(K:List D→(ag→Prop)→ag→Prop):Prop:=match ds with
 | [.int j]=>(-(2^62)≤j∧j<2^62)∧K (dY 0 j.toNat) (fun _=>True) st1
 |_=>False
noncomputable def Gf(ds:List D)(st1:ag)(K:List D→(ag→Prop)→ag→Prop):Prop:=match ds with
 | [.int i,.int j]=>(-(2^62)≤i∧i<2^62∧ -(2^62)≤j∧j<2^62)∧K (dY i (j-i).toNat) (fun _=>True) st1
 |_=>False
noncomputable def Ip(t:DA):DI:=fun σ st K=>t σ st fun ds st1=>FN ds st1 K
noncomputable def Hf(t:DA):DI:=fun σ st K=>t σ st fun ds st1=>Gf ds st1 K
theorem Ea{tg iter:Expr}{t:DA}(h:PI X tg iter (Bc (LA t))):PI X tg iter (LI (Ip t)):=PI.imp h fun σ H R ⟨α,σd,st,K,G,F,P,RS,S,t,k⟩=>by
 refine⟨α,σd,st,_,G,F,P,RS,S,t,fun ds st1 q α1 G1 H1 vs s1 P1 S1 r1=>?_⟩
 match ds,q,r1 with
 | [.int j],q,r1=>
   obtain⟨v,rfl,r2⟩:=gN r1 rfl
   unfold Rep at r2
   subst r2
   exact⟨j,rfl,q.1.1,q.1.2,k _ _ st1 q.2 _ α1 G1 H1 s1 P1 S1 x4⟩
theorem Dg{tg iter:Expr}{t:DA}(h:PI X tg iter (A_ (LA t))):PI X tg iter (LI (Hf t)):=PI.imp h fun σ H R ⟨α,σd,st,K,G,F,P,RS,S,t,k⟩=>by
 refine⟨α,σd,st,_,G,F,P,RS,S,t,fun ds st1 q α1 G1 H1 vs s1 P1 S1 r1=>?_⟩
 match ds,q,r1 with
 | [.int i,.int j],q,r1=>
   obtain⟨v,u,rfl,r2,r3⟩:=oq r1 rfl
   unfold Rep at r2 r3
   subst r2 r3
   exact⟨i,j,rfl,q.1,k _ _ st1 q.2 _ α1 G1 H1 s1 P1 S1 x4⟩
noncomputable def ix(tg:fL)(body:DS)(ok:ag→Prop)(E:oC):List D→cj→ag→Prop
 | [],σ,st=>ok st∧E.nx σ st
 |x::xs,σ,st=>ok st∧∃σ1,tg x σ=some σ1∧body {E with nx:=ix tg body ok E xs,ct:=ix tg body ok E xs,bk:=E.nx} σ1 st
noncomputable def hJ(src:DI)(tg:fL)(body:DS):DS:=fun D σ st=>src σ st fun xs ok st1=>ix tg body ok D xs σ st1
theorem JQ{src:DI}{tg:fL}(h:PS X st (Lg (LI src) (LG tg) (LS t))):PS X st (LS (hJ src tg t)):=PS.imp h fun D σ H ⟨α,σd,st,DD,G,F,P,R,S,tt,k⟩=>by
 refine⟨α,σd,st,_,G,F,P,R,S,tt,fun xs ok st1 q J α1 G1 H1 s1 P1 S1 it=>?_⟩
 refine⟨fun i m σ' H'=>∃α' σd' st' G',Step α1 G1 α' G'∧b_ G' F H'∧d8 α' G' σd' σ'∧aS α' st' G'∧ix tg t ok DD (xs.drop i) σd' st'∧m=xs.length-i,⟨xs.length,α1,σd,st1,G1,Step.refl,P1,R.step s1,S1,q,rfl⟩,?_⟩
 rintro i m σ2 H2 ⟨α2,σd2,st2,G2,s2,P2,R2,S2,q2,rfl⟩
 cases e:xs[i]? with
 |none=>
  have hl:xs.length≤i:=List.getElem?_eq_none_iff.mp e
  rw[List.drop_eq_nil_of_le hl]at q2
  unfold ix at q2
  exact .inl ⟨it.stop i α2 G2 F H2 st2 s2 P2 S2 q2.1 hl,((k.nx.at s1).at s2).here P2 q2.2 R2 S2⟩
 |some d=>
  have hl:i<xs.length:=(List.getElem?_eq_some_iff.mp e).1
  have ed:xs.drop i=d::xs.drop (i+1):=by
   rw[List.drop_eq_getElem_cons hl]
   congr 1
   rw[List.getElem?_eq_getElem hl]at e
   exact Option.some.inj e
  rw[ed]at q2
  unfold ix at q2
  obtain⟨aN,σ3,e3,q3⟩:=q2
  refine .inr ⟨it.go i d α2 G2 F H2 st2 s2 P2 S2 aN e,fun σ' H'=>∃α' σd' st' G',Step α1 G1 α' G'∧b_ G' F H'∧d8 α' G' σd' σ'∧aS α' st' G'∧ix tg t ok DD (xs.drop (i+1)) σd' st',?_,?_⟩
  · rintro σ' H' ⟨α',σd',st',G',z1,z2,z3,z4,z5⟩
    exact⟨xs.length-(i+1),by omega,α',σd',st',G',z1,z2,z3,z4,z5,rfl⟩
  · intro x H' y
    obtain⟨G3,s3,P3,S3,r3⟩:=it.og i d α2 G2 F H2 st2 x H' s2 P2 S2 aN e y
    refine⟨α2,σd2,st2,d,fun σ' st'=>σ'=σ3∧st'=st2,G3,F,P3,R2.step s3,S3,r3,⟨σ3,e3,rfl,rfl⟩,?_⟩
    rintro σ' st' ⟨rfl,rfl⟩ α4 G4 H4 σ4 s4 P4 R4 S4
    have s24:=(s2.trans s3).trans s4
    refine⟨α4,σ',st',_,G4,F,P4,R4,S4,q3,?_,((k.rt.at s1).at s24),(k.nx.at s1).at s24,?_⟩
    · intro σd5 st5 q5 α5 G5 H5 σ5 s5 P5 R5 S5
      exact⟨α5,σd5,st5,G5,s24.trans s5,P5,R5,S5,q5⟩
    · intro σd5 st5 q5 α5 G5 H5 σ5 s5 P5 R5 S5
      exact⟨α5,σd5,st5,G5,s24.trans s5,P5,R5,S5,q5⟩
end
end L3
namespace L3
open PySem PySem.Spec L2
open PyProof.Rows hiding St
noncomputable def gu(fr:List (Option Nat))(σ:cj):cj:=fr.map fun o=>o.bind fun j=>(σ[j]?).join
theorem d8.comp{α:List (Option Addr)}{G:Hp}{σd:cj}{σ:L2.St}{fr:List (Option Nat)}(h:d8 α G σd σ):d8 α G (gu fr σd) (σC fr σ):=by
 refine⟨by unfold gu σC;simp,fun i d e=>?_⟩
 unfold gu at e
 rw[List.getElem?_map]at e
 cases q:fr[i]? with
 |none=>rw[q]at e;cases e
 |some o=>
  rw[q]at e
  cases o with
  |none=>simp at e
  |some j=>
   simp only[Option.map_some,Option.some.injEq,Option.bind_some]at e
   have ej:σd[j]?=some (some d):=by
    cases r:σd[j]? with
    |none=>rw[r]at e;cases e
    |some u=>rw[r]at e;simp at e;rw[e]
   obtain⟨v,ev,rv⟩:=h.at' j d ej
   refine⟨v,?_,rv⟩
   unfold σC
   rw[List.getElem?_map,q]
   simp[ev]
noncomputable def dg(tg:fL)(c:DT)(te:DE)(ok:ag→Prop)(σc:cj):List D→List D→ag→(List D→ag→Prop)→Prop
 | [],acc,st,K=>ok st∧K acc st
 |x::xs,acc,st,K=>ok st∧∃σ2,tg x σc=some σ2∧c σ2 st fun b st1=>if b=true then te σ2 st1 fun y st2=>dg tg c te ok σc xs (acc++[y]) st2 K else dg tg c te ok σc xs acc st1 K
noncomputable def dG(src:DI)(fr:List (Option Nat))(tg:fL)(c:DT)(te:DE):DE:=fun σ st K=>src σ st fun xs ok st1=>xs.length≤sizeLine∧dg tg c te ok (gu fr σ) xs [] st1 fun ys st2=>K (.lst ys) st2
noncomputable def qK(src:DI)(fr:List (Option Nat))(tg:fL)(c:DT)(te:DE):DE:=fun σ st K=>src σ st fun xs ok st1=>xs.length≤sizeLine∧dg tg c te ok (gu fr σ) xs [] st1 fun ys st2=>K (.ref st2.length) (st2++[.lst ys])
noncomputable def cQ:DT:=fun _ st K=>K true st
noncomputable def sP(fr:List (Option Nat))(tg:fL):Prop:=∀(σ:cj) (d:D) (σ2:cj),tg d (gu fr σ)=some σ2→σ2.length=(gu fr σ).length∧∀(i:Nat) (e:D),(gu fr σ)[i]?=some (some e)→σ2[i]?=some (some e)
theorem qY{fr:List (Option Nat)}{σ:cj}{k:Nat}(h:fr[k]?=some none){e:D}(q:(gu fr σ)[k]?=some (some e)):False:=by
 unfold gu at q
 rw[List.getElem?_map,h]at q
 simp at q
theorem cm{fr:List (Option Nat)}{k:Nat}(h:fr[k]?=some none:=by rfl):sP fr (bJ k):=fun σ d σ2 e=>by
 cases e
 refine⟨List.length_set,fun i x q=>?_⟩
 by_cases hi:i=k
 · subst hi;exact(qY h q).elim
 · rw[List.getElem?_set_ne (Ne.symm hi)];exact q
theorem HB{fr:List (Option Nat)}{k j:Nat}(h:fr[k]?=some none:=by rfl)(h':fr[j]?=some none:=by rfl):sP fr (je k j):=fun σ d σ2 e=>by
 unfold je at e
 split at e
 · cases e
   refine⟨by rw[List.length_set,List.length_set],fun i x q=>?_⟩
   by_cases hi:i=k
   · subst hi;exact(qY h q).elim
   · by_cases hj:i=j
     · subst hj;exact(qY h' q).elim
     · rw[List.getElem?_set_ne (Ne.symm hj),List.getElem?_set_ne (Ne.symm hi)];exact q
 · cases e
section
variable {X:Cx}
theorem Jl{c:Expr}{t:DT}(h:PT X c (LT t)):rE X [c] (LT t):=Im h
theorem E1:rE X [] (LT cQ):=fun pins s σ H Q I ⟨α,σd,st,K,G,F,P,R,S,t,k⟩=>HD pins s σ H Q I (k true st t α G H Step.refl P S)
theorem LE.comp{src:DI}{fr:List (Option Nat)}{tg:fL}{c:DT}{te:DE}(fit:sP fr tg){σ:L2.St}{H:Hp}{Q:VK}{α:List (Option Addr)}{σd:cj}{st:ag}{KE:List D→ag→Prop}{G F:Hp}(P:b_ G F H)(R:d8 α G σd σ)(S:aS α st G)
 (t:src σd st fun xs ok st1=>xs.length≤sizeLine∧dg tg c te ok (gu fr σd) xs [] st1 KE)
 (fin:∀ys st2 α2 G2 H2 l vs,KE ys st2→Step α G α2 G2→b_ G2 (upd F l (.lst vs)) H2→F l=none→aS α2 st2 G2→aL α2 G2 ys vs→Q (.ref l) H2):
 uw (LI src) fr (LG tg) (LT c) (LE te) σ H Q:=by
 refine⟨α,σd,st,_,G,F,P,R,S,t,fun xs ok st1 q J α1 G1 H1 s1 P1 S1 it l hl=>?_⟩
 obtain⟨hsz,q⟩:=q
 obtain⟨hG,hF⟩:=P1.none hl
 refine⟨fun i m σ' H'=>∃α' st' G' acc vs,Step α1 G1 α' G'∧b_ G' (upd F l (.lst vs)) H'∧d8 α' G' (gu fr σd) σ'∧aS α' st' G'∧aL α' G' acc vs∧acc.length≤i∧i≤xs.length∧dg tg c te ok (gu fr σd) (xs.drop i) acc st' KE∧m=xs.length-i,
  ⟨xs.length,α1,st1,G1,[],[],Step.refl,P1.hide hl,(R.step s1).comp,S1,by unfold aL;rfl,Nat.le_refl _,Nat.zero_le _,q,rfl⟩,?_⟩
 rintro i m σ2 H2 ⟨α2,st2,G2,acc,vs,s2,P2,R2,S2,ra,hacc,hi,q2,rfl⟩
 cases e:xs[i]? with
 |none=>
  have hl2:xs.length≤i:=List.getElem?_eq_none_iff.mp e
  rw[List.drop_eq_nil_of_le hl2]at q2
  unfold dg at q2
  exact .inl ⟨it.stop i α2 G2 _ H2 st2 s2 P2 S2 q2.1 hl2,fin acc st2 α2 G2 H2 l vs q2.2 (s1.trans s2) P2 hF S2 ra⟩
 |some d=>
  have hl2:i<xs.length:=(List.getElem?_eq_some_iff.mp e).1
  have ed:xs.drop i=d::xs.drop (i+1):=by
   rw[List.drop_eq_getElem_cons hl2]
   congr 1
   rw[List.getElem?_eq_getElem hl2]at e
   exact Option.some.inj e
  rw[ed]at q2
  unfold dg at q2
  obtain⟨aN,σ3,e3,q3⟩:=q2
  refine .inr ⟨it.go i d α2 G2 _ H2 st2 s2 P2 S2 aN e,fun σ' H'=>∃α' st' G' acc vs,Step α1 G1 α' G'∧b_ G' (upd F l (.lst vs)) H'∧d8 α' G' (gu fr σd) σ'∧aS α' st' G'∧aL α' G' acc vs∧acc.length≤i+1∧dg tg c te ok (gu fr σd) (xs.drop (i+1)) acc st' KE,?_,?_⟩
  · rintro σ' H' ⟨α',st',G',acc',vs',z1,z2,z3,z4,z5,z6,z7⟩
    exact⟨xs.length-(i+1),by omega,α',st',G',acc',vs',z1,z2,z3,z4,z5,z6,hl2,z7,rfl⟩
  · intro x H' y
    obtain⟨G3,s3,P3,S3,r3⟩:=it.og i d α2 G2 _ H2 st2 x H' s2 P2 S2 aN e y
    refine⟨α2,gu fr σd,st2,d,fun σ' st'=>σ'=σ3∧st'=st2,G3,_,P3,R2.step s3,S3,r3,⟨σ3,e3,rfl,rfl⟩,?_⟩
    rintro σ' st' ⟨rfl,rfl⟩ α4 G4 H4 σ4 s4 P4 R4 S4
    have s24:=(s2.trans s3).trans s4
    have Rc:d8 α4 G4 (gu fr σd) σ4:=⟨by rw[←(fit σd d σ' e3).1];exact R4.len,fun j z hz=>R4.at' j z ((fit σd d σ' e3).2 j z hz)⟩
    refine⟨α4,σ',st',_,G4,_,P4,R4,S4,q3,fun b st5 q5 α5 G5 H5 s5 P5 S5=>?_⟩
    cases b with
    |false=>exact⟨α5,st5,G5,acc,vs,s24.trans s5,P5,Rc.step s5,S5,((ra.step s3).step s4).step s5,by omega,q5⟩
    |true=>
     refine⟨α5,σ',st5,_,G5,_,P5,R4.step s5,S5,q5,fun z st6 q6 α6 G6 H6 v6 s6 P6 S6 r6=>?_⟩
     have hr:=(((ra.step s3).step s4).step s5).step s6
     refine⟨vs,(P6.frame aZ).1,by rw[←hr.length];omega,α6,st6,G6,acc++[z],vs++[v6],(s24.trans s5).trans s6,?_,(Rc.step s5).step s6,S6,bh.mpr (fN (bh.mp hr) (.cons r6 .nil)),by rw[List.length_append,List.length_singleton];omega,q6⟩
     have:=P6.OI (p:=l) (o':= .lst (vs++[v6])) aZ
     rw[Ib]at this
     exact this
theorem KW{scope:Scope}{Nc:List Str}{elt tg iter:Expr}{ifs:List Expr}{pos:Pos}{src:DI}{fr:List (Option Nat)}{dtg:fL}{c:DT}{te:DE}(S:bz X scope Nc fr)(hi:PI X tg iter (LI src))
 (hg:∀C s H ex,PG (fB X scope Nc C s H ex) tg (LG dtg)) (ht:∀C s H ex,rE (fB X scope Nc C s H ex) ifs (LT c)) (he:∀C s H ex,PE (fB X scope Nc C s H ex) elt (LE te)) (fit:sP fr dtg)
 (hx:X.xe=fun _ _=>False:=by rfl) (hc:X.calm=true:=by rfl) (hs:∀x,foldedSetIterable iter X.env x=pure x:=by intro _;rfl):PE X (.ListComp elt [⟨tg,iter,ifs,0⟩] scope pos) (LE (dG src fr dtg c te)):=
 PE.imp (AF hx hc S hi hg ht he hs) fun σ H Q ⟨α,σd,st,K,G,F,P,R,S,t,k⟩=>LE.comp fit P R S t fun ys st2 α2 G2 H2 l vs q s2 P2 hl S2 r=>by
  have hg:G2 l=none:=(P2.frame aZ).2
  refine k _ st2 q α2 (upd G2 l (.lst vs)) H2 (.ref l) (s2.trans (Step.laid hg)) (P2.show hl) (S2.laid hg) ?_
  unfold Rep
  exact⟨l,vs,rfl,S2.jM hg,.of aZ,r.step (Step.laid hg)⟩
theorem Ia{scope:Scope}{Nc:List Str}{elt tg iter:Expr}{ifs:List Expr}{pos:Pos}{src:DI}{fr:List (Option Nat)}{dtg:fL}{c:DT}{te:DE}(S:bz X scope Nc fr)(hi:PI X tg iter (LI src))
 (hg:∀C s H ex,PG (fB X scope Nc C s H ex) tg (LG dtg)) (ht:∀C s H ex,rE (fB X scope Nc C s H ex) ifs (LT c)) (he:∀C s H ex,PE (fB X scope Nc C s H ex) elt (LE te)) (fit:sP fr dtg)
 (hx:X.xe=fun _ _=>False:=by rfl) (hc:X.calm=true:=by rfl) (hs:∀x,foldedSetIterable iter X.env x=pure x:=by intro _;rfl):PE X (.ListComp elt [⟨tg,iter,ifs,0⟩] scope pos) (LE (qK src fr dtg c te)):=
 PE.imp (AF hx hc S hi hg ht he hs) fun σ H Q ⟨α,σd,st,K,G,F,P,R,S,t,k⟩=>LE.comp fit P R S t fun ys st2 α2 G2 H2 l vs q s2 P2 hl S2 r=>by
  have hg:G2 l=none:=(P2.frame aZ).2
  refine k _ _ q (α2++[some l]) (upd G2 l (.lst vs)) H2 (.ref l) (s2.trans (Step.cell hg)) (P2.show hl) (S2.cell hg ⟨vs,aZ,r.step (Step.cell hg)⟩) ?_
  unfold Rep
  refine .inr ⟨l,?_,rfl⟩
  rw[List.getElem?_append_right (by rw[S2.len];exact Nat.le_refl _),S2.len,Nat.sub_self]
  rfl
theorem Ic{st:Stmt}{k:Nat}{src:DI}{fr:List (Option Nat)}{dtg:fL}{c:DT}{te:DE}(fit:sP fr dtg)(h:PS X st (oF (uw (LI src) fr (LG dtg) (LT c) (LE te)) (mM k))):PS X st (LS (bg k (dG src fr dtg c te))):=
 PS.imp h fun D σ H ⟨α,σd,st,DD,G,F,P,R,S,t,q⟩=>LE.comp fit P R S t fun ys st2 α2 G2 H2 l vs qq s2 P2 hl S2 r=>by
  have hg:G2 l=none:=(P2.frame aZ).2
  have s3:=s2.trans (Step.laid (o:= .lst vs) hg)
  refine q.nx _ st2 qq α2 (upd G2 l (.lst vs)) H2 _ s3 (P2.show hl) ((R.step s3).set k ?_) (S2.laid hg)
  unfold Rep
  exact⟨l,vs,rfl,S2.jM hg,.of aZ,r.step (Step.laid hg)⟩
noncomputable def aT(N:List Str)(ds:List D):cj:=ds.map some++List.replicate (N.length-ds.length) none
theorem d8.start{α:List (Option Addr)}{G:Hp}{N:List Str}{ds:List D}{vs:List V}(r:aL α G ds vs):d8 α G (aT N ds) (L2.start N vs):=by
 have hl:=r.length
 refine⟨by unfold aT L2.start;simp[hl],fun i d e=>?_⟩
 unfold aT at e
 by_cases hi:i<ds.length
 · rw[List.getElem?_append_left (by simpa using hi),List.getElem?_map]at e
   cases q:ds[i]? with
   |none=>rw[q]at e;cases e
   |some x=>
    rw[q]at e
    cases e
    obtain⟨v,ev,rv⟩:=r.get q
    refine⟨v,?_,rv⟩
    unfold L2.start
    rw[List.getElem?_append_left (by rw[List.length_map];omega),List.getElem?_map,ev]
    rfl
 · rw[List.getElem?_append_right (by simpa using hi),List.getElem?_replicate]at e
   split at e<;>cases e
theorem LB{P:Program}{w:World}{K:PySem.W.Frag}{mg:Str→Option Value}{base:Heap}{x qual:Str}{st:Stmt}{f:Addr}{fd:FuncData}{N ps:List Str}{k:Nat}{sp:cp}{t:DS}(F:m_ K x qual st f fd)(S:aO N ps (ai st))
 (hbody:∀(cdv:Value) (A:Around) (outer:List Env) (s:Shared) (H:Hp) (E:XK),cO k (A.deeper (envOfC qual (ai st) s.heap.objs.size f cdv))→gz (pU cq P w K mg base N qual (ai st) f cdv A outer s H E).vb (fM st) (LS t))
 (hsp:∀ds st K,sp ds st K→ds.length=ps.length∧t {nx:=fun _ st'=>K .aK st',rt:=K} (aT N ds) st):a8 P w K mg base cq (k+1) f fd ps (cv sp):=by
 refine F.ok S (fun vs H Q E h=>?_) fun cdv A outer s H vs Q E hr h=>⟨_,hbody cdv A outer s H E hr,?_⟩
 · obtain⟨α,ds,st,K,G,F,P,r,S,q,k⟩:=h
   rw[←r.length]
   exact(hsp ds st K q).1
 · obtain⟨α,ds,st,K,G,F,P,r,S,q,k⟩:=h
   refine⟨α,aT N ds,st,_,G,F,P,d8.start r,S,(hsp ds st K q).2,?_,k,?_,?_⟩
   · intro σd' st' kk α' G' H' σ' s' P' R' S'
     exact k .aK st' kk α' G' H' .aK s' P' S' (by unfold Rep;rfl)
   · intro σd' st' kk
     exact kk.elim
   · intro σd' st' kk
     exact kk.elim
noncomputable def o_(to te:DE):DE:=fun σ st K=>to σ st fun x st1=>match x with
 | .ref n=>(match st1[n]? with
   |some (.lst _)=>te σ st1 fun y st2=>∃y',[y]=[y']∧(match st2[n]? with|some (.lst xs)=>xs.length<sizeLine∧K .aK (st2.set n (.lst (xs++[y'])))|_=>False)
   |_=>False)
 |_=>False
end
end L3
namespace L3
open PySem PySem.Spec L2
open PyProof.Rows hiding St
structure bG(K:PySem.W.Frag)(mg:Str→Option Value)(x qual:Str)(st:Stmt)(ps:List Str)(f:Addr)(fd:FuncData):Prop where
 fn:m_ K x qual st f fd
 mg:mg x=some (.ref f)
 bd:Binds K fd ps []
noncomputable def vh(sc:Scope)(N:List Str)(scope:Scope)(Nc:List Str)(fr:List (Option Nat)):Bool:=
 (scope.kind== .function)&&scope.names.all (fun x=>x.2 != .cell||scope.names.lookup x.1==some .cell)&&scope.names.all (fun x=>x.2 != .local||scope.names.lookup x.1==some .local)&&
 scope.names.all (fun x=>x.2 != .free||sc.names.lookup x.1==some .cell||sc.names.lookup x.1==some .free)&&(fr.length==Nc.length)&&
 (List.range fr.length).all fun i=>match fr[i]?,Nc[i]? with
   |some (some j),some x=>(N[j]?==some x)&&(scope.names.lookup x==some .free)&&(sc.names.lookup x==some .cell||sc.names.lookup x==some .free)
   |_,_=>true
theorem bz.look{X:Cx}{scope:Scope}{Nc:List Str}{fr:List (Option Nat)}(sc:Scope)(N:List Str)(h:vh sc N scope Nc fr=true)(hsc:X.env.scope=sc:=by rfl)(hN:X.N=N:=by rfl):bz X scope Nc fr:=by
 unfold vh at h
 simp only[Bool.and_eq_true]at h
 obtain⟨⟨⟨⟨⟨h1,h2⟩,h3⟩,h4⟩,h5⟩,h6⟩:=h
 subst hsc hN
 refine⟨by simpa using h1,fun x hx hk=>?_,fun x hx hk=>?_,fun x hx hk=>?_,by simpa using h5,fun i j x e1 e2=>?_⟩
 · have:=List.all_eq_true.mp h2 x hx
   rw[hk]at this
   simpa using this
 · have:=List.all_eq_true.mp h3 x hx
   rw[hk]at this
   simpa using this
 · have:=List.all_eq_true.mp h4 x hx
   rw[hk]at this
   have z:X.env.scope.names.lookup x.1=some .cell∨X.env.scope.names.lookup x.1=some .free:=by simpa using this
   exact z
 · have hi:i<fr.length:=(List.getElem?_eq_some_iff.mp e2).1
   have:=List.all_eq_true.mp h6 i (List.mem_range.mpr hi)
   rw[e1,e2]at this
   simp only[Bool.and_eq_true,Bool.or_eq_true,beq_iff_eq]at this
   exact⟨this.1.1,this.1.2,this.2⟩
section
variable {X:Cx}
theorem NQ{e:Expr}{es:List Expr}{pos p:Pos}{x:Str}{id:String}{r:eR}{t:DA}(hc:bD X (.builtin id) (fA r))(ha:PA X (e::es) (LA t))(hm:X.mg x=none)(hv:bootBuiltins x=some (.builtin id))(hg:Gl X x:=by rfl)(hn:x≠"__name__":=by decide)(hdb:(x==("__debug__":Str))=false:=by decide)
 (he:starEach (e::es) X.env=(false,eval e X.env)::starEach es X.env:=by rfl) (hpl:(backTo pos (starEach es X.env)).any (·.1)=false:=by rfl):PE X (.Call (.Name x p) (e::es) [] pos) (LE (bp r t)):=PE.imp (FG hc hg hm hv ha hn hdb he hpl) fun _ _ _ h=>LE.cb h
theorem Ot{e:Expr}{es:List Expr}{pos p:Pos}{x:Str}{T:String}{r:eR}{t:DA}(hc:bD X (.type T) (fA r))(ha:PA X (e::es) (LA t))(hm:X.mg x=none)(hv:bootBuiltins x=some (.type T))(hg:Gl X x:=by rfl)(hn:x≠"__name__":=by decide)(hdb:(x==("__debug__":Str))=false:=by decide)
 (he:starEach (e::es) X.env=(false,eval e X.env)::starEach es X.env:=by rfl) (hpl:(backTo pos (starEach es X.env)).any (·.1)=false:=by rfl):PE X (.Call (.Name x p) (e::es) [] pos) (LE (bp r t)):=PE.imp (D2 hc hg hm hv ha hn hdb he hpl) fun _ _ _ h=>LE.cb h
theorem N6{pos:Pos}{x:Str}{T:String}(hm:X.mg x=none)(hv:bootBuiltins x=some (.type T))(hg:Gl X x:=by rfl)(hn:x≠"__name__":=by decide)(hdb:(x==("__debug__":Str))=false:=by decide):PE X (.Name x pos) (LE (dC (.ty T))):=
 ph (v:= .ty T) (IQ hg hm hv rfl hn hdb) fun _ _=>by unfold Rep;rfl
theorem OB{e:Expr}{es:List Expr}{pos p:Pos}{x qual:Str}{st:Stmt}{ps:List Str}{f:Addr}{fd:FuncData}{k:Nat}{S:cp}{t:DA}(A:bG X.K X.mg x qual st ps f fd)(F:a8 X.prog X.w X.K X.mg X.base cq k f fd ps (cv S))(hr:cO k X.A)
 (ha:PA X (e::es) (LA t)) (hg:Gl X x:=by rfl) (hdb:(x==("__debug__":Str))=false:=by decide) (he:starEach (e::es) X.env=(false,eval e X.env)::starEach es X.env:=by rfl) (hpl:(backTo pos (starEach es X.env)).any (·.1)=false:=by rfl):
 PE X (.Call (.Name x p) (e::es) [] pos) (LE (aE S t)):=J0 F hr hg A.mg A.fn.kp A.bd ha hdb he hpl
noncomputable def Ko(d:D)(b:Bool):Bool:=match d with| .bl c=>c==b|_=>false
noncomputable def NF(d:D):Bool:=match d with| .aK=>true|_=>false
theorem II{α:List (Option Addr)}{H:Hp}{st:ag}{d:D}{v:V}{u:Value}{b:Bool}(S:aS α st H)(hl:live st d=true)(r:Rep α H d v)(ru:RelV v u):(u==Value.bool b)=Ko d b:=by
 cases d
 case ref n=>
  obtain⟨a,rfl⟩:=xV S hl r
  cases ru;rfl
 all_goals unfold Rep at r
 case bl c=>
  subst r
  cases ru
  cases c<;>cases b<;>rfl
 all_goals first
  |(subst r;first|(cases ru;rfl)|(obtain⟨t,rfl⟩:=ru;rfl))
  |(obtain⟨a,vs,rfl,_⟩:=r;cases ru;rfl)
noncomputable def ve(r r':cT)(ta tb tc:DE):DE:=fun σ st K=>ta σ st fun x st1=>tb σ st1 fun y st2=>r x y st2 fun z st3=>match z with
 | .bl b=>if b=true then tc σ st3 fun w st4=>r' y w st4 K else K (.bl false) st3
 |_=>False
theorem LE.chain{r r':cT}{ta tb tc:DE}{σ:L2.St}{H:Hp}{Q:VK}(h:LE (ve r r' ta tb tc) σ H Q):Dt (LR r) (LR r') (LE ta) (LE tb) (LE tc) σ H Q:=by
 obtain⟨α,σd,st,K,G,F,P,R,S,t,k⟩:=h
 refine⟨α,σd,st,_,G,F,P,R,S,t,fun d st1 q α1 G1 H1 v s1 P1 S1 r1=>?_⟩
 refine⟨α1,σd,st1,_,G1,F,P1,R.step s1,S1,q,fun d2 st2 q2 α2 G2 H2 v2 s2 P2 S2 r2=>?_⟩
 refine⟨α2,d,d2,st2,_,G2,F,P2,r1.step s2,r2,S2,q2,fun z st3 q3 α3 G3 H3 v3 s3 P3 S3 r3=>?_⟩
 cases z<;>try exact q3.elim
 rename_i b
 unfold Rep at r3
 refine⟨b,r3,?_⟩
 cases b with
 |false=>exact((k.at s1).at s2).at s3 _ st3 q3 α3 G3 H3 _ Step.refl P3 S3 (by unfold Rep;rfl)
 |true=>exact⟨α3,σd,st3,_,G3,F,P3,((R.step s1).step s2).step s3,S3,q3,fun d4 st4 q4 α4 G4 H4 v4 s4 P4 S4 r4=>⟨α4,d2,d4,st4,K,G4,F,P4,(r2.step s3).step s4,r4,S4,q4,(((k.at s1).at s2).at s3).at s4⟩⟩
theorem Hk{a b c:Expr}{ta tb tc:DE}{pos:Pos}{op op':CmpOp}{r r':cT}(ho:bL X (compareOp op) (LR r))(ho':bL X (compareOp op') (LR r'))(ha:PE X a (LE ta))(hb:PE X b (LE tb))(hc:PE X c (LE tc))
 (hm:lastMarks [op,op'] [b,c]=false:=by with_unfolding_all rfl):PE X (.Compare a [op,op'] [b,c] pos) (LE (ve r r' ta tb tc)):=PE.imp (EC ho ho' ha hb hc hm) fun _ _ _ h=>LE.chain h
theorem LE.append{to te:DE}{σ:L2.St}{H:Hp}{Q:VK}(h:LE (o_ to te) σ H Q):Ng X.K "list" Ay (LE to) (LA (af te ak)) σ H Q:=by
 obtain⟨α,σd,st,K,G,F,P,R,S,t,k⟩:=h
 refine⟨α,σd,st,_,G,F,P,R,S,t,fun x st1 q α1 G1 H1 v s1 P1 S1 r1=>?_⟩
 cases x<;>try exact q.elim
 rename_i n
 simp only at q
 split at q
 · rename_i ys e
   obtain⟨p,ep,vs,h1,h2⟩:=S1.jh e
   have r1':=dQ ep r1
   subst r1'
   refine⟨.inl ⟨rfl,vs,.inl (.of (P1.get h1))⟩,α1,σd,st1,fun ds st2=>∃y,ds=[y]∧(match st2[n]? with|some (.lst xs)=>xs.length<sizeLine∧K .aK (st2.set n (.lst (xs++[y])))|_=>False),G1,F,P1,R.step s1,S1,?_,?_⟩
   · refine Eq.mp ?_ q
     rfl
   · rintro ds st2 ⟨y,rfl,q2⟩ α2 G2 H2 ws s2 P2 S2 r2
     obtain⟨w,rfl,rw'⟩:=gN r2 rfl
     split at q2
     · rename_i xs e2
       obtain⟨p2,ep2,us,g1,g2⟩:=S2.jh e2
       have:p2=p:=by
        rcases s2.pre _ _ ep with z|z<;>(rw[z]at ep2;cases ep2)
        rfl
       subst this
       have hm:some p2∈α2:=List.mem_of_getElem? ep2
       refine⟨p2,us,w,rfl,rfl,P2.get g1,by rw[←g2.length];exact q2.1,?_⟩
       refine((k.at s1).at s2) _ _ q2.2 α2 (upd G2 p2 (.lst (us++[w]))) _ .aK (Step.write hm) (P2.write g1) ?_ (by unfold Rep;rfl)
       exact S2.write ep2 ⟨us++[w],aZ,(bh.mpr (fN (bh.mp g2) (.cons rw' .nil))).step (Step.write hm)⟩
     · exact q2.elim
 · exact q.elim
theorem Fj{o e:Expr}{to te:DE}{apos cpos:Pos}(ho:PE X o (LE to))(he:PE X e (LE te))(hbase:attributeBase o "append" X.env (eval o X.env)=eval o X.env:=by rfl)
 (hfew:((backTo cpos (starEach [e] X.env)).all (fun x=> !x.1)&&(backToKw cpos (keywordEach [] X.env)).all (fun x=>x.1.isSome)
   &&decide (([e]:List Expr).length+([]:List Keyword).length+(if([]:List Keyword).isEmpty then 0 else 1)<30))=true:=by rfl)
 (hline:(apos.endLine==cpos.line)=true:=by rfl) (hs:starEach [e] X.env=(false,eval e X.env)::starEach [] X.env:=by rfl) (hplain:(backTo cpos (starEach [] X.env)).any (·.1)=false:=by rfl):PE X (.Call (.Attribute o "append" apos) [e] [] cpos) (LE (o_ to te)):=
 PE.imp (Nb PySem.F.plainAttrs_list PySem.F.slot_list_append PySem.F.type_list_append wg ho (vp he yZ hs) hbase hfew hline hs hplain) fun _ _ _ h=>LE.append h
end
end L3
namespace L3
open PySem L2
open PySem.Spec hiding items?
open PyProof.Rows hiding St
section
variable {X:Cx}
@[irreducible] noncomputable def eh:cT:=F7
theorem fh:bL X (binaryOp .Add) (LR eh):=by unfold eh;exact Mj
@[irreducible] noncomputable def mf:cT:=GG
theorem pG:bL X (binaryOp .Sub) (LR mf):=by unfold mf;exact LQ
@[irreducible] noncomputable def du:cT:=GV
theorem et:bL X (binaryOp .Mult) (LR du):=by unfold du;exact M7
@[irreducible] noncomputable def k0:cT:=Dj
theorem qX:bL X (binaryOp .FloorDiv) (LR k0):=by unfold k0;exact Kz
@[irreducible] noncomputable def g8:cT:=Gy
theorem ox:bL X (binaryOp .Mod) (LR g8):=by unfold g8;exact MR
@[irreducible] noncomputable def uf:cT:=Gg
theorem Bp:bL X (binaryOp .Pow) (LR uf):=by unfold uf;exact Mh
@[irreducible] noncomputable def pj:cT:=Lp
theorem v7:bL X (compareOp .Lt) (LR pj):=by unfold pj;exact Ob
@[irreducible] noncomputable def wB:cT:=Jb
theorem Jm:bL X (compareOp .LtE) (LR wB):=by unfold wB;exact N_
@[irreducible] noncomputable def nY:cT:=Lq
theorem vj:bL X (compareOp .Gt) (LR nY):=by unfold nY;exact NM
@[irreducible] noncomputable def Ee:cT:=Lk
theorem NL:bL X (compareOp .GtE) (LR Ee):=by unfold Ee;exact NX
@[irreducible] noncomputable def mh:cT:=Ky
theorem pL:bL X (compareOp .NotEq) (LR mh):=by unfold mh;exact NO
@[irreducible] noncomputable def iW:cT:=Je
theorem kM{k:Nat}(hr:cO k X.A):bL X (compareOp .Eq) (LR iW):=by unfold iW;exact N5 hr
@[irreducible] noncomputable def gJ:yw:=FX
theorem Mt:AH X (unaryOp .USub) (FP gJ):=by unfold gJ;exact LW
@[irreducible] noncomputable def aM:cT:=pH
theorem NR{a b:Expr}{ta tb:DE}{pos:Pos}(ha:PE X a (LE ta))(hb:PE X b (LE tb))(hs:sv b:=by intro _ _;rfl):PE X (.Subscript a b pos) (LE (aq aM ta tb)):=by unfold aM;exact NY ha hb hs
@[irreducible] noncomputable def d9:eR:=xT
theorem d6:bD X (.builtin "len") (fA d9):=by unfold d9;exact MG
@[irreducible] noncomputable def nI:eR:=A4
theorem pS:bD X (.builtin "abs") (fA nI):=by unfold nI;exact M0
@[irreducible] noncomputable def vR:eR:=Bx
theorem Mm(hc:X.calm=true):bD X (.builtin "max") (fA vR):=by unfold vR;exact LU hc
@[irreducible] noncomputable def x_:eR:=Bj
theorem L_(hc:X.calm=true):bD X (.builtin "min") (fA x_):=by unfold x_;exact MV hc
@[irreducible] noncomputable def tM:eR:=BK
theorem BN:bD X (.type "int") (fA tM):=by unfold tM;exact MI
@[irreducible] noncomputable def dB:eR:=rS
theorem dH:bD X (.type "tuple") (fA dB):=by unfold dB;exact Ij
@[irreducible] noncomputable def i7:eR:=uy
theorem lY:bD X (.type "list") (fA i7):=by unfold i7;exact Jx
@[irreducible] noncomputable def o6:eR:=rO
theorem AM:bD X (.type "list") (fA o6):=by unfold o6;exact Ii
@[irreducible] noncomputable def uc:eR:=xt
theorem A5(hc:X.calm=true):bD X (.builtin "all") (fA uc):=by unfold uc;exact MJ hc
@[irreducible] noncomputable def nF:eR:=xD
theorem pP:bD X (.builtin "isinstance") (fA nF):=by unfold nF;exact Lw
@[irreducible] noncomputable def vH:D→ag→(List D→(ag→Prop)→ag→Prop)→Prop:=yb
noncomputable def eH(t:DE):DI:=fun σ st K=>t σ st fun d st1=>vH d st1 K
theorem Ka{l tg:Expr}{tl:DE}(hl:PE X l (LE tl)):PI X tg l (LI (eH tl)):=by unfold eH vH;exact Lc hl
@[irreducible] noncomputable def xM:List D→ag→(List D→(ag→Prop)→ag→Prop)→Prop:=FN
@[irreducible] noncomputable def xU:List D→ag→(List D→(ag→Prop)→ag→Prop)→Prop:=Gf
noncomputable def eF(t:DA):DI:=fun σ st K=>t σ st fun ds st1=>xM ds st1 K
noncomputable def sq(t:DA):DI:=fun σ st K=>t σ st fun ds st1=>xU ds st1 K
theorem Ec{tg iter:Expr}{t:DA}(h:PI X tg iter (Bc (LA t))):PI X tg iter (LI (eF t)):=by unfold eF xM;exact Ea h
theorem C9{tg iter:Expr}{t:DA}(h:PI X tg iter (A_ (LA t))):PI X tg iter (LI (sq t)):=by unfold sq xU;exact Dg h
@[irreducible] noncomputable def yQ:D→D→D→ag→(ag→Prop)→Prop:=BZ
noncomputable def dX(to ti te:DE):DS:=fun D σ st=>te σ st fun d st1=>to σ st1 fun x st2=>ti σ st2 fun y st3=>yQ x y d st3 fun st4=>D.nx σ st4
theorem Ft{st:Stmt}{to ti te:DE}(h:PS X st (oF (LE te) (AU (LE to) (LE ti) xH))):PS X st (LS (dX to ti te)):=by unfold dX yQ;exact Fb h
end
section
variable {st:ag}{K:DK}{i j:Int}{b c:Bool}{xs ys:List D}{d e:D}{n:Nat}
theorem eJ(k:K (.int (i+j)) st):eh (.int i) (.int j) st K:=by unfold eh;exact k
theorem qF(k:K (.int (i-j)) st):mf (.int i) (.int j) st K:=by unfold mf;exact⟨trivial,k⟩
theorem iq(h:IntMulOk i j)(k:K (.int (i*j)) st):du (.int i) (.int j) st K:=by unfold du;exact⟨h,k⟩
theorem Hq(h: -(2^63)≤i∧i<2^63∧xs.length*i.toNat≤sizeLine)(k:K (.lst (List.replicate i.toNat xs).flatten) st):du (.lst xs) (.int i) st K:=by unfold du;exact⟨h,k⟩
theorem o8(h0:j≠0)(h:j.natAbs.log2<9000)(k:K (.int (i.fdiv j)) st):k0 (.int i) (.int j) st K:=by unfold k0;exact⟨⟨h0,h⟩,k⟩
theorem nh(h0:j≠0)(k:K (.int (i.fmod j)) st):g8 (.int i) (.int j) st K:=by unfold g8;exact⟨h0,k⟩
theorem zl(h:EJ i j)(k:K (.int (i^j.toNat)) st):uf (.int i) (.int j) st K:=by unfold uf;exact⟨h,k⟩
theorem GN(k:K (.bl (decide (i<j))) st):pj (.int i) (.int j) st K:=by unfold pj;exact⟨trivial,k⟩
theorem GC(k:K (.bl (decide (i≤j))) st):wB (.int i) (.int j) st K:=by unfold wB;exact⟨trivial,k⟩
theorem GS(k:K (.bl (decide (j<i))) st):nY (.int i) (.int j) st K:=by unfold nY;exact⟨trivial,k⟩
theorem Na(k:K (.bl (decide (j≤i))) st):Ee (.int i) (.int j) st K:=by unfold Ee;exact⟨trivial,k⟩
theorem Gn(k:K (.bl (!decide (i=j))) st):mh (.int i) (.int j) st K:=by unfold mh;exact k
theorem xN(h1:pl 40 d=true)(h2:pl 40 e=true)(k:K (.bl (cH d e)) st):iW d e st K:=by unfold iW;exact⟨h1,h2,k⟩
theorem Hz(a b:Int):(a==b)=decide (a=b):=by
 by_cases h:a=b
 · subst h;simp
 · simp[h]
theorem Cs(k:K (.bl (decide (i=j))) st):iW (.int i) (.int j) st K:=by
 refine xN rfl rfl ?_
 have:cH (.int i) (.int j)=decide (i=j):=by unfold cH;exact Hz i j
 rw[this];exact k
theorem j5(k:K (.int (-i)) st):gJ (.int i) st K:=by unfold gJ;exact k
theorem Fm(h:items? st d=some xs)(a:dZ xs i=some e)(k:K e st):pH d (.int i) st K:=by
 cases d<;>unfold items? at h<;>first
  |(cases h;done)
  |(cases h;simp only[pH,a];exact k)
  |(simp only at h
    split at h
    · rename_i q
      cases h
      simp only[pH,q,a]
      exact k
    · cases h)
theorem aC(h:items? st d=some xs)(a:dZ xs i=some e)(k:K e st):aM d (.int i) st K:=by unfold aM;exact Fm h a k
theorem dA(h:items? st d=some xs)(k:K (.int xs.length) st):d9 [d] st K:=by
 unfold d9 xT
 split
 · rename_i z;cases z;cases h
 · rename_i z;cases z;rw[h];exact k
 · rename_i z1 z2;exact absurd rfl (z2 d)
theorem HJ(i:Int):(if i<0 then-i else i)=((i.natAbs:Nat):Int):=by split<;>omega
theorem um(k:K (.int ((i.natAbs:Nat):Int)) st):nI [.int i] st K:=by unfold nI;show K (.int (if i<0 then-i else i)) st;rw[HJ];exact k
theorem Lb(k:K (.int (if j>i then j else i)) st):vR [.int i,.int j] st K:=by unfold vR;exact k
theorem IU(k:K (.int (if j<i then j else i)) st):x_ [.int i,.int j] st K:=by unfold x_;exact k
theorem rP(k:K (.int (if b then 1 else 0)) st):tM [.bl b] st K:=by unfold tM;exact k
theorem de(h:items? st d=some xs)(k:K (.tup xs) st):dB [d] st K:=by unfold dB rS;simp only[h];exact k
theorem jL(h:items? st d=some xs)(k:K (.lst xs) st):i7 [d] st K:=by unfold i7 uy;simp only[h];exact k
theorem yp(h:items? st d=some xs)(k:K (.ref st.length) (st++[.lst xs])):o6 [d] st K:=by unfold o6 rO;simp only[h];exact k
theorem zj{bs:List Bool}(h:i0 xs=some bs)(k:K (.bl (bs.all id)) st):uc [.lst xs] st K:=by unfold uc xt;simp only[h];exact k
theorem nL{t c:String}(h:iO st d=some t)(hc:c∈m6)(k:K (.bl (tF t c)) st):nF [d,.ty c] st K:=by unfold nF xD;simp only[h];exact⟨hc,k⟩
theorem rh{K:List D→(ag→Prop)→ag→Prop}(h:items? st d=some xs)(k:∀ok:ag→Prop,ok st→K xs ok st):vH d st K:=by
 unfold vH yb
 cases d<;>unfold items? at h<;>first
  |(cases h;done)
  |(cases h;exact k _ trivial)
  |(simp only at h
    split at h
    · rename_i q
      cases h
      simp only[q]
      exact k _ q
    · cases h)
theorem fu{K:List D→(ag→Prop)→ag→Prop}(k:K xs (fun _=>True) st):vH (.tup xs) st K:=by unfold vH;exact k
theorem fx{K:List D→(ag→Prop)→ag→Prop}(h: -(2^62)≤j∧j<2^62)(k:K (dY 0 j.toNat) (fun _=>True) st):xM [.int j] st K:=by unfold xM;exact⟨h,k⟩
theorem IM{K:List D→(ag→Prop)→ag→Prop}(h: -(2^62)≤i∧i<2^62∧ -(2^62)≤j∧j<2^62)(k:K (dY i (j-i).toNat) (fun _=>True) st):xU [.int i,.int j] st K:=by unfold xU;exact⟨h,k⟩
theorem iD{K:ag→Prop}{m:Nat}(h:st[n]?=some (.lst xs))(e:mi xs.length i=some m)(k:K (st.set n (.lst (xs.set m d)))):yQ (.ref n) (.int i) d st K:=by unfold yQ BZ;simp only[h,e];exact k
end
end L3
namespace L3
open PySem L2
open PySem.Spec hiding items?
open PyProof.Rows hiding St
noncomputable def CG(K:PySem.W.Frag):Bool:=K.all fun p=>p.2.cls != .type "list"
theorem tf{a:Addr}{o:Obj}:∀ {l:List (Addr×Obj)},l.lookup a=some o→(a,o)∈l
 | [],h=>by cases h
 |(b,u)::r,h=>by
  rw[List.lookup_cons]at h
  split at h
  · rename_i z
    cases h
    have:a=b:=by simpa using z
    subst this
    exact List.mem_cons_self
  · exact List.mem_cons_of_mem _ (tf h)
theorem xi{K:PySem.W.Frag}(h:CG K=true){a:Addr}{o:Obj}(e:K.lookup a=some o):o.cls≠ .type "list":=by
 have:=List.all_eq_true.mp h (a,o) (tf e)
 simpa using this
theorem wj{α:List (Option Addr)}{G:Hp}:∀ns:List Int,aL α G (ns.map D.int) (ns.map V.int)
 | []=>by unfold aL;rfl
 |n::ns=>by
  rw[List.map_cons,List.map_cons]
  unfold aL
  exact⟨_,_,rfl,by unfold Rep;rfl,wj ns⟩
end L3
namespace L3
open PySem L2
open PySem.Spec hiding items?
open PyProof.Rows hiding St
noncomputable def notStar:Expr→Bool
 | .Starred .. =>false
 |_=>true
theorem cC{e:Expr}{es:List Expr}{env:Env}(h:notStar e=true):starEach (e::es) env=(false,eval e env)::starEach es env:=by
 cases e<;>first|rfl|cases h
noncomputable def fP:List Expr→Bool
 | []=>true
 |e::es=>notStar e&&fP es
theorem jn{pos:Pos}{env:Env}:∀ {es:List Expr},fP es=true→(backTo pos (starEach es env)).any (·.1)=false
 | [],_=>rfl
 |e::es,h=>by
  unfold fP at h
  rw[Bool.and_eq_true]at h
  rw[cC h.1]
  have ih:=jn (pos:=pos) (env:=env) h.2
  unfold backTo at ih⊢
  rw[List.map_cons,List.any_cons,ih]
  rfl
noncomputable def nP:Expr→Bool
 | .Slice .. =>false
 |_=>true
noncomputable def qQ:Expr→Bool
 | .Name .. =>true
 | .Call .. =>true
 | .Subscript .. =>true
 | .Attribute .. =>true
 |_=>false
noncomputable def ko:Expr→Bool
 | .ListComp .. =>false
 | .SetComp .. =>false
 | .DictComp .. =>false
 |_=>true
section
variable {X:Cx}
theorem En{b:Expr}(h:nP b=true):sv b:=by
 intro o i
 cases b<;>first|rfl|cases h
theorem AX{e:Expr}(h:qQ e=true):∀whole,isTrue e X.env whole=(do let v ←whole;standAt e.pos;holding [v] (truthy v)):=by
 intro whole
 cases e<;>first|(cases h;done)|rfl
theorem vi{e:Expr}{tg:Option Expr}{n:Nat}{env:Env}(h:ko e=true):swapsWith e tg n env=pure false:=by
 cases e<;>first|(cases h;done)|rfl
theorem FJ{e:Expr}{es:List Expr}{te:DE}{tr:DA}(ha:PE X e (LE te))(hr:PA X es (LA tr))(hs:notStar e=true:=by rfl):PA X (e::es) (LA (af te tr)):=vp ha hr (cC hs)
theorem Ly{e:Expr}{es:List Expr}{pos p:Pos}{x:Str}{id:String}{r:eR}{t:DA}(hc:bD X (.builtin id) (fA r))(ha:PA X (e::es) (LA t))(hm:X.mg x=none)(hv:bootBuiltins x=some (.builtin id))(hn:x≠"__name__")(hdb:(x==("__debug__":Str))=false)(hg:Gl X x:=by rfl)(hs:notStar e=true:=by rfl)(hs2:fP es=true:=by rfl):
 PE X (.Call (.Name x p) (e::es) [] pos) (LE (bp r t)):=NQ hc ha hm hv hg hn hdb (cC hs) (jn hs2)
theorem MO{e:Expr}{es:List Expr}{pos p:Pos}{x:Str}{T:String}{r:eR}{t:DA}(hc:bD X (.type T) (fA r))(ha:PA X (e::es) (LA t))(hm:X.mg x=none)(hv:bootBuiltins x=some (.type T))(hn:x≠"__name__")(hdb:(x==("__debug__":Str))=false)(hg:Gl X x:=by rfl)(hs:notStar e=true:=by rfl)(hs2:fP es=true:=by rfl):
 PE X (.Call (.Name x p) (e::es) [] pos) (LE (bp r t)):=Ot hc ha hm hv hg hn hdb (cC hs) (jn hs2)
theorem Mg{e:Expr}{es:List Expr}{pos p:Pos}{x qual:Str}{st:Stmt}{ps:List Str}{f:Addr}{fd:FuncData}{k:Nat}{S:cp}{t:DA}(A:bG X.K X.mg x qual st ps f fd)(F:a8 X.prog X.w X.K X.mg X.base cq k f fd ps (cv S))(hr:cO k X.A)
 (ha:PA X (e::es) (LA t)) (hdb:(x==("__debug__":Str))=false) (hg:Gl X x:=by rfl) (hs:notStar e=true:=by rfl) (hs2:fP es=true:=by rfl):
 PE X (.Call (.Name x p) (e::es) [] pos) (LE (aE S t)):=OB A F hr ha hg hdb (cC hs) (jn hs2)
theorem MC{a b:Expr}{ta tb:DE}{pos:Pos}(ha:PE X a (LE ta))(hb:PE X b (LE tb))(hs:nP b=true:=by rfl):PE X (.Subscript a b pos) (LE (aq aM ta tb)):=NR ha hb (En hs)
theorem Ih{e:Expr}{te:DE}(he:PE X e (LE te))(h:qQ e=true:=by rfl):PT X e (LT (a5 te)):=KD he (AX h)
theorem EG{e:Expr}{te:DE}{pos:Pos}(he:PE X e (LE te))(h:ko e=true:=by rfl):PS X (.Expr e pos) (LS (mI te)):=GZ he (vi h)
theorem Ik{i:Nat}{x:Str}{e:Expr}{te:TE}{pos pos':Pos}(hN:X.N.Nodup)(hi:X.N[i]?=some x)(hx:Loc X.env.scope x)(he:PE X e te)(hf:X.fn x=true∨X.env.scope.names.lookup x=some .local:=by first|exact .inl rfl|exact .inr rfl)(h:ko e=true:=by rfl):
 PS X (.Assign [.Name x pos'] e pos) (oF te (mM i)):=Lr hN hi hx he (vi h) hf
theorem Hm{i:Nat}{x:Str}{pos:Pos}(hd:(x==("__debug__":Str))=false)(hcd:(x==("__classdict__":Str))=false)(hv:yT X.env.scope x)(hN:X.N[i]?=some x:=by rfl):PE X (.Name x pos) (LE (ae i)):=Md (JU hN hv hd hcd)
theorem K3{o i e:Expr}{to ti te:TE}{pos pos':Pos}(he:PE X e te)(ho:PE X o to)(hi:PE X i ti)(h1:ko e=true:=by rfl)(h2:nP i=true:=by rfl):PS X (.Assign [.Subscript o i pos'] e pos) (oF te (AU to ti xH)):=
 DX he (Kq ho hi set_list (by intro v;cases i<;>first|rfl|cases h2)) (by unfold swapsWithSole;exact vi h1) (by cases e<;>rfl) rfl
end
end L3
namespace L3
open PySem L2
open PySem.Spec hiding items?
open PyProof.Rows hiding St
@[irreducible] noncomputable def JE(X:Cx)(e:Expr)(t:DE):Prop:=PE X e (LE t)
@[irreducible] noncomputable def JT(X:Cx)(e:Expr)(t:DT):Prop:=PT X e (LT t)
@[irreducible] noncomputable def JW(X:Cx)(e:Expr)(t:DT):Prop:=PW X e (LT t)
@[irreducible] noncomputable def JA(X:Cx)(es:List Expr)(t:DA):Prop:=PA X es (LA t)
@[irreducible] noncomputable def JS(X:Cx)(s:Stmt)(t:DS):Prop:=PS X s (LS t)
@[irreducible] noncomputable def JB(X:Cx)(s:List Stmt)(t:DS):Prop:=gz X s (LS t)
@[irreducible] noncomputable def JG(X:Cx)(e:Expr)(t:fL):Prop:=PG X e (LG t)
@[irreducible] noncomputable def JI(X:Cx)(tg e:Expr)(t:DI):Prop:=PI X tg e (LI t)
@[irreducible] noncomputable def JC(X:Cx)(es:List Expr)(t:DT):Prop:=rE X es (LT t)
section
variable {X:Cx}{a b c e o i:Expr}{es:List Expr}{ta tb tc te to ti:DE}{t u:DT}{ar:DA}{pos p pos':Pos}{s:Stmt}{ss:List Stmt}{T U:DS}
theorem DN{n:Nat}{x:Str}(hd:(x==("__debug__":Str))=false)(hcd:(x==("__classdict__":Str))=false)(hv:yT X.env.scope x)(hN:X.N[n]?=some x:=by rfl):JE X (.Name x pos) (ae n):=by unfold JE;exact Hm hd hcd hv hN
theorem ui{x:Str}{T:String}(hm:X.mg x=none)(hv:bootBuiltins x=some (.type T))(hn:x≠"__name__")(hdb:(x==("__debug__":Str))=false)(hg:Gl X x):JE X (.Name x pos) (dC (.ty T)):=by unfold JE;exact N6 hm hv hg hn hdb
theorem ao{k:Int}{j:Nat}:JE X (.Constant (.int k) j pos) (dC (.int k)):=by unfold JE;exact MU
theorem iy{k:Bool}{j:Nat}:JE X (.Constant (.bool k) j pos) (dC (.bl k)):=by unfold JE;exact Ou
theorem AV{k:Str}{j:Nat}:JE X (.Constant (.str k) j pos) (dC (.str k)):=by unfold JE;exact MK
theorem Gp{j:Nat}:JE X (.Constant .none j pos) (dC .aK):=by unfold JE;exact LV
theorem a7{op:Operator}{r:cT}(ho:bL X (binaryOp op) (LR r))(ha:JE X a ta)(hb:JE X b tb):JE X (.BinOp a op b pos) (aq r ta tb):=by unfold JE at*;exact NK ho ha hb
theorem jc(ha:JE X a ta):JE X (.UnaryOp .USub a pos) (lG gJ ta):=by unfold JE at*;exact NZ Mt ha
theorem FO(ha:JE X a ta):JE X (.UnaryOp .Not a pos) (xI (a5 ta)):=by unfold JE at*;exact M8 ha
theorem GL{op:BoolOp}(ha:JE X a ta):JE X (.BoolOp op [a] pos) ta:=by unfold JE at*;exact MP ha
theorem F8(ha:JE X a ta)(hb:JE X (.BoolOp .And (b::es) pos) tb):JE X (.BoolOp .And (a::b::es) pos) (xQ ta tb):=by unfold JE at*;exact ME ha hb
theorem xF{op:CmpOp}{r:cT}(ho:bL X (compareOp op) (LR r))(hm:behindInMarks op b=false)(ha:JE X a ta)(hb:JE X b tb):JE X (.Compare a [op] [b] pos) (aq r ta tb):=by unfold JE at*;exact L8 ho ha hb hm
theorem Hi{op op':CmpOp}{r r':cT}(ho:bL X (compareOp op) (LR r))(ho':bL X (compareOp op') (LR r'))(ha:JE X a ta)(hb:JE X b tb)(hc:JE X c tc)(hm:lastMarks [op,op'] [b,c]=false:=by with_unfolding_all rfl):JE X (.Compare a [op,op'] [b,c] pos) (ve r r' ta tb tc):=by unfold JE at*;exact Hk ho ho' ha hb hc hm
theorem Ga(hc:JT X c t)(ha:JE X a ta)(hb:JE X b tb):JE X (.IfExp c a b pos) (Gr t ta tb):=by unfold JE at*;unfold JT at hc;exact LD hc ha hb
theorem kT{n:Nat}(h:JA X es ar):JE X (.Tuple es n pos) (l7 ar):=by unfold JE;unfold JA at h;exact ML h
theorem ot(h:JA X es ar):JE X (.List es pos) (nG ar):=by unfold JE;unfold JA at h;exact Me h
theorem Gm(h:JA X es ar):JE X (.List es pos) (Bm ar):=by unfold JE;unfold JA at h;exact MD h
theorem aj:JA X [] ak:=by unfold JA;exact yZ
theorem aa(ha:JE X e te)(hr:JA X es ar)(hs:notStar e=true:=by rfl):JA X (e::es) (af te ar):=by unfold JA at*;unfold JE at ha;exact FJ ha hr hs
theorem aD(ha:JE X a ta)(hb:JE X b tb)(hs:nP b=true:=by rfl):JE X (.Subscript a b pos) (aq aM ta tb):=by unfold JE at*;exact MC ha hb hs
theorem cw{x:Str}{id:String}{r:eR}(hc:bD X (.builtin id) (fA r))(ha:JA X (e::es) ar)(hm:X.mg x=none)(hv:bootBuiltins x=some (.builtin id))(hn:x≠"__name__")(hdb:(x==("__debug__":Str))=false)(hg:Gl X x)(hs:notStar e=true:=by rfl)(hs2:fP es=true:=by rfl):JE X (.Call (.Name x p) (e::es) [] pos) (bp r ar):=by
 unfold JE;unfold JA at ha;exact Ly hc ha hm hv hn hdb hg hs hs2
theorem dS{x:Str}{T:String}{r:eR}(hc:bD X (.type T) (fA r))(ha:JA X (e::es) ar)(hm:X.mg x=none)(hv:bootBuiltins x=some (.type T))(hn:x≠"__name__")(hdb:(x==("__debug__":Str))=false)(hg:Gl X x)(hs:notStar e=true:=by rfl)(hs2:fP es=true:=by rfl):JE X (.Call (.Name x p) (e::es) [] pos) (bp r ar):=by
 unfold JE;unfold JA at ha;exact MO hc ha hm hv hn hdb hg hs hs2
theorem aR{x qual:Str}{st:Stmt}{ps:List Str}{f:Addr}{fd:FuncData}{k:Nat}{S:cp}(A:bG X.K X.mg x qual st ps f fd)(F:a8 X.prog X.w X.K X.mg X.base cq k f fd ps (cv S))(hr:cO k X.A)(ha:JA X (e::es) ar)(hdb:(x==("__debug__":Str))=false)(hg:Gl X x)(hs:notStar e=true:=by rfl)(hs2:fP es=true:=by rfl):
 JE X (.Call (.Name x p) (e::es) [] pos) (aE S ar):=by unfold JE;unfold JA at ha;exact Mg A F hr ha hdb hg hs hs2
theorem Ep{apos cpos:Pos}(ho:JE X o to)(he:JE X e te)(hbase:attributeBase o "append" X.env (eval o X.env)=eval o X.env:=by rfl)(hline:(apos.endLine==cpos.line)=true:=by rfl)(hs:notStar e=true:=by rfl):JE X (.Call (.Attribute o "append" apos) [e] [] cpos) (o_ to te):=by
 unfold JE at*
 refine Fj ho he hbase ?_ hline (cC hs) rfl
 rw[cC hs]
 rfl
theorem bO{op:CmpOp}{r:cT}(ho:bL X (compareOp op) (LR r))(hm:behindInMarks op b=false)(ha:JE X a ta)(hb:JE X b tb):JT X (.Compare a [op] [b] pos) (a5 (aq r ta tb)):=by unfold JE at*;unfold JT;exact Ld ho ha hb hm
theorem jP(ha:JT X a t):JT X (.UnaryOp .Not a pos) (j4 t):=by unfold JT at*;exact J6 ha
theorem gS(he:JE X e te)(h:qQ e=true:=by rfl):JT X e (a5 te):=by unfold JT;unfold JE at he;exact Ih he h
theorem vx(ha:JT X a t):JW X (.BoolOp .And [a] pos) t:=by unfold JW;unfold JT at ha;exact HY ha
theorem ll(ha:JT X a t):JW X (.BoolOp .Or [a] pos) t:=by unfold JW;unfold JT at ha;exact Jk ha
theorem uN(ha:JT X a t)(hb:JW X (.BoolOp .And (b::es) pos) u):JW X (.BoolOp .And (a::b::es) pos) (qh t u):=by unfold JW at*;unfold JT at ha;exact KZ ha hb
theorem i_(ha:JT X a t)(hb:JW X (.BoolOp .Or (b::es) pos) u):JW X (.BoolOp .Or (a::b::es) pos) (js t u):=by unfold JW at*;unfold JT at ha;exact Mv ha hb
theorem jY(h:JW X e t):JT X e t:=by unfold JT;unfold JW at h;exact PW.pt h
theorem fj{l tg:Expr}(hl:JE X l ta):JI X tg l (eH ta):=by unfold JI;unfold JE at hl;exact Ka hl
theorem eN{tg:Expr}(hg:Gl X "range")(hm:X.mg "range"=none)(ha:JA X [a] ar)(hs:notStar a=true:=by rfl):JI X tg (.Call (.Name "range" p) [a] [] pos) (eF ar):=by unfold JI;unfold JA at ha;exact Ec (C0 hg hm ha (cC hs))
theorem E9{tg:Expr}(hg:Gl X "range")(hm:X.mg "range"=none)(ha:JA X [a,b] ar)(hs:notStar a=true:=by rfl)(hs2:notStar b=true:=by rfl):JI X tg (.Call (.Name "range" p) [a,b] [] pos) (sq ar):=by unfold JI;unfold JA at ha;exact C9 (Cr hg hm ha (by rw[cC hs,cC hs2];rfl) (cC hs2))
theorem dh{k:Nat}{x:Str}(hN:X.N.Nodup)(hx:Loc X.env.scope x)(hf:X.fn x=true∨X.env.scope.names.lookup x=some .local)(hi:X.N[k]?=some x:=by rfl):JG X (.Name x pos) (bJ k):=by unfold JG;exact IG (vY hN hi hx hf)
theorem pK{k j n:Nat}{x y:Str}{px py:Pos}(hc:X.calm=true)(hN:X.N.Nodup)(hx:Loc X.env.scope x)(hf:X.fn x=true∨X.env.scope.names.lookup x=some .local)(hy:Loc X.env.scope y)(hg:X.fn y=true∨X.env.scope.names.lookup y=some .local)(hi:X.N[k]?=some x:=by rfl)(hj:X.N[j]?=some y:=by rfl):
 JG X (.Tuple [.Name x px,.Name y py] n pos) (je k j):=by unfold JG;exact Kx (IY hc (y9 (vY hN hi hx hf) (y9 (vY hN hj hy hg) HL)))
theorem cK:JC X [] cQ:=by unfold JC;exact E1
theorem zm(h:JT X c t):JC X [c] t:=by unfold JC;unfold JT at h;exact Jl h
theorem eg{scope:Scope}{Nc:List Str}{elt tg iter:Expr}{ifs:List Expr}{src:DI}{fr:List (Option Nat)}{dtg:fL}(S:bz X scope Nc fr)(hi:JI X tg iter src)(hg:∀C s H ex,JG (fB X scope Nc C s H ex) tg dtg)(ht:∀C s H ex,JC (fB X scope Nc C s H ex) ifs t)(he:∀C s H ex,JE (fB X scope Nc C s H ex) elt te)(fit:sP fr dtg)
 (hx:X.xe=fun _ _=>False:=by rfl) (hc:X.calm=true:=by rfl) (hs:∀x,foldedSetIterable iter X.env x=pure x:=by intro _;rfl):JE X (.ListComp elt [⟨tg,iter,ifs,0⟩] scope pos) (dG src fr dtg t te):=by
 unfold JE JI JG JC at*;exact KW S hi hg ht he fit hx hc hs
theorem vC{scope:Scope}{Nc:List Str}{elt tg iter:Expr}{ifs:List Expr}{src:DI}{fr:List (Option Nat)}{dtg:fL}(S:bz X scope Nc fr)(hi:JI X tg iter src)(hg:∀C s H ex,JG (fB X scope Nc C s H ex) tg dtg)(ht:∀C s H ex,JC (fB X scope Nc C s H ex) ifs t)(he:∀C s H ex,JE (fB X scope Nc C s H ex) elt te)(fit:sP fr dtg)
 (hx:X.xe=fun _ _=>False:=by rfl) (hc:X.calm=true:=by rfl) (hs:∀x,foldedSetIterable iter X.env x=pure x:=by intro _;rfl):JE X (.ListComp elt [⟨tg,iter,ifs,0⟩] scope pos) (qK src fr dtg t te):=by
 unfold JE JI JG JC at*;exact Ia S hi hg ht he fit hx hc hs
theorem cG:JB X [] cU:=by unfold JB;exact Iu
theorem ay(h:JS X s T):JB X [s] T:=by unfold JB;unfold JS at h;exact IL h
theorem av(h:JS X s T)(h2:JB X ss U):JB X (s::ss) (aH T U):=by unfold JB at*;unfold JS at h;exact ET h h2
theorem aP(h:JE X e te):JS X (.Return (some e) pos) (ba te):=by unfold JS;unfold JE at h;exact Ja h
theorem mS(h:JE X e te)(hc:ko e=true:=by rfl):JS X (.Expr e pos) (mI te):=by unfold JS;unfold JE at h;exact EG h hc
theorem dE{x y:List Stmt}(hc:JT X c t)(ha:JB X x T)(hb:JB X y U):JS X (.If c x y pos) (d7 t T U):=by unfold JS;unfold JB at*;unfold JT at hc;exact Lz hc ha hb
theorem tI{x:List Stmt}(hc:JT X c t)(hb:JB X x T)(hx:X.xe=fun _ _=>False:=by rfl):JS X (.While c x [] pos) (pd t T):=by unfold JS;unfold JB at hb;unfold JT at hc;exact Fi (Fl (by rw[hx];exact PassesOwn.never) hc hb)
theorem fF{tg iter:Expr}{x:List Stmt}{src:DI}{dtg:fL}(hi:JI X tg iter src)(hg:JG X tg dtg)(hb:JB X x T)(hx:X.xe=fun _ _=>False:=by rfl)(hc:X.calm=true:=by rfl)(hs:∀x,foldedSetIterable iter X.env x=pure x:=by intro _;rfl):JS X (.For tg iter x [] pos) (hJ src dtg T):=by
 unfold JS;unfold JI at hi;unfold JG at hg;unfold JB at hb;exact JQ (J8 (by rw[hx];exact PassesOwn.never) hc hi hg hb hs)
theorem aU{k:Nat}{x:Str}(hN:X.N.Nodup)(hx:Loc X.env.scope x)(he:JE X e te)(hf:X.fn x=true∨X.env.scope.names.lookup x=some .local:=by first|exact .inl rfl|exact .inr rfl)(h:ko e=true:=by rfl)(hi:X.N[k]?=some x:=by rfl):JS X (.Assign [.Name x pos'] e pos) (bg k te):=by
 unfold JS;unfold JE at he;exact JX (Ik hN hi hx he hf h)
theorem vO{scope:Scope}{Nc:List Str}{elt tg iter:Expr}{ifs:List Expr}{src:DI}{fr:List (Option Nat)}{dtg:fL}{k:Nat}{x:Str}(hN:X.N.Nodup)(hl:Loc X.env.scope x)(S:bz X scope Nc fr)(hi:JI X tg iter src)(hg:∀C s H ex,JG (fB X scope Nc C s H ex) tg dtg)(ht:∀C s H ex,JC (fB X scope Nc C s H ex) ifs t)(he:∀C s H ex,JE (fB X scope Nc C s H ex) elt te)(fit:sP fr dtg)
 (hf:X.fn x=true∨X.env.scope.names.lookup x=some .local:=by first|exact .inl rfl|exact .inr rfl) (hsw:swapsWith (.ListComp elt [⟨tg,iter,ifs,0⟩] scope p) (some (.Name x pos')) pos.line X.env=pure true:=by rfl) (hni:X.N[k]?=some x:=by rfl) (hx:X.xe=fun _ _=>False:=by rfl) (hc:X.calm=true:=by rfl) (hs:∀x,foldedSetIterable iter X.env x=pure x:=by intro _;rfl):
 JS X (.Assign [.Name x pos'] (.ListComp elt [⟨tg,iter,ifs,0⟩] scope p) pos) (bg k (dG src fr dtg t te)):=by
 unfold JS;unfold JE JI JG JC at*;exact Ic fit (ID hx hc S hi hg ht he hN hni hl hf hsw hs)
theorem dD(he:JE X e te)(ho:JE X o to)(hi:JE X i ti)(h1:ko e=true:=by rfl)(h2:nP i=true:=by rfl):JS X (.Assign [.Subscript o i pos'] e pos) (dX to ti te):=by unfold JS;unfold JE at*;exact Ft (K3 he ho hi h1 h2)
theorem Lh{k:Nat}{x:Str}{op:Operator}{f:Int→Int→Int}(hN:X.N.Nodup)(hx:Loc X.env.scope x)(he:JE X e te)(ho:JL X op (Ls f))(hf:X.fn x=true∨X.env.scope.names.lookup x=some .local:=by first|exact .inl rfl|exact .inr rfl)(hi:X.N[k]?=some x:=by rfl):JS X (.AugAssign (.Name x pos') op e pos) (BO k (zE f) te):=by
 unfold JS;unfold JE at he;exact Jo (Jh hN hi hx he ho hf)
theorem JK{tg:Expr}{dtg:fL}(he:JE X e te)(hg:JG X tg dtg)(hs:swapsWithSole [tg] e pos.line X.env=pure false:=by rfl)(hw:swappedStores [tg] e X.env=pure none:=by rfl)(h1:(assignEach [tg] X.env).map (·.2)=[assign tg X.env]:=by rfl):JS X (.Assign [tg] e pos) (E3 dtg te):=by
 unfold JS;unfold JE at he;unfold JG at hg;exact Kv (DX he hg hs hw h1)
end
theorem bE{P:Program}{w:World}{K:PySem.W.Frag}{mg:Str→Option Value}{base:Heap}{x qual:Str}{st:Stmt}{f:Addr}{fd:FuncData}{N ps:List Str}{k:Nat}{sp:cp}{t:DS}(F:m_ K x qual st f fd)(S:aO N ps (ai st))
 (hbody:∀(cdv:Value) (A:Around) (outer:List Env) (s:Shared) (H:Hp) (E:XK),cO k (A.deeper (envOfC qual (ai st) s.heap.objs.size f cdv))→JB (pU cq P w K mg base N qual (ai st) f cdv A outer s H E).vb (fM st) t)
 (hsp:∀ds st K,sp ds st K→ds.length=ps.length∧t {nx:=fun _ st'=>K .aK st',rt:=K} (aT N ds) st):a8 P w K mg base cq (k+1) f fd ps (cv sp):=by
 unfold JB at hbody;exact LB F S hbody hsp
end L3
namespace HT
open PySem PyProof.Rows
section
variable {prog:Program}{w:World}{A:Around}{E:Value→Shared→Prop}{s:Shared}
theorem qC{t sl:Addr}{items:Array Value}{vl vu:Value}{lo hi:Option Int}{Q:Value→Shared→Prop}(ht:IsTup s.heap t items)(hs:s.heap.IsSliceOf sl vl vu .none)(pl:IsPart vl lo)(pu:IsPart vu hi)
 (hw:bV items.size 0 lo=0∧bV items.size items.size hi=items.size) (h:Q (.ref t) s):wpAny (model prog w) A (getItem (.ref t) (.ref sl)) Q E s:=by
 obtain⟨os,hos,hcs,hds⟩:=id hs
 have hTs:s.TypeIs (.ref sl) "slice":=⟨os,hos,hcs⟩
 unfold getItem
 try with_reducible refine wpAny_holding ?_
 first|refine wpAny_bind (wpAny_pure ?_)|skip
 refine wpAny_bind (wpAny_sequenceKey ht.typeIs (by decide) ?_)
 refine wpAny_bind (wpAny_callSpecial?_slot (name:=Str.ofString "__getitem__") ht.typeIs PyProof.Rows.slot_tuple_getitem
  (wpAny_call_entry PyProof.Rows.slot_tuple_getitem ht.typeIs entry_tuple_getitem ?_ (args_tuple_getitem _ _)))
 show wpAny _ _ (Builtin.Tuple.tupleItemsOf (.ref t) >>= _) _ _ s
 refine wpAny_bind (tupleItemsOf_ ht ?_)
 refine wpAny_bind (wpAny_typeOf hTs ?_)
 rw[if_pos (by decide)]
 refine wpAny_bind (nc hs pl pu ?_)
 have hyes:(((bV items.size 0 lo:Nat):Int)==0&&(1:Int)==1&&(bV items.size items.size hi-bV items.size 0 lo)==items.size)=true:=by
  rw[hw.1,hw.2]
  simp
 show wpAny _ _ (if(((bV items.size 0 lo:Nat):Int)==0&&(1:Int)==1&&(bV items.size items.size hi-bV items.size 0 lo)==items.size)=true then _ else _) _ _ s
 rw[if_pos hyes]
 refine wpAny_bind ?_
 unfold Builtin.Tuple.tupleIsExact
 exact wpAny_bind (wpAny_typeOf ht.typeIs (wpAny_pure (wpAny_bind (wpAny_rule (wpAny_pure ⟨_,rfl,wpAny_pure h⟩)))))
end
end HT
namespace L3
open PySem L2
open PySem.Spec hiding items?
open PyProof.Rows hiding St
noncomputable abbrev DO:=cj→ag→(Option Int→ag→Prop)→Prop
noncomputable def gm:DO:=fun _ st K=>K none st
noncomputable def jV(t:DE):DO:=fun σ st K=>t σ st fun d st1=>match d with| .int i=>K (some i) st1|_=>False
noncomputable def cutD(xs:List D)(lo hi:Option Int):List D:=(xs.drop (HT.bV xs.length 0 lo)).take (HT.bV xs.length xs.length hi-HT.bV xs.length 0 lo)
noncomputable def yB(d:D)(lo hi:Option Int)(st:ag)(K:DK):Prop:=match d with
 | .lst xs=>K (.lst (cutD xs lo hi)) st
 | .tup xs=>K (.tup (cutD xs lo hi)) st
 | .ref n=>(match st[n]? with|some (.lst xs)=>K (.lst (cutD xs lo hi)) st|_=>False)
 |_=>False
@[irreducible] noncomputable def j6:D→Option Int→Option Int→ag→DK→Prop:=yB
noncomputable def iG(t:DE)(lo hi:DO):DE:=fun σ st K=>t σ st fun d st1=>lo σ st1 fun l st2=>hi σ st2 fun u st3=>j6 d l u st3 K
theorem tG{α:List (Option Addr)}{G:Hp}{xs:List D}{vs:List V}{lo hi:Option Int}(r:aL α G xs vs):aL α G (cutD xs lo hi) (qg vs lo hi):=by
 unfold cutD qg
 rw[←r.length]
 exact bh.mpr (sS _ (sM _ (bh.mp r)))
noncomputable def OX(α:List (Option Addr))(G F:Hp)(K:Option Int→ag→Prop)(Q:Option Int→Hp→Prop):Prop:=∀o st',K o st'→∀α' G' H',Step α G α' G'→b_ G' F H'→aS α' st' G'→Q o H'
inductive Nu(t:DO)(σ:L2.St)(H:Hp)(Q:Option Int→Hp→Prop):Prop
 |mk (α:List (Option Addr)) (σd:cj) (st:ag) (K:Option Int→ag→Prop) (G F:Hp) (P:b_ G F H) (R:d8 α G σd σ) (S:aS α st G) (h:t σd st K) (k:OX α G F K Q):Nu t σ H Q
noncomputable def LO(t:DO):TO:=Nu t
section
variable {X:Cx}
theorem PO.imp{e:Option Expr}{t t':TO}(h:PO X e t)(f:∀σ H Q,t' σ H Q→t σ H Q):PO X e t':=fun pins s σ H Q I q=>h pins s σ H Q I (f σ H Q q)
theorem HZ:PO X none (LO gm):=PO.imp IP fun σ H Q ⟨α,σd,st,K,G,F,P,R,S,t,k⟩=>k none st t α G H Step.refl P S
theorem GY{e:Expr}{te:DE}(h:PE X e (LE te)):PO X (some e) (LO (jV te)):=PO.imp (IS h) fun σ H Q ⟨α,σd,st,K,G,F,P,R,S,t,k⟩=>by
 refine⟨α,σd,st,_,G,F,P,R,S,t,fun d st1 q α1 G1 H1 v s1 P1 S1 r1=>?_⟩
 cases d<;>try exact q.elim
 unfold Rep at r1
 exact⟨_,r1,k _ st1 q α1 G1 H1 s1 P1 S1⟩
noncomputable def OO(x:V)(lo hi:Option Int)(H:Hp)(Q:VK):Prop:=∃α d st K G F,b_ G F H∧Rep α G d x∧aS α st G∧j6 d lo hi st K∧LK α G F K Q
theorem Hx:Dn X (fun x lo hi H Q=>∃a xs,x= .ref a∧H a=some (.tup xs)∧((HT.bV xs.length 0 lo=0∧HT.bV xs.length xs.length hi=xs.length)→Q (.ref a) H)∧(¬(HT.bV xs.length 0 lo=0∧HT.bV xs.length xs.length hi=xs.length)→∀p,H p=none→Q (.ref p) (upd H p (.tup (qg xs lo hi))))):=by
 intro pins s σ H x v vl vu lo hi sl Q I rx hs pl pu h
 obtain⟨a,xs,rfl,hx,q1,q2⟩:=h
 by_cases hw:HT.bV xs.length 0 lo=0∧HT.bV xs.length xs.length hi=xs.length
 · cases rx
   obtain⟨its,r,ht,hz⟩:=I.tuple (ib.of hx)
   have hlen:its.toArray.size=xs.length:=by rw[List.size_toArray];exact r.length.symm
   exact⟨"tuple",_,PyProof.Rows.slot_tuple_getitem.lookup,ht.typeIs,HT.qC ht hs pl pu (by rw[hlen];exact hw) ⟨.ref a,H,I,rfl,q1 hw⟩⟩
 · exact JM pins s σ H _ v vl vu lo hi sl Q I rx hs pl pu ⟨a,xs,rfl,.of hx,hw,q2 hw⟩
theorem DC{xs:List D}{lo hi:Option Int}(hw:HT.bV xs.length 0 lo=0∧HT.bV xs.length xs.length hi=xs.length):cutD xs lo hi=xs:=by
 unfold cutD
 rw[hw.1,hw.2]
 simp
theorem Li:Dn X OO:=by
 intro pins s σ H x v vl vu lo hi sl Q I rx hs pl pu ⟨α,d,st,K,G,F',P,r1,S,q,k⟩
 unfold j6 yB at q
 cases d<;>try exact q.elim
 · rename_i n
   simp only at q
   split at q
   · rename_i xs e
     obtain⟨a,ea,vs,h1,h2⟩:=S.jh e
     have r1':=dQ ea r1
     subst r1'
     exact Ap pins s σ H _ v vl vu lo hi sl Q I rx hs pl pu ⟨a,vs,rfl,.inl (.of (P.get h1)),fun p hp=>k.lst P q S (tG h2) hp⟩
   · exact q.elim
 · unfold Rep at r1
   obtain⟨a,vs,rfl,na,ha,ra⟩:=r1
   exact Ap pins s σ H _ v vl vu lo hi sl Q I rx hs pl pu ⟨a,vs,rfl,.inl (gh P ha),fun p hp=>k.lst P q S (tG ra) hp⟩
 · rename_i xs
   have r0:=r1
   unfold Rep at r1
   obtain⟨a,vs,rfl,na,ha,ra⟩:=r1
   refine Hx pins s σ H _ v vl vu lo hi sl Q I rx hs pl pu ⟨a,vs,rfl,P.get ha,fun hw=>?_,fun _ p hp=>k.tup P q S (tG ra) hp⟩
   rw[←ra.length]at hw
   simp only at q
   rw[DC hw]at q
   exact k.here P q S r0
theorem HQ{e:Expr}{lo hi:Option Expr}{te:DE}{tl th:DO}{p2 pos:Pos}(he:PE X e (LE te))(hl:PO X lo (LO tl))(hh:PO X hi (LO th)):PE X (.Subscript e (.Slice lo hi none p2) pos) (LE (iG te tl th)):=PE.imp (Fv Li he hl hh) fun σ H Q ⟨α,σd,st,K,G,F,P,R,S,t,k⟩=>by
 refine⟨α,σd,st,_,G,F,P,R,S,t,fun d st1 q α1 G1 H1 v s1 P1 S1 r1=>?_⟩
 refine⟨α1,σd,st1,_,G1,F,P1,R.step s1,S1,q,fun l st2 q2 α2 G2 H2 s2 P2 S2=>?_⟩
 refine⟨α2,σd,st2,_,G2,F,P2,(R.step s1).step s2,S2,q2,fun u st3 q3 α3 G3 H3 s3 P3 S3=>?_⟩
 exact⟨α3,d,st3,K,G3,F,P3,(r1.step s2).step s3,S3,q3,((k.at s1).at s2).at s3⟩
@[irreducible] noncomputable def JO(X:Cx)(e:Option Expr)(t:DO):Prop:=PO X e (LO t)
theorem kh:JO X none gm:=by unfold JO;exact HZ
theorem kI{e:Expr}{te:DE}(h:JE X e te):JO X (some e) (jV te):=by unfold JO;unfold JE at h;exact GY h
theorem kG{e:Expr}{lo hi:Option Expr}{te:DE}{tl th:DO}{p2 pos:Pos}(he:JE X e te)(hl:JO X lo tl)(hh:JO X hi th):JE X (.Subscript e (.Slice lo hi none p2) pos) (iG te tl th):=by unfold JE at*;unfold JO at*;exact HQ he hl hh
end
theorem nS{st:ag}{K:DK}{xs:List D}{lo hi:Option Int}(k:K (.lst (cutD xs lo hi)) st):j6 (.lst xs) lo hi st K:=by unfold j6;exact k
theorem wD{st:ag}{K:DK}{xs:List D}{lo hi:Option Int}(k:K (.tup (cutD xs lo hi)) st):j6 (.tup xs) lo hi st K:=by unfold j6;exact k
theorem De{st:ag}{K:DK}{xs:List D}{lo hi:Option Int}{n:Nat}(h:st[n]?=some (.lst xs))(k:K (.lst (cutD xs lo hi)) st):j6 (.ref n) lo hi st K:=by unfold j6 yB;simp only[h];exact k
end L3
namespace L3
open PySem L2
open PySem.Spec hiding items?
open PyProof.Rows hiding St
section
variable {prog:Program}{w:World}{A:Around}{E:Value→Shared→Prop}{s:Shared}
theorem Bi{iT tp:Addr}{n:Nat}{its:Array Value}{v:Value}{Q:Value→Shared→Prop}(hI:s.heap.IsTupleIter iT tp n)(hT:s.heap.IsTuple tp its)(hv:its[n]?=some v)
 (q:∀g,g.IsTupleIter iT tp (n+1)→Heap.SameBut iT s.heap g→Q v {s with heap:=g}):wpAny (model prog w) A (Builtin.SmallTypes.nextOf (.ref iT)) Q E s:=by
 obtain⟨oI,eI,cI,dI⟩:=id hI
 obtain⟨oT,eT,_,nT,dT⟩:=hT
 unfold Builtin.SmallTypes.nextOf
 refine wpAny_bind (wpAny_callSpecial?_slot (name:=Str.ofString "__next__") hI.typeIs F.slot_tuple_iterator_next (wpAny_call_entry F.slot_tuple_iterator_next hI.typeIs F.entry_tuple_iterator_next ?_ (F.args_tuple_iterator_next_1 _)))
 show wpAny _ _ (field (.ref iT) 0 >>= _) _ _ s
 refine wpAny_bind (wpAny_field eI dI (x:= .ref tp) rfl ?_)
 show wpAny _ _ (if(Value.ref tp==Value.none)=true then _ else _) _ _ s
 rw[if_neg (show¬((Value.ref tp==Value.none)=true)from Bool.false_ne_true)]
 show wpAny _ _ (field (.ref iT) 1 >>= _) _ _ s
 refine wpAny_bind (wpAny_field eI dI (x:= .int n 0) rfl ?_)
 show wpAny _ _ (seqItems? (.ref tp) >>= _) _ _ s
 refine wpAny_bind (wpAny_seqItems eT dT ?_)
 simp only[Int.toNat_natCast,hv]
 refine wpAny_bind (wpAny_setField eI dI (by simp) (wpAny_pure ⟨v,rfl,wpAny_pure (q _ ?_ (Heap.SameBut.update ..))⟩))
 refine⟨_,Heap.get?_update_self _ eI (Obj.isFreed_of_fields (Obj.data_mapFields dI _)),(Obj.cls_mapFields ..).trans cI,?_⟩
 rw[Obj.data_mapFields dI]
 simp[rawInt]
theorem DG{iT tp:Addr}{n:Nat}{its:Array Value}{Q:Value→Shared→Prop}(hh:A.handled=none)(hI:s.heap.IsTupleIter iT tp n)(hT:s.heap.IsTuple tp its)(hv:its[n]?=none)
 (q:∀g e,Heap.ExtBut iT s.heap g→(∃o,g.get? e=some o∧o.cls= .type "StopIteration")→E (.ref e) {s with heap:=g}):wpAny (model prog w) A (Builtin.SmallTypes.nextOf (.ref iT)) Q E s:=by
 obtain⟨oI,eI,cI,dI⟩:=id hI
 obtain⟨oT,eT,_,nT,dT⟩:=hT
 unfold Builtin.SmallTypes.nextOf
 refine wpAny_bind (wpAny_callSpecial?_slot (name:=Str.ofString "__next__") hI.typeIs F.slot_tuple_iterator_next (wpAny_call_entry F.slot_tuple_iterator_next hI.typeIs F.entry_tuple_iterator_next ?_ (F.args_tuple_iterator_next_1 _)))
 show wpAny _ _ (field (.ref iT) 0 >>= _) _ _ s
 refine wpAny_bind (wpAny_field eI dI (x:= .ref tp) rfl ?_)
 show wpAny _ _ (if(Value.ref tp==Value.none)=true then _ else _) _ _ s
 rw[if_neg (show¬((Value.ref tp==Value.none)=true)from Bool.false_ne_true)]
 show wpAny _ _ (field (.ref iT) 1 >>= _) _ _ s
 refine wpAny_bind (wpAny_field eI dI (x:= .int n 0) rfl ?_)
 show wpAny _ _ (seqItems? (.ref tp) >>= _) _ _ s
 refine wpAny_bind (wpAny_seqItems eT dT ?_)
 simp only[Int.toNat_natCast,hv]
 refine wpAny_bind (wpAny_rule (wpAny_bind (wpAny_setField eI dI (by simp) ?_)))
 show wpAny _ _ (newExc (.type "StopIteration") [] >>= _) _ _ _
 refine wpAny_bind ?_
 simp only[newExc,newTuple]
 refine wpAny_bind (wpAny_newObj_type ?_ (by size_fits))
 refine wpAny_bind (m:=firstArgMember _ _) (wpAny_of_eq (a:=Value.none) (by first|rfl|(simp only[firstArgMember];rfl)) ?_)
 refine wpAny_newObj_type ?_ (by size_fits)
 simp only[raiseNew]
 refine wpAny_bind (wpAny_handled ?_)
 first|rw[show A.in1.handled=none from hh]|rw[hh]
 refine wpAny_bind (wpAny_pure (wpAny_throw ?_))
 exact q _ _ (((Heap.SameBut.update ..).extBut.push _).push _) ⟨_,Heap.get?_push_size _ rfl,rfl⟩
end
end L3
namespace L3
open PySem L2
open PySem.Spec hiding items?
open PyProof.Rows hiding St
section
variable {st:ag}{K:DK}{i j:Int}{b c:Bool}{xs ys:List D}{d e:D}{n:Nat}
theorem eqT(h:i=j)(k:K (.bl true) st):iW (.int i) (.int j) st K:=Cs (by rw[decide_eq_true h];exact k)
theorem ON(h:i≠j)(k:K (.bl false) st):iW (.int i) (.int j) st K:=Cs (by rw[decide_eq_false h];exact k)
theorem eq2(h1:i=j→K (.bl true) st)(h2:i≠j→K (.bl false) st):iW (.int i) (.int j) st K:=by
 by_cases h:i=j
 · exact eqT h (h1 h)
 · exact ON h (h2 h)
theorem neT(h:i≠j)(k:K (.bl true) st):mh (.int i) (.int j) st K:=Gn (by rw[decide_eq_false h];exact k)
theorem CV(h:i=j)(k:K (.bl false) st):mh (.int i) (.int j) st K:=Gn (by rw[decide_eq_true h];exact k)
theorem ne2(h1:i≠j→K (.bl true) st)(h2:i=j→K (.bl false) st):mh (.int i) (.int j) st K:=by
 by_cases h:i=j
 · exact CV h (h2 h)
 · exact neT h (h1 h)
theorem Nw(h:i<j)(k:K (.bl true) st):pj (.int i) (.int j) st K:=GN (by rw[decide_eq_true h];exact k)
theorem Ny(h:j≤i)(k:K (.bl false) st):pj (.int i) (.int j) st K:=GN (by rw[decide_eq_false (by omega)];exact k)
theorem Nz(h1:i<j→K (.bl true) st)(h2:j≤i→K (.bl false) st):pj (.int i) (.int j) st K:=by
 by_cases h:i<j
 · exact Nw h (h1 h)
 · exact Ny (by omega) (h2 (by omega))
theorem OR(h:i≤j)(k:K (.bl true) st):wB (.int i) (.int j) st K:=GC (by rw[decide_eq_true h];exact k)
theorem OL(h:j<i)(k:K (.bl false) st):wB (.int i) (.int j) st K:=GC (by rw[decide_eq_false (by omega)];exact k)
theorem OV(h:j<i)(k:K (.bl true) st):nY (.int i) (.int j) st K:=GS (by rw[decide_eq_true h];exact k)
theorem OG(h:i≤j)(k:K (.bl false) st):nY (.int i) (.int j) st K:=GS (by rw[decide_eq_false (by omega)];exact k)
theorem Av(h1:j<i→K (.bl true) st)(h2:i≤j→K (.bl false) st):nY (.int i) (.int j) st K:=by
 by_cases h:j<i
 · exact OV h (h1 h)
 · exact OG (by omega) (h2 (by omega))
theorem OE{P:Prop}(h:xs.length≤1000)(k:P):xs.length≤sizeLine∧P:=⟨by rw[sizeLine_eq];omega,k⟩
theorem cE{m:Nat}(h:m≤1000):m≤sizeLine:=by rw[sizeLine_eq];omega
theorem vw(h0:0≤i)(e:xs[i.toNat]?=some d):dZ xs i=some d:=by
 have:=iN e
 rw[Int.toNat_of_nonneg h0]at this
 exact this
theorem zC{m:Nat}(h0:0≤i)(h:i.toNat<m):mi m i=some i.toNat:=by
 unfold mi
 have:i<(m:Int):=by omega
 simp[h0,this]
end
theorem g5{tg:fL}{body:DS}{ok:ag→Prop}{E:oC}(I:List D→cj→ag→Prop)(hend:∀σ st,I [] σ st→ok st∧E.nx σ st)
 (hstep:∀x xs σ st,I (x::xs) σ st→(∀σ' st',I xs σ' st'→ix tg body ok E xs σ' st')→ok st∧∃σ1,tg x σ=some σ1∧body {E with nx:=ix tg body ok E xs,ct:=ix tg body ok E xs,bk:=E.nx} σ1 st):
 ∀xs σ st,I xs σ st→ix tg body ok E xs σ st
 | [],σ,st,h=>by unfold ix;exact hend σ st h
 |x::xs,σ,st,h=>by unfold ix;exact hstep x xs σ st h fun σ' st' h'=>g5 I hend hstep xs σ' st' h'
theorem f6{tg:fL}{c:DT}{te:DE}{ok:ag→Prop}{σc:cj}{K:List D→ag→Prop}(I:List D→List D→ag→Prop)(hend:∀acc st,I [] acc st→ok st∧K acc st)
 (hstep:∀x xs acc st,I (x::xs) acc st→(∀acc' st',I xs acc' st'→dg tg c te ok σc xs acc' st' K)→ok st∧∃σ2,tg x σc=some σ2∧c σ2 st fun b st1=>if b=true then te σ2 st1 fun y st2=>dg tg c te ok σc xs (acc++[y]) st2 K else dg tg c te ok σc xs acc st1 K):
 ∀xs acc st,I xs acc st→dg tg c te ok σc xs acc st K
 | [],acc,st,h=>by unfold dg;exact hend acc st h
 |x::xs,acc,st,h=>by unfold dg;exact hstep x xs acc st h fun acc' st' h'=>f6 I hend hstep xs acc' st' h'
theorem comp_map{tg:fL}{te:DE}{ok:ag→Prop}{σc:cj}{st:ag}{K:List D→ag→Prop}{g:D→D}(aN:ok st)(xs:List D)(hx:∀x∈xs,∀K',K' (g x) st→∃σ2,tg x σc=some σ2∧te σ2 st K')(k:K (xs.map g) st):dg tg cQ te ok σc xs [] st K:=by
 refine f6 (fun r acc st'=>st'=st∧(∀x∈r,x∈xs)∧acc++r.map g=xs.map g) (fun acc st' h=>?_) (fun x r acc st' h next=>?_) xs [] st ⟨rfl,fun _ h=>h,rfl⟩
 · obtain⟨rfl,_,e⟩:=h
   rw[List.map_nil,List.append_nil]at e
   rw[e];exact⟨aN,k⟩
 · obtain⟨rfl,hm,e⟩:=h
   obtain⟨σ2,e2,q⟩:=hx x (hm x List.mem_cons_self) (fun y st2=>dg tg cQ te ok σc r (acc++[y]) st2 K) (next _ _ ⟨rfl,fun z hz=>hm z (List.mem_cons_of_mem _ hz),by rw[←e];simp⟩)
   exact⟨aN,σ2,e2,q⟩
theorem m7{A B:DS}{E:oC}{σ:cj}{st:ag}(J:cj→ag→Prop)(h:∀nx,(∀σ' st',J σ' st'→nx σ' st')→A {E with nx:=nx} σ st)(k:∀σ' st',J σ' st'→B E σ' st'):aH A B E σ st:=h (B E) k
noncomputable def K4(n:Nat)(K:DK)(y:D)(st2:ag):Prop:=∃y',[y]=[y']∧(match st2[n]? with|some (.lst xs)=>xs.length<sizeLine∧K .aK (st2.set n (.lst (xs++[y'])))|_=>False)
theorem HS{n:Nat}{K:DK}{y:D}{st:ag}{xs:List D}(e:st[n]?=some (.lst xs))(h:xs.length<sizeLine)(k:K .aK (st.set n (.lst (xs++[y])))):K4 n K y st:=by
 refine⟨y,rfl,?_⟩;simp only[e];exact⟨h,k⟩
@[irreducible] noncomputable def pE(to te:DE):DE:=o_ to te
theorem Lj{σ:cj}{st:ag}{K:DK}{i n:Nat}{xs:List D}{te:DE}(ei:σ[i]?=some (some (.ref n)))(e:st[n]?=some (.lst xs))(h:te σ st (K4 n K)):pE (ae i) te σ st K:=by
 unfold pE o_ ae
 simp only[ei,e]
 exact h
theorem C2{X:Cx}{o e:Expr}{to te:DE}{apos cpos:Pos}(ho:JE X o to)(he:JE X e te)(hbase:attributeBase o "append" X.env (eval o X.env)=eval o X.env:=by rfl)(hline:(apos.endLine==cpos.line)=true:=by rfl)(hs:notStar e=true:=by rfl):JE X (.Call (.Attribute o "append" apos) [e] [] cpos) (pE to te):=by
 unfold pE;exact Ep ho he hbase hline hs
section
variable {X:Cx}
end
end L3
namespace L3
open PySem L2
open PySem.Spec hiding items?
open PyProof.Rows hiding St
structure Src(P:Program)(w:World)(t a:Addr)(J:Nat→Heap→Prop)(us:Array Value):Prop where
 fr:∀n g k,J n g→(∀b,b=t∨b=a→∀o,g.get? b=some o→k.get? b=some o)→J n k
 lv:∀n g,J n g→(∃o,g.get? t=some o)∧∃o,g.get? a=some o
 nx:∀n (A:Around) (s:Shared) (Q:Value→Shared→Prop) (E:Value→Shared→Prop) v,J n s.heap→us[n]?=some v→(∀k,J (n+1) k→Heap.SameBut t s.heap k→Q v {s with heap:=k})→wpAny (model P w) A (Builtin.SmallTypes.nextOf (.ref t)) Q E s
 en:∀n (A:Around) (s:Shared) (Q:Value→Shared→Prop) (E:Value→Shared→Prop),A.handled=none→J n s.heap→us[n]?=none→(∀k e,Heap.ExtBut t s.heap k→(∃o,k.get? e=some o∧o.cls= .type "StopIteration")→E (.ref e) {s with heap:=k})→wpAny (model P w) A (Builtin.SmallTypes.nextOf (.ref t)) Q E s
section
variable {P:Program}{w:World}
theorem src_list(t a:Addr)(hne:a≠t)(us:Array Value):Src P w t a (fun n g=>g.IsListIter t a n∧g.IsList a us) us where
 fr:=fun n g k j kp=>⟨j.1.at fun o e=>kp t (.inl rfl) o e,j.2.at fun o e=>kp a (.inr rfl) o e⟩
 lv:=fun n g j=>⟨let⟨o,e,_⟩:=j.1;⟨o,e⟩,let⟨o,e,_⟩:=j.2;⟨o,e⟩⟩
 nx:=fun n A s Q E v j hv q=>wpAny_nextOf_list_item j.1 j.2 hv fun k jk sb=>q k ⟨jk,j.2.extBut sb.extBut hne⟩ sb
 en:=fun n A s Q E hh j hv q=>wpAny_nextOf_list_end hh j.1 j.2 hv q
theorem Iz(t a:Addr)(hne:a≠t)(us:Array Value):Src P w t a (fun n g=>g.IsTupleIter t a n∧g.IsTuple a us) us where
 fr:=fun n g k j kp=>by
  obtain⟨⟨o,e,r⟩,⟨o2,e2,r2⟩⟩:=j
  exact⟨⟨o,kp t (.inl rfl) o e,r⟩,⟨o2,kp a (.inr rfl) o2 e2,r2⟩⟩
 lv:=fun n g j=>⟨let⟨o,e,_⟩:=j.1;⟨o,e⟩,let⟨o,e,_⟩:=j.2;⟨o,e⟩⟩
 nx:=fun n A s Q E v j hv q=>Bi j.1 j.2 hv fun k jk sb=>q k ⟨jk,j.2.extBut sb.extBut hne⟩ sb
 en:=fun n A s Q E hh j hv q=>DG hh j.1 j.2 hv q
theorem Src.ext{t a c:Addr}{J:Nat→Heap→Prop}{us:Array Value}(S:Src P w t a J us){n:Nat}{g k:Heap}(j:J n g)(x:Heap.ExtBut c g k)(h1:c≠t)(h2:c≠a):J n k:=
 S.fr n g k j fun b hb o e=>x b o (by rcases hb with rfl|rfl;exact Ne.symm h1;exact Ne.symm h2) e
structure Ax(z ti to t1 t2 a1 a2:Addr):Prop where
 nd: [z,ti,to,t1,t2].Nodup
 a1:a1∉[z,ti,to,t1,t2]
 a2:a2∉[z,ti,to,t1,t2]
section
variable {z ti to t1 t2 a1 a2:Addr}
theorem Ax.n(D:Ax z ti to t1 t2 a1 a2):(ti≠z∧to≠z∧t1≠z∧t2≠z)∧(ti≠to∧ti≠t1∧ti≠t2)∧(to≠t1∧to≠t2)∧t1≠t2:=by
 have:=D.nd
 simp only[List.nodup_cons,List.mem_cons,not_or,List.not_mem_nil,not_false_eq_true,and_true,List.nodup_nil]at this
 obtain⟨⟨b1,b2,b3,b4⟩,⟨b5,b6,b7⟩,⟨b8,b9⟩,b10⟩:=this
 exact⟨⟨Ne.symm b1,Ne.symm b2,Ne.symm b3,Ne.symm b4⟩,⟨b5,b6,b7⟩,⟨b8,b9⟩,b10⟩
theorem Dy{A:Around}{s:Shared}{E:Value→Shared→Prop}{J1 J2:Nat→Heap→Prop}{us vs:Array Value}{n:Nat}{x y a b:Value}{Q:Value→Shared→Prop}(D:Ax z ti to t1 t2 a1 a2)(S1:Src P w t1 a1 J1 us)(S2:Src P w t2 a2 J2 vs)
 (Z:IsZip s.heap z ti to .none) (pI:IsPair s.heap ti (.ref t1) (.ref t2)) (pO:IsPair s.heap to a b) (j1:J1 n s.heap) (j2:J2 n s.heap) (ex:us[n]?=some x) (ey:vs[n]?=some y)
 (q:∀k,IsZip k z ti to (rawInt s.heap.objs.size)→IsPair k to x y→J1 (n+1) k→J2 (n+1) k→IsPair k s.heap.objs.size x y→k.objs.size=s.heap.objs.size+1→
   (∀c o,c≠z→c≠to→c≠t1→c≠t2→s.heap.get? c=some o→k.get? c=some o)→Q (.ref s.heap.objs.size) {s with heap:=k}):
 wpAny (model P w) A (Builtin.«zip.__next__» ⟨[.ref z],[]⟩) (fun fin s'=>∃v,fin= .done (.ret v)∧Q v s') E s:=by
 obtain⟨⟨n1,n2,n3,n4⟩,⟨n5,n6,n7⟩,⟨n8,n9⟩,n10⟩:=D.n
 have m1:=D.a1
 have m2:=D.a2
 simp only[List.mem_cons,not_or,List.not_mem_nil,not_false_eq_true,and_true]at m1 m2
 show wpAny _ _ (field (.ref z) 2 >>= _) _ _ _
 refine wpAny_bind (wpAny_field Z rfl (x:= .bool false) rfl ?_)
 show wpAny _ _ (field (.ref z) 3 >>= _) _ _ _
 refine wpAny_bind (wpAny_field Z rfl (x:= .ref ti) rfl ?_)
 refine wpAny_bind (wpAny_seqItems pI rfl ?_)
 show wpAny _ _ (Builtin.SmallTypes.ownedTupleIsFree (.ref z) >>= _) _ _ _
 refine wpAny_bind ?_
 unfold Builtin.SmallTypes.ownedTupleIsFree
 refine wpAny_bind (wpAny_field Z rfl (x:= .none) rfl (wpAny_pure ?_))
 simp only[if_true]
 refine wpAny_bind (wpAny_rule ?_)
 refine wpAny_bind (wpAny_field Z rfl (x:= .ref to) rfl ?_)
 refine wpAny_bind (wpAny_setField_rec Z (by simp) fun k1 Z1 b1=>?_)
 replace Z1:IsZip k1 z ti to .ellipsis:=Z1
 refine wpAny_bind ?_
 simp only[List.zipIdx_cons,List.zipIdx_nil,List.forIn_cons,List.forIn_nil]
 refine wpAny_bind (wpAny_bind (wpAny_onRaise ?_))
 show wpAny _ _ (Builtin.SmallTypes.nextOf (.ref t1) >>= _) _ _ _
 refine wpAny_bind (S1.nx n _ _ _ _ x (S1.ext j1 b1.extBut (Ne.symm n3) (Ne.symm m1.1)) ex fun k2 j1b b2=>wpAny_pure ?_)
 have pO2:IsPair k2 to a b:=b2.extBut _ _ n8 (b1.extBut _ _ n2 pO)
 refine wpAny_bind (wpAny_seqItems pO2 rfl ?_)
 refine wpAny_bind (wpAny_updateSeq_pair pO2 fun k3 pO3 b3=>?_)
 replace pO3:IsPair k3 to x b:=pO3
 refine wpAny_bind (wpAny_letGo (wpAny_pure ?_))
 refine wpAny_bind (wpAny_bind (wpAny_onRaise ?_))
 show wpAny _ _ (Builtin.SmallTypes.nextOf (.ref t2) >>= _) _ _ _
 have j2c:J2 n k3:=S2.ext (S2.ext (S2.ext j2 b1.extBut (Ne.symm n4) (Ne.symm m2.1)) b2.extBut n10 (Ne.symm m2.2.2.2.1)) b3.extBut n9 (Ne.symm m2.2.2.1)
 refine wpAny_bind (S2.nx n _ _ _ _ y j2c ey fun k4 j2d b4=>wpAny_pure ?_)
 have pO4:IsPair k4 to x b:=b4.extBut _ _ n9 pO3
 refine wpAny_bind (wpAny_seqItems pO4 rfl ?_)
 refine wpAny_bind (wpAny_updateSeq_pair pO4 fun k5 pO5 b5=>?_)
 replace pO5:IsPair k5 to x y:=pO5
 refine wpAny_bind (wpAny_letGo (wpAny_pure (wpAny_pure ?_)))
 refine wpAny_bind (wpAny_seqItems pO5 rfl ?_)
 refine wpAny_bind (wpAny_newTuple ?_)
 have sz:k5.objs.size=s.heap.objs.size:=by rw[b5.1,b4.1,b3.1,b2.1,b1.1]
 have Z5:IsZip k5 z ti to .ellipsis:=b5.extBut _ _ (Ne.symm n2) (b4.extBut _ _ (Ne.symm n4) (b3.extBut _ _ (Ne.symm n2) (b2.extBut _ _ (Ne.symm n3) Z1)))
 have kp5:∀c o,c≠z→c≠to→c≠t1→c≠t2→s.heap.get? c=some o→k5.get? c=some o:=fun c o c1 c2 c3 c4 e=>b5.extBut _ _ c2 (b4.extBut _ _ c4 (b3.extBut _ _ c2 (b2.extBut _ _ c3 (b1.extBut _ _ c1 e))))
 have j1e:J1 (n+1) k5:=S1.ext (S1.ext (S1.ext j1b b3.extBut n8 (Ne.symm m1.2.2.1)) b4.extBut (Ne.symm n10) (Ne.symm m1.2.2.2.2)) b5.extBut n8 (Ne.symm m1.2.2.1)
 have j2e:J2 (n+1) k5:=S2.ext j2d b5.extBut n9 (Ne.symm m2.2.2.1)
 have ltz:z<k5.objs.size:=Heap.lt_size Z5
 show wpAny _ _ (Builtin.SmallTypes.ownedTupleHandOut (.ref z) (.ref k5.objs.size) >>= _) _ _ _
 refine wpAny_bind ?_
 unfold Builtin.SmallTypes.ownedTupleHandOut
 have Z6:IsZip (k5.push {cls:= .type "tuple",data:= .seq #[x,y]}) z ti to .ellipsis:=Heap.get?_push_of_some _ Z5
 refine wpAny_bind (wpAny_setField_rec Z6 (by simp) fun k7 Z7 b7=>?_)
 replace Z7:IsZip k7 z ti to (rawInt k5.objs.size):=Z7
 refine wpAny_setField_rec Z7 (by simp) fun k8 Z8 b8=>?_
 replace Z8:IsZip k8 z ti to (rawInt k5.objs.size):=Z8
 have up:∀c o,c≠z→k5.get? c=some o→k8.get? c=some o:=fun c o c1 e=>b8.extBut _ _ c1 (b7.extBut _ _ c1 (Heap.get?_push_of_some _ e))
 have pT:IsPair k8 k5.objs.size x y:=b8.extBut _ _ (Nat.ne_of_gt ltz) (b7.extBut _ _ (Nat.ne_of_gt ltz) (Heap.get?_push_size _ rfl))
 have sz8:k8.objs.size=k5.objs.size+1:=by rw[b8.1,b7.1,Heap.size_push]
 rw[sz]at Z8 pT sz8
 refine wpAny_pure ⟨_,rfl,?_⟩
 show Q (.ref k5.objs.size) _
 rw[sz]
 refine q k8 Z8 (up _ _ n2 pO5) (S1.fr _ _ _ j1e fun b hb o e=>up b o ?_ e) (S2.fr _ _ _ j2e fun b hb o e=>up b o ?_ e) pT sz8 fun c o c1 c2 c3 c4 e=>up c o c1 (kp5 c o c1 c2 c3 c4 e)
 · rcases hb with rfl|rfl
   · exact n3
   · exact m1.1
 · rcases hb with rfl|rfl
   · exact n4
   · exact m2.1
theorem Fy{A:Around}{s:Shared}{E:Value→Shared→Prop}{J1 J2:Nat→Heap→Prop}{us vs:Array Value}{n:Nat}{a b:Value}{Q:Fin→Shared→Prop}(hh:A.handled=none)(D:Ax z ti to t1 t2 a1 a2)(S1:Src P w t1 a1 J1 us)(S2:Src P w t2 a2 J2 vs)
 (Z:IsZip s.heap z ti to .none) (pI:IsPair s.heap ti (.ref t1) (.ref t2)) (pO:IsPair s.heap to a b) (j1:J1 n s.heap) (j2:J2 n s.heap) (he:us[n]?=none∨vs[n]?=none)
 (q:∀k e,(∀c o,c≠z→c≠to→c≠t1→c≠t2→s.heap.get? c=some o→k.get? c=some o)→(∃o,k.get? e=some o∧o.cls= .type "StopIteration")→E (.ref e) {s with heap:=k}):
 wpAny (model P w) A (Builtin.«zip.__next__» ⟨[.ref z],[]⟩) Q E s:=by
 obtain⟨⟨n1,n2,n3,n4⟩,⟨n5,n6,n7⟩,⟨n8,n9⟩,n10⟩:=D.n
 have m1:=D.a1
 have m2:=D.a2
 simp only[List.mem_cons,not_or,List.not_mem_nil,not_false_eq_true,and_true]at m1 m2
 show wpAny _ _ (field (.ref z) 2 >>= _) _ _ _
 refine wpAny_bind (wpAny_field Z rfl (x:= .bool false) rfl ?_)
 show wpAny _ _ (field (.ref z) 3 >>= _) _ _ _
 refine wpAny_bind (wpAny_field Z rfl (x:= .ref ti) rfl ?_)
 refine wpAny_bind (wpAny_seqItems pI rfl ?_)
 show wpAny _ _ (Builtin.SmallTypes.ownedTupleIsFree (.ref z) >>= _) _ _ _
 refine wpAny_bind ?_
 unfold Builtin.SmallTypes.ownedTupleIsFree
 refine wpAny_bind (wpAny_field Z rfl (x:= .none) rfl (wpAny_pure ?_))
 simp only[if_true]
 refine wpAny_bind (wpAny_rule ?_)
 refine wpAny_bind (wpAny_field Z rfl (x:= .ref to) rfl ?_)
 refine wpAny_bind (wpAny_setField_rec Z (by simp) fun k1 Z1 b1=>?_)
 replace Z1:IsZip k1 z ti to .ellipsis:=Z1
 refine wpAny_bind ?_
 simp only[List.zipIdx_cons,List.zipIdx_nil,List.forIn_cons,List.forIn_nil]
 refine wpAny_bind (wpAny_bind (wpAny_onRaise ?_))
 show wpAny _ _ (Builtin.SmallTypes.nextOf (.ref t1) >>= _) _ _ _
 have j1a:J1 n k1:=S1.ext j1 b1.extBut (Ne.symm n3) (Ne.symm m1.1)
 cases ex:us[n]? with
 |none=>
  refine wpAny_bind (S1.en n _ _ _ _ hh j1a ex fun k2 e b2 hx=>?_)
  obtain⟨oe,he1,he2⟩:=hx
  have Z2:IsZip k2 z ti to .ellipsis:=b2 _ _ (Ne.symm n3) Z1
  have hez:e≠z:=fun c=>by subst c;rw[Z2]at he1;cases he1;simp at he2
  refine wpAny_setField_rec Z2 (by simp) fun k3 _ b3=>q k3 e (fun c o c1 _ c3 _ f=>b3.extBut _ _ c1 (b2 _ _ c3 (b1.extBut _ _ c1 f))) ⟨oe,b3.extBut _ _ hez he1,he2⟩
 |some x=>
  have ey:vs[n]?=none:=by
   rcases he with h|h
   · rw[ex]at h;cases h
   · exact h
  refine wpAny_bind (S1.nx n _ _ _ _ x j1a ex fun k2 j1b b2=>wpAny_pure ?_)
  have pO2:IsPair k2 to a b:=b2.extBut _ _ n8 (b1.extBut _ _ n2 pO)
  refine wpAny_bind (wpAny_seqItems pO2 rfl ?_)
  refine wpAny_bind (wpAny_updateSeq_pair pO2 fun k3 pO3 b3=>?_)
  refine wpAny_bind (wpAny_letGo (wpAny_pure ?_))
  refine wpAny_bind (wpAny_bind (wpAny_onRaise ?_))
  show wpAny _ _ (Builtin.SmallTypes.nextOf (.ref t2) >>= _) _ _ _
  have j2c:J2 n k3:=S2.ext (S2.ext (S2.ext j2 b1.extBut (Ne.symm n4) (Ne.symm m2.1)) b2.extBut n10 (Ne.symm m2.2.2.2.1)) b3.extBut n9 (Ne.symm m2.2.2.1)
  refine wpAny_bind (S2.en n _ _ _ _ hh j2c ey fun k4 e b4 hx=>?_)
  obtain⟨oe,he1,he2⟩:=hx
  have Z4:IsZip k4 z ti to .ellipsis:=b4 _ _ (Ne.symm n4) (b3.extBut _ _ (Ne.symm n2) (b2.extBut _ _ (Ne.symm n3) Z1))
  have hez:e≠z:=fun c=>by subst c;rw[Z4]at he1;cases he1;simp at he2
  refine wpAny_setField_rec Z4 (by simp) fun k5 _ b5=>q k5 e (fun c o c1 c2 c3 c4 f=>b5.extBut _ _ c1 (b4 _ _ c4 (b3.extBut _ _ c2 (b2.extBut _ _ c3 (b1.extBut _ _ c1 f))))) ⟨oe,b5.extBut _ _ hez he1,he2⟩
end
end
end L3
namespace L3
open PySem L2
open PySem.Spec hiding items?
open PyProof.Rows hiding St
theorem GQ{X:Cx}{pins:List (Addr×Obj)}{σ:L2.St}{H:Hp}{s:Shared}{g:Heap}{tk:Nat}{fp:List Addr}{T:Addr}{xs:List V}(I:Inv X pins σ H s)(hf:∀b∈fp,kj X pins H b)
 (k:∀b o,b∉fp→s.heap.get? b=some o→g.get? b=some o) (hT:s.heap.objs.size≤T) (new:dv X.prog X.w (upd H T (.tup xs)) g T (.tup xs)):Inv X pins σ (upd H T (.tup xs)) {s with heap:=g,toks:=tk}:=by
 have hn:H T=none:=I.aN.fresh hT
 have nfp:∀b u,H b=some u→b∉fp:=fun b u e z=>by rw[(hf b z).1]at e;cases e
 have nT:∀b u,H b=some u→b≠T:=fun b u e=>dm e hn
 refine I.step (g':=s.gens) (d':=s.drawn) (ch:=fp) (fun b hb=>?_) (fun b o _ _ hc e _=>k b o hc e) (fun b o _ _ hc e _=>⟨o.slots,k b o hc e⟩) (fun b o _ e n=>?_) (fun b o hc e=>⟨o,k b o hc e⟩)
  (fun b ys e=>by rw[az (nT b _ e)];exact e) (fun b o u e=>by rw[az (nT b _ e)];exact e) (fun b ps e=>⟨#[],by rw[az (nT b _ e),e];simp⟩) (fun m hm=>?_) (fun b u e=>?_) I.bare
 · obtain⟨f0,f1,f2,f3,f4,f5⟩:=hf b hb
   exact⟨f3,f1,f4,f5⟩
 · rw[az (Nat.ne_of_lt (Nat.lt_of_lt_of_le (Heap.lt_size e) hT))];exact n
 · obtain⟨o,es,ep,ho,r⟩:=hm
   exact⟨o,es,ep,k _ o (fun z=>(hf _ z).2.1 rfl) ho,r⟩
 · by_cases hb:b=T
   · subst hb;rw[aZ]at e;cases e;exact new
   · rw[az hb]at e
     refine(I.aN b u e).oN (fun c v hc q=>k c v ?_ q) (fun c q=>by rw[az (nT c _ q)];exact q) fun c ys q=>by rw[az (nT c _ q)];exact q
     rcases hc with z|z
     · rw[z];exact nfp b u e
     · exact nfp c _ z
theorem Gk{X:Cx}{pins:List (Addr×Obj)}{σ:L2.St}{H:Hp}{s:Shared}{g:Heap}{tk:Nat}{fp:List Addr}(I:Inv X pins σ H s)(hf:∀b∈fp,kj X pins H b)
 (k:∀b o,b∉fp→s.heap.get? b=some o→g.get? b=some o):Inv X pins σ H {s with heap:=g,toks:=tk}:=by
 have nfp:∀b u,H b=some u→b∉fp:=fun b u e z=>by rw[(hf b z).1]at e;cases e
 refine I.step (g':=s.gens) (d':=s.drawn) (ch:=fp) (fun b hb=>?_) (fun b o _ _ hc e _=>k b o hc e) (fun b o _ _ hc e _=>⟨o.slots,k b o hc e⟩) (fun b o _ e n=>n) (fun b o hc e=>⟨o,k b o hc e⟩)
  (fun b ys e=>e) (fun b o u e=>e) (fun b ps e=>⟨#[],by rw[e];simp⟩) (fun m hm=>?_) (fun b u e=>?_) I.bare
 · obtain⟨f0,f1,f2,f3,f4,f5⟩:=hf b hb
   exact⟨f3,f1,f4,f5⟩
 · obtain⟨o,es,ep,ho,r⟩:=hm
   exact⟨o,es,ep,k _ o (fun z=>(hf _ z).2.1 rfl) ho,r⟩
 · refine(I.aN b u e).oN (fun c v hc q=>k c v ?_ q) (fun c q=>q) fun c ys q=>q
   rcases hc with z|z
   · rw[z];exact nfp b u e
   · exact nfp c _ z
inductive SK where
 |l|t
noncomputable def pw(k:SK)(K:PySem.W.Frag)(H:Hp)(a:Addr)(xs:List V):Prop:=match k with
 | .l=>lE K H a xs
 | .t=>ib K H a xs
noncomputable def qo(k:SK)(t a:Addr)(n:Nat)(g:Heap):Prop:=match k with
 | .l=>g.IsListIter t a n
 | .t=>g.IsTupleIter t a n
noncomputable def kg(k:SK)(g:Heap)(a:Addr)(us:Array Value):Prop:=match k with
 | .l=>g.IsList a us
 | .t=>g.IsTuple a us
noncomputable def y8(k:SK)(a:Addr):Obj:=match k with
 | .l=>{cls:= .type "list_iterator",data:= .fields #[.ref a,.int 0 0]}
 | .t=>{cls:= .type "tuple_iterator",data:= .fields #[.ref a,.int 0 0]}
theorem mH{P:Program}{w:World}(k:SK)(t a:Addr)(hne:a≠t)(us:Array Value):Src P w t a (fun n g=>qo k t a n g∧kg k g a us) us:=by
 cases k
 · exact src_list t a hne us
 · exact Iz t a hne us
theorem jQ{X:Cx}{pins:List (Addr×Obj)}{σ:L2.St}{H:Hp}{s:Shared}{k:SK}{a:Addr}{xs:List V}(I:Inv X pins σ H s)(h:pw k X.K H a xs):∃its:List Value,Vals xs its∧kg k s.heap a its.toArray:=by
 cases k
 · obtain⟨its,rv,p,_⟩:=I.list h
   exact⟨its,rv,p.isList⟩
 · obtain⟨its,rv,p,_⟩:=I.tuple h
   exact⟨its,rv,p⟩
theorem vB{X:Cx}{pins:List (Addr×Obj)}{σ:L2.St}{H:Hp}{s:Shared}{k:SK}{a:Addr}{xs ys:List V}(I:Inv X pins σ H s)(h:pw k X.K H a xs)(h':pw k X.K H a ys):xs=ys:=by
 cases k
 · exact I.yh h h'
 · exact I.wO h h'
theorem C8{P:Program}{w:World}{A:Around}{s:Shared}{E:Value→Shared→Prop}{k:SK}{a:Addr}{us:Array Value}{Q:Value→Shared→Prop}(h:kg k s.heap a us)(q:Q (.ref s.heap.objs.size) {s with heap:=s.heap.push (y8 k a)}):wpAny (model P w) A (pyIter (.ref a)) Q E s:=by
 cases k
 · exact wpAny_pyIter_list h q
 · exact wpAny_pyIter_tuple h q
theorem kg.push{k:SK}{g:Heap}{a:Addr}{us:Array Value}(h:kg k g a us)(o:Obj):kg k (g.push o) a us:=by
 cases k
 · obtain⟨o',e,r⟩:=h;exact⟨o',Heap.get?_push_of_some _ e,r⟩
 · obtain⟨o',e,r⟩:=h;exact⟨o',Heap.get?_push_of_some _ e,r⟩
theorem kg.some{k:SK}{g:Heap}{a:Addr}{us:Array Value}(h:kg k g a us):∃o,g.get? a=Option.some o:=by
 cases k
 · obtain⟨o',e,r⟩:=h;exact⟨o',e⟩
 · obtain⟨o',e,r⟩:=h;exact⟨o',e⟩
theorem AI{k:SK}{g h:Heap}{t a:Addr}(e:g.get? t=Option.some (y8 k a)):qo k t a 0 g:=by
 cases k
 · exact⟨_,e,rfl,rfl⟩
 · exact⟨_,e,rfl,rfl⟩
theorem o5{k:SK}{t a:Addr}{n:Nat}{g g':Heap}(h:qo k t a n g)(kp:∀o,g.get? t=Option.some o→g'.get? t=Option.some o):qo k t a n g':=by
 cases k
 · obtain⟨o,e,r⟩:=h;exact⟨o,kp o e,r⟩
 · obtain⟨o,e,r⟩:=h;exact⟨o,kp o e,r⟩
theorem mQ{k:SK}{t a:Addr}{n:Nat}{g:Heap}(h:qo k t a n g):∃o,g.get? t=Option.some o∧∀v,o.data≠ .cell v:=by
 cases k
 · obtain⟨o,e,c,d⟩:=h;exact⟨o,e,fun v z=>by rw[d]at z;cases z⟩
 · obtain⟨o,e,c,d⟩:=h;exact⟨o,e,fun v z=>by rw[d]at z;cases z⟩
noncomputable def Nv(K:PySem.W.Frag)(k1 k2:SK)(a1 a2:Addr):It:=
 ⟨fun i H=>∃xs ys x y,pw k1 K H a1 xs∧pw k2 K H a2 ys∧xs[i]?=some x∧ys[i]?=some y,
  fun i H v H'=>∃T x y,H T=none∧v= .ref T∧H'=upd H T (.tup [x,y])∧(∀xs,pw k1 K H a1 xs→xs[i]?=some x)∧∀ys,pw k2 K H a2 ys→ys[i]?=some y,
  fun i H=>∃xs ys,pw k1 K H a1 xs∧pw k2 K H a2 ys∧(xs.length≤i∨ys.length≤i)⟩
noncomputable def M3(z ti to t1 t2 a1 a2:Addr)(k1 k2:SK)(i:Nat)(h:Heap):Prop:=IsZip h z ti to .none∧IsPair h ti (.ref t1) (.ref t2)∧(∃a b,IsPair h to a b)∧qo k1 t1 a1 i h∧qo k2 t2 a2 i h
theorem EY{P:Program}{w:World}{K:PySem.W.Frag}{elts:List Expr}{kx:Nat}{pos:Pos}{z ti to t1 t2 a1 a2:Addr}(k1 k2:SK)(D:Ax z ti to t1 t2 a1 a2):
 Turn P w K (.Tuple elts kx pos) (Nv K k1 k2 a1 a2) [z,ti,to,t1,t2] z (M3 z ti to t1 t2 a1 a2 k1 k2) where
 mem:=by simp
 obj:=fun i h st b hb=>by
  obtain⟨Z,pI,⟨a,b',pO⟩,i1,i2⟩:=st
  simp only[List.mem_cons,List.not_mem_nil,or_false]at hb
  rcases hb with rfl|rfl|rfl|rfl|rfl
  · exact⟨_,Z,fun v e=>by cases e⟩
  · exact⟨_,pI,fun v e=>by cases e⟩
  · exact⟨_,pO,fun v e=>by cases e⟩
  · exact mQ i1
  · exact mQ i2
 keep:=fun i h h' st k=>by
  obtain⟨Z,pI,⟨a,b',pO⟩,i1,i2⟩:=st
  exact⟨k z (by simp) _ Z,k ti (by simp) _ pI,⟨a,b',k to (by simp) _ pO⟩,o5 i1 (k t1 (by simp)),o5 i2 (k t2 (by simp))⟩
 item:=by
  intro X hP hw hK hc i pins s σ H E I hf st hg
  subst hP hw hK
  obtain⟨Z,pI,⟨a,b',pO⟩,i1,i2⟩:=st
  obtain⟨xs,ys,x,y,q1,q2,ex,ey⟩:=hg
  obtain⟨us,r1,l1⟩:=jQ I q1
  obtain⟨vs,r2,l2⟩:=jQ I q2
  obtain⟨u,eu,ru⟩:=r1.get ex
  obtain⟨v,ev,rv⟩:=r2.get ey
  have m1:=D.a1
  have m2:=D.a2
  simp only[List.mem_cons,not_or,List.not_mem_nil,not_false_eq_true,and_true]at m1 m2
  obtain⟨⟨n1,n2,n3,n4⟩,⟨n5,n6,n7⟩,⟨n8,n9⟩,n10⟩:=D.n
  have tz:s.TypeIs (.ref z) "zip":=⟨_,Z,rfl⟩
  unfold pyNext
  refine wpAny_bind (wpAny_attempt (wpAny_callSpecial?_slot (name:=Str.ofString "__next__") tz F.slot_zip_next (wpAny_call_entry F.slot_zip_next tz F.entry_zip_next (Dy D (mH k1 t1 a1 m1.2.2.2.1 us.toArray) (mH k2 t2 a2 m2.2.2.2.2 vs.toArray) Z pI pO ⟨i1,l1⟩ ⟨i2,l2⟩ (x:=u) (y:=v) (by simpa using eu) (by simpa using ev) fun k Z2 pO2 j1 j2 pT szk kp=>wpAny_pure ⟨_,rfl,?_⟩) (F.args_zip_next_1 _))))
  refine wpAny_letOwnedTupleGo_zip (s:={s with heap:=k}) Z2 fun k' Z3 b3=>?_
  have hT:s.heap.objs.size≠z:=Nat.ne_of_gt (Heap.lt_size Z)
  have kp3:∀b o,b∉[z,ti,to,t1,t2]→s.heap.get? b=some o→k'.get? b=some o:=fun b o hb e=>by
   simp only[List.mem_cons,not_or,List.not_mem_nil,not_false_eq_true,and_true]at hb
   exact b3.extBut _ _ hb.1 (kp b o hb.1 hb.2.2.1 hb.2.2.2.1 hb.2.2.2.2 e)
  refine⟨.ref s.heap.objs.size,upd H s.heap.objs.size (.tup [x,y]),GQ (s:=s) (tk:=s.toks) I hf kp3 (Nat.le_refl _) ?_,rfl,⟨s.heap.objs.size,x,y,I.aN.fresh (Nat.le_refl _),rfl,rfl,?_,?_⟩,?_,?_⟩
  · refine⟨Nat.le_of_ble_eq_true rfl,[u,v],.cons ru (.cons rv .nil),?_⟩
    exact⟨_,b3.extBut _ _ hT pT,rfl,_,rfl⟩
  · intro xs' q'
    rw[vB I q' q1];exact ex
  · intro ys' q'
    rw[vB I q' q2];exact ey
  · refine⟨Z3,b3.extBut _ _ n1 (kp _ _ n1 n5 n6 n7 pI),⟨_,_,b3.extBut _ _ n2 pO2⟩,o5 j1.1 fun o e=>b3.extBut _ _ n3 e,o5 j2.1 fun o e=>b3.extBut _ _ n4 e⟩
  · intro b hb
    have:b≠s.heap.objs.size:=by
     obtain⟨o,e,_⟩:∃o,s.heap.get? b=some o∧True:=by
      simp only[List.mem_cons,List.not_mem_nil,or_false]at hb
      rcases hb with rfl|rfl|rfl|rfl|rfl
      · exact⟨_,Z,trivial⟩
      · exact⟨_,pI,trivial⟩
      · exact⟨_,pO,trivial⟩
      · obtain⟨o,e,_⟩:=mQ i1;exact⟨o,e,trivial⟩
      · obtain⟨o,e,_⟩:=mQ i2;exact⟨o,e,trivial⟩
     exact Nat.ne_of_lt (Heap.lt_size e)
    rw[az this]
    exact(hf b hb).1
 done:=by
  intro X hP hw hK hc i pins s σ H E I hf st hg
  subst hP hw hK
  obtain⟨Z,pI,⟨a,b',pO⟩,i1,i2⟩:=st
  obtain⟨xs,ys,q1,q2,he⟩:=hg
  obtain⟨us,r1,l1⟩:=jQ I q1
  obtain⟨vs,r2,l2⟩:=jQ I q2
  have e1:=r1.length
  have e2:=r2.length
  have m1:=D.a1
  have m2:=D.a2
  simp only[List.mem_cons,not_or,List.not_mem_nil,not_false_eq_true,and_true]at m1 m2
  have tz:s.TypeIs (.ref z) "zip":=⟨_,Z,rfl⟩
  unfold pyNext
  refine wpAny_bind (wpAny_attempt (wpAny_callSpecial?_slot (name:=Str.ofString "__next__") tz F.slot_zip_next (wpAny_call_entry F.slot_zip_next tz F.entry_zip_next (Fy (I.ok.hd hc) D (mH k1 t1 a1 m1.2.2.2.1 us.toArray) (mH k2 t2 a2 m2.2.2.2.2 vs.toArray) Z pI pO ⟨i1,l1⟩ ⟨i2,l2⟩ ?_ fun k e kp hx=>?_) (F.args_zip_next_1 _))))
  · rcases he with h|h
    · left;simp;omega
    · right;simp;omega
  · obtain⟨o,ho,hc2⟩:=hx
    refine wpAny_bind (wpAny_isInstance (T:="StopIteration") (b:=true) ⟨o,ho,hc2⟩ isSubtype_stop ?_)
    refine wpAny_pure ⟨rfl,Gk (s:=s) (tk:=s.toks) I hf fun b o hb e=>?_⟩
    simp only[List.mem_cons,not_or,List.not_mem_nil,not_false_eq_true,and_true]at hb
    exact kp b o hb.1 hb.2.2.1 hb.2.2.2.1 hb.2.2.2.2 e
 self:=fun _ _ _ _ _ st h=>wpAny_pyIter_zip st.1 h
end L3
namespace L3
open PySem L2
open PySem.Spec hiding items?
open PyProof.Rows hiding St
noncomputable abbrev FR(h:Heap)(k1:SK)(a1:Addr):Heap:=h.push (y8 k1 a1)
noncomputable abbrev F5(h:Heap)(k1 k2:SK)(a1 a2:Addr):Heap:=(FR h k1 a1).push (y8 k2 a2)
noncomputable abbrev GI(h:Heap)(k1 k2:SK)(a1 a2:Addr):Heap:=(F5 h k1 k2 a1 a2).push {cls:= .type "tuple",data:= .seq #[.ref h.objs.size,.ref (FR h k1 a1).objs.size]}
noncomputable abbrev GF(h:Heap)(k1 k2:SK)(a1 a2:Addr):Heap:=(GI h k1 k2 a1 a2).push {cls:= .type "tuple",data:= .seq #[.none,.none]}
noncomputable abbrev Ad(h:Heap)(k1 k2:SK)(a1 a2:Addr):Heap:=(GF h k1 k2 a1 a2).push {cls:= .type "zip",data:= .fields #[.none,.bool false,.bool false,.ref (F5 h k1 k2 a1 a2).objs.size,.ref (GI h k1 k2 a1 a2).objs.size]}
theorem DW(k1 k2:SK)(a1 a2:Addr)(us vs:Array Value):Meets (Builtin.«zip.__new__» ⟨[.type "zip",.ref a1,.ref a2],[]⟩) (fun _ R s=>kg k1 s.heap a1 us∧kg k2 s.heap a2 vs∧
 R (.ok (.ret (.ref (GF s.heap k1 k2 a1 a2).objs.size))) {s with heap:=Ad s.heap k1 k2 a1 a2}):=
 .of_wp fun P w A R s h=>by
  obtain⟨hp,g,d,tk,os⟩:=s
  obtain⟨c1,c2,h⟩:=h
  have hsub:=sub_zip
  have L1:kg k1 (Shared.heap ⟨hp,g,d,tk,os⟩) a1 us:=c1
  have L2:kg k2 (Shared.heap ⟨hp.push (y8 k1 a1),g,d,tk,os⟩) a2 vs:=kg.push c2 _
  wp_walk using C8 L1,C8 L2
  exact⟨_,rfl,h⟩
theorem E8{P:Program}{w:World}{A:Around}{s:Shared}{E:Value→Shared→Prop}{k1 k2:SK}{a1 a2:Addr}{us vs:Array Value}{Q:Value→Shared→Prop}(c1:kg k1 s.heap a1 us)(c2:kg k2 s.heap a2 vs)
 (q:∀g n,n=s.heap.objs.size→IsZip g (n+4) (n+2) (n+3) .none→IsPair g (n+2) (.ref n) (.ref (n+1))→IsPair g (n+3) .none .none→qo k1 n a1 0 g→qo k2 (n+1) a2 0 g→(∀c o,s.heap.get? c=some o→g.get? c=some o)→Q (.ref (n+4)) {s with heap:=g}):
 wpAny (model P w) A (call (.type "zip") [.ref a1,.ref a2]) Q E s:=by
 refine callType_new F.called_zip (by decide) (F.typeCall_zip_2 _ _) (F.newCall_zip_2 _ _) (fun ob=>F.args_object_init_3 ob _ _) F.entry_zip_new (DW k1 k2 a1 a2 us vs) ⟨c1,c2,?_⟩
 have y1:(FR s.heap k1 a1).objs.size=s.heap.objs.size+1:=Heap.size_push ..
 have y2:(F5 s.heap k1 k2 a1 a2).objs.size=s.heap.objs.size+2:=by rw[Heap.size_push,y1]
 have y3:(GI s.heap k1 k2 a1 a2).objs.size=s.heap.objs.size+3:=by rw[Heap.size_push,y2]
 have y4:(GF s.heap k1 k2 a1 a2).objs.size=s.heap.objs.size+4:=by rw[Heap.size_push,y3]
 have e5:(Ad s.heap k1 k2 a1 a2).get? (GF s.heap k1 k2 a1 a2).objs.size=some _:=Heap.get?_push_size _ rfl
 have e4:(Ad s.heap k1 k2 a1 a2).get? (GI s.heap k1 k2 a1 a2).objs.size=some _:=Heap.get?_push_of_some _ (Heap.get?_push_size _ rfl)
 have e3:(Ad s.heap k1 k2 a1 a2).get? (F5 s.heap k1 k2 a1 a2).objs.size=some _:=Heap.get?_push_of_some _ (Heap.get?_push_of_some _ (Heap.get?_push_size _ rfl))
 have e2:(Ad s.heap k1 k2 a1 a2).get? (FR s.heap k1 a1).objs.size=some (y8 k2 a2):=Heap.get?_push_of_some _ (Heap.get?_push_of_some _ (Heap.get?_push_of_some _ (Heap.get?_push_size _ (by cases k2<;>rfl))))
 have e1:(Ad s.heap k1 k2 a1 a2).get? s.heap.objs.size=some (y8 k1 a1):=Heap.get?_push_of_some _ (Heap.get?_push_of_some _ (Heap.get?_push_of_some _ (Heap.get?_push_of_some _ (Heap.get?_push_size _ (by cases k1<;>rfl)))))
 show _∧_
 rw[y2,y3,y4]at e5
 rw[y1,y2]at e3
 rw[y3]at e4
 rw[y1]at e2
 rw[y4]
 exact⟨⟨_,e5,rfl⟩,q _ _ rfl e5 e3 e4 (AI (h:=s.heap) e1) (AI (h:=s.heap) e2) fun c o x=>Heap.get?_push_of_some _ (Heap.get?_push_of_some _ (Heap.get?_push_of_some _ (Heap.get?_push_of_some _ (Heap.get?_push_of_some _ x))))⟩
noncomputable def Gj:D→SK
 | .tup _=> .t
 |_=> .l
noncomputable def CJ(k:SK)(G:Hp)(a:Addr)(vs:List V):Prop:=match k with
 | .l=>Rd G a (.lst vs)
 | .t=>G a=some (.tup vs)
theorem jf{K:PySem.W.Frag}{k:SK}{G F H:Hp}(P:b_ G F H){a:Addr}{vs:List V}(h:CJ k G a vs):pw k K H a vs:=by
 cases k
 · exact .inl (gh P h)
 · exact ib.of (P.get h)
theorem mV{α:List (Option Addr)}{H:Hp}{st:ag}{d:D}{v:V}{xs:List D}(S:aS α st H)(r:Rep α H d v)(e:items? st d=some xs):∃p vs,v= .ref p∧aL α H xs vs∧CJ (Gj d) H p vs:=by
 cases d<;>try(cases e;done)
 · unfold items? at e
   simp only at e
   split at e
   · rename_i ys q
     cases e
     obtain⟨a,ea,vs,h1,h2⟩:=S.jh q
     exact⟨a,vs,dQ ea r,h2,Rd.of h1⟩
   · cases e
 · cases e
   unfold Rep at r
   obtain⟨a,vs,rfl,_,h1,h2⟩:=r
   exact⟨a,vs,rfl,h2,h1⟩
 · cases e
   unfold Rep at r
   obtain⟨a,vs,rfl,_,h1,h2⟩:=r
   exact⟨a,vs,rfl,h2,h1⟩
noncomputable def iE(xs ys:List D):List D:=(xs.zip ys).map fun p=> .tup [p.1,p.2]
theorem xY{xs ys:List D}:(iE xs ys).length=min xs.length ys.length:=by unfold iE;simp
theorem t_{xs ys:List D}{n:Nat}{d:D}(e:(iE xs ys)[n]?=some d):∃x y,xs[n]?=some x∧ys[n]?=some y∧d= .tup [x,y]:=by
 unfold iE at e
 rw[List.getElem?_map]at e
 cases q:(xs.zip ys)[n]? with
 |none=>rw[q]at e;cases e
 |some p=>
  rw[q]at e
  cases e
  rw[List.getElem?_zip_eq_some]at q
  exact⟨p.1,p.2,q.1,q.2,rfl⟩
theorem KL{K:PySem.W.Frag}{k1 k2:SK}{a1 a2:Addr}{α:List (Option Addr)}{G:Hp}{ok:ag→Prop}{xs ys:List D}
 (h:∀α' G' st',Step α G α' G'→aS α' st' G'→ok st'→∃vs ws,CJ k1 G' a1 vs∧CJ k2 G' a2 ws∧aL α' G' xs vs∧aL α' G' ys ws):tO (Nv K k1 k2 a1 a2) α G ok (iE xs ys) where
 stop:=fun n α' G' F' H' st' s P S o hn=>by
  obtain⟨vs,ws,h1,h2,r1,r2⟩:=h α' G' st' s S o
  rw[xY]at hn
  refine⟨vs,ws,jf P h1,jf P h2,?_⟩
  have:=r1.length
  have:=r2.length
  omega
 go:=fun n d α' G' F' H' st' s P S o hn=>by
  obtain⟨vs,ws,h1,h2,r1,r2⟩:=h α' G' st' s S o
  obtain⟨x,y,ex,ey,rfl⟩:=t_ hn
  obtain⟨v,ev,_⟩:=r1.get ex
  obtain⟨u,eu,_⟩:=r2.get ey
  exact⟨vs,ws,v,u,jf P h1,jf P h2,ev,eu⟩
 og:=fun n d α' G' F' H' st' x H'' s P S o hn y=>by
  obtain⟨vs,ws,h1,h2,r1,r2⟩:=h α' G' st' s S o
  obtain⟨c,e,ec,ee,rfl⟩:=t_ hn
  obtain⟨T,v,u,hT,rfl,rfl,y1,y2⟩:=y
  obtain⟨v',ev,rv⟩:=r1.get ec
  obtain⟨u',eu,ru⟩:=r2.get ee
  rw[y1 vs (jf P h1)]at ev
  rw[y2 ws (jf P h2)]at eu
  cases ev
  cases eu
  have hg:=(P.none hT).1
  refine⟨upd G' T (.tup [v,u]),Step.laid hg,P.laid hT,S.laid hg,?_⟩
  unfold Rep
  refine⟨T,[v,u],rfl,S.jM hg,aZ,?_⟩
  unfold aL
  refine⟨v,[u],rfl,rv.step (Step.laid hg),?_⟩
  unfold aL
  exact⟨u,[],rfl,ru.step (Step.laid hg),by unfold aL;rfl⟩
noncomputable def EE(ds:List D)(st1:ag)(K:List D→(ag→Prop)→ag→Prop):Prop:=match ds with
 | [x,y]=>(match items? st1 x,items? st1 y with
   |some xs,some ys=>K (iE xs ys) (fun st'=>items? st' x=some xs∧items? st' y=some ys) st1
   |_,_=>False)
 |_=>False
@[irreducible] noncomputable def uR:List D→ag→(List D→(ag→Prop)→ag→Prop)→Prop:=EE
noncomputable def vQ(t:DA):DI:=fun σ st K=>t σ st fun ds st1=>uR ds st1 K
theorem IJ{n a1 a2:Nat}(h1:a1<n)(h2:a2<n):Ax (n+4) (n+2) (n+3) n (n+1) a1 a2:=by
 have e0:([n+4,n+2,n+3,n,n+1]:List Nat).Nodup:=by
  simp only[List.nodup_cons,List.mem_cons,not_or,List.not_mem_nil,not_false_eq_true,and_true,List.nodup_nil]
  omega
 have e1:∀a:Nat,a<n→a∉([n+4,n+2,n+3,n,n+1]:List Nat):=fun a ha=>by
  simp only[List.mem_cons,not_or,List.not_mem_nil,not_false_eq_true,and_true]
  omega
 exact⟨e0,e1 a1 h1,e1 a2 h2⟩
theorem IX{X:Cx}{a b:Expr}{elts:List Expr}{kx:Nat}{tpos p pos:Pos}{t:DA}(hg:Gl X "zip")(hm:X.mg "zip"=none)(ha:PA X [a,b] (LA t))(hs:starEach [a,b] X.env=[(false,eval a X.env),(false,eval b X.env)])(hs2:starEach [b] X.env=[(false,eval b X.env)]):
 PI X (.Tuple elts kx tpos) (.Call (.Name "zip" p) [a,b] [] pos) (LI (vQ t)):=by
 intro pins s σ H R I h
 obtain⟨α,σd,st,K,G,F,P,RS,S,t,k⟩:=h
 refine Call_ (jT I hg hm boot_zip (PyProof.Rows.callWith_type1 (bR (ha pos pins s σ H (fun vs H1=>∃ds α1 G1 st1,Step α G α1 G1∧b_ G1 F H1∧aS α1 st1 G1∧aL α1 G1 ds vs∧uR ds st1 K) I ⟨α,σd,st,_,G,F,P,RS,S,t,fun ds st1 q α1 G1 H1 vs s1 P1 S1 r1=>⟨ds,α1,G1,st1,s1,P1,S1,r1,q⟩⟩) fun us s1 ⟨vs,H1,I1,rv,ds,α1,G1,st1,w1,P1,S1,r1,q⟩=>?_) (by rw[hs,hs2]) (by rw[hs2];rfl)))
 unfold uR EE at q
 split at q
 · rename_i x y
   split at q
   · rename_i xs ys ex ey
     obtain⟨v1,v2,rfl,q1,q2⟩:=oq r1 rfl
     obtain⟨p1,vs1,rfl,g1,c1⟩:=mV S1 q1 ex
     obtain⟨p2,vs2,rfl,g2,c2⟩:=mV S1 q2 ey
     obtain⟨u1,u2,rfl,ru1,ru2⟩:=vals2 rv
     cases ru1
     cases ru2
     obtain⟨its1,_,l1⟩:=jQ I1 (jf P1 c1)
     obtain⟨its2,_,l2⟩:=jQ I1 (jf P1 c2)
     refine E8 l1 l2 fun g n hn Z pI pO i1 i2 kp=>?_
     obtain⟨o1,eo1⟩:=l1.some
     obtain⟨o2,eo2⟩:=l2.some
     refine wpAny_pyIter_zip (s:={s1 with heap:=g}) Z ?_
     refine⟨n+4,[n+4,n+2,n+3,n,n+1],_,_,H1,rfl,I1.kept (t':=s1.toks) kp,EY (Gj x) (Gj y) (IJ (by rw[hn];exact Heap.lt_size eo1) (by rw[hn];exact Heap.lt_size eo2)),⟨Z,pI,⟨_,_,pO⟩,i1,i2⟩,fun b hb=>?_,?_⟩
     · have hb':s1.heap.objs.size≤b:=by
        simp only[List.mem_cons,List.not_mem_nil,or_false]at hb
        rcases hb with rfl|rfl|rfl|rfl|rfl<;>(rw[←hn];first|exact Nat.le_refl _|exact Nat.le_add_right _ _)
       exact I1.t6 hb' (I1.aN.fresh hb')
     · refine k _ _ st1 q _ α1 G1 H1 w1 P1 S1 (KL fun α' G' st' s' S' o=>?_)
       obtain⟨p1',ws1,e1,f1,d1⟩:=mV S' (q1.step s') o.1
       obtain⟨p2',ws2,e2,f2,d2⟩:=mV S' (q2.step s') o.2
       cases e1
       cases e2
       exact⟨ws1,ws2,d1,d2,f1,f2⟩
   · exact q.elim
 · exact q.elim
theorem yO{st:ag}{x y:D}{xs ys:List D}{K:List D→(ag→Prop)→ag→Prop}(ex:items? st x=some xs)(ey:items? st y=some ys)(k:∀ok:ag→Prop,(∀st',items? st' x=some xs→items? st' y=some ys→ok st')→K (iE xs ys) ok st):uR [x,y] st K:=by
 unfold uR EE
 simp only[ex,ey]
 exact k _ fun st' h1 h2=>⟨h1,h2⟩
theorem xC{X:Cx}{a b:Expr}{elts:List Expr}{kx:Nat}{tpos p pos:Pos}{ar:DA}(hg:Gl X "zip")(hm:X.mg "zip"=none)(ha:JA X [a,b] ar)(hs:notStar a=true:=by rfl)(hs2:notStar b=true:=by rfl):JI X (.Tuple elts kx tpos) (.Call (.Name "zip" p) [a,b] [] pos) (vQ ar):=by
 unfold JI;unfold JA at ha;exact IX hg hm ha (by rw[cC hs,cC hs2];rfl) (cC hs2)
end L3
namespace L3
open PySem L2
open PySem.Spec hiding items?
open PyProof.Rows hiding St
theorem yK(f:Nat→Int):∀n,preSum f (n+1)=f 0+preSum (fun i=>f (i+1)) n
 |0=>by show preSum f 0+f 0=f 0+0;show(0:Int)+f 0=f 0+0;omega
 |n+1=>by
  have h:=yK f n
  show preSum f (n+1)+f (n+1)=f 0+(preSum (fun i=>f (i+1)) n+f (n+1))
  rw[h];omega
theorem Ak:∀ns:List Int,preSum (fun i=>ns.getD i 0) ns.length=ns.sum
 | []=>rfl
 |n::ns=>by
  rw[List.length_cons,yK]
  have:(fun i=>(n::ns).getD (i+1) 0)=fun i=>ns.getD i 0:=by funext i;simp
  rw[this,Ak ns,List.sum_cons]
  rfl
section
variable {X:Cx}
noncomputable def xw:eR:=fun ds st K=>match ds with| [.lst xs]=>(match kX xs with|some ns=>K (.int ns.sum) st|none=>False)|_=>False
theorem lD:∀ {ns:List Int} {us:List Value},Vals (ns.map V.int) us→∀(i:Nat) (u:Value),us[i]?=some u→∃t,u=Value.int (ns.getD i 0) t
 | [],_,.nil,i,u,e=>by simp at e
 |n::ns,_,.cons h t,0,u,e=>by
  obtain⟨tk,rfl⟩:=h
  simp at e
  exact⟨tk,by rw[←e];rfl⟩
 |n::ns,_,.cons h t,i+1,u,e=>by
  obtain⟨tk,q⟩:=lD t i u (by simpa using e)
  exact⟨tk,by rw[q];simp⟩
theorem Ml(hc:X.calm=true):bD X (.builtin "sum") (fA xw):=fun pins s σ H xs us Q I rs ⟨α,ds,st,K,G,F',P,r,S,q,k⟩=>by
 unfold xw at q
 split at q
 · rename_i ys
   split at q
   · rename_i ns e
     obtain⟨v,rfl,r1⟩:=gN r rfl
     unfold Rep at r1
     obtain⟨a,vs,rfl,na,h1,h2⟩:=r1
     obtain⟨u,rfl,ru⟩:=vals1 rs
     cases ru
     have hv:=rp h2 e
     subst hv
     obtain⟨z,its,n,rv,hl,eo⟩:=Inv.vk I (gh P h1)
     have isL:s.heap.IsList a its.toArray:=⟨_,eo,rfl,n,rfl⟩
     refine call_sum_walkAnyB (wpAny_pyIter_list isL ?_)
     have hne:a≠s.heap.objs.size:=Nat.ne_of_lt (Heap.lt_size eo)
     refine⟨s.heap.objs.size,_,_,_,_,_,_,fun i=>ns.getD i 0,rfl,(Walks.list (A:=X.A.in1) (I.ok.hd hc) _ a hne its.toArray).toS,⟨⟨_,Heap.get?_push_size _ rfl,rfl,rfl⟩,⟨_,Heap.get?_push_of_some _ eo,rfl,n,rfl⟩⟩,?_,?_,?_⟩
     · intro b hb
       rw[Heap.size_push]
       simp only[List.mem_cons,List.not_mem_nil,or_false]at hb
       rcases hb with rfl|rfl
       · exact Nat.lt_succ_self _
       · exact Nat.lt_succ_of_lt (Heap.lt_size eo)
     · intro i w hw
       obtain⟨t,e⟩:=lD rv i w (by simpa using hw)
       exact .inl ⟨t,e⟩
     · intro s' t' hm
       have kp:∀b o,s.heap.get? b=some o→s'.heap.get? b=some o:=fun b o q=>hm.heap b o (by
        intro hb
        have:b=s.heap.objs.size:=by simpa using hb
        exact absurd (Heap.lt_size q) (by rw[this];exact Nat.lt_irrefl _)) (Heap.get?_push_of_some _ q)
       have es:s'= {s with heap:=s'.heap,toks:=s'.toks}:=by
        have g:=hm.gens
        have d:=hm.drawn
        have o:=hm.os
        cases s'
        cases s
        simp_all
       have en:preSum (fun i=>ns.getD i 0) its.toArray.size=ns.sum:=by
        have:its.toArray.size=ns.length:=by rw[List.size_toArray,←hl,List.length_map]
        rw[this];exact Ak ns
       rw[en,es]
       exact⟨.int ns.sum,H,I.kept (t':=s'.toks) kp,⟨t',rfl⟩,k.here P q S (by unfold Rep;rfl)⟩
   · exact q.elim
 · exact q.elim
@[irreducible] noncomputable def tR:eR:=xw
theorem GB(hc:X.calm=true):bD X (.builtin "sum") (fA tR):=by unfold tR;exact Ml hc
end
theorem ints_map:∀ns:List Int,kX (ns.map D.int)=some ns
 | []=>rfl
 |n::ns=>by simp[kX,ints_map ns]
theorem CU{st:ag}{K:DK}{xs:List D}{ns:List Int}(h:kX xs=some ns)(k:K (.int ns.sum) st):tR [.lst xs] st K:=by unfold tR xw;simp only[h];exact k
end L3
namespace L3
open PySem L2
open PySem.Spec hiding items?
open PyProof.Rows hiding St
section
variable {X:Cx}{pos:Pos}
theorem LF{α:List (Option Addr)}{H:Hp}{ds:List D}{xs:List V}{d e f:D}(r:aL α H ds xs)(q:ds=[d,e,f]):∃v u t,xs=[v,u,t]∧Rep α H d v∧Rep α H e u∧Rep α H f t:=by
 subst q
 unfold aL at r
 obtain⟨v,q,rfl,h1,h2⟩:=r
 obtain⟨u,t,rfl,h3,h4⟩:=oq h2 rfl
 exact⟨v,u,t,rfl,h1,h3,h4⟩
end
end L3
namespace L3
open PySem L2 PySem.SeqAt
open PySem.Spec hiding items?
open PyProof.Rows hiding St
section
variable {X:Cx}{pins:List (Addr×Obj)}{σ:L2.St}{H:Hp}{s:Shared}{α:List (Option Addr)}
theorem As{A:Around}{d e:D}{x y:V}{u v:Value}(hd:we d=true)(he:we e=true)(rd:Rep α H d x)(re:Rep α H e y)(rx:RelV x u)(ry:RelV y v):RcNeAt A s u v (!cH d e):=by
 cases d<;>cases e<;>try(first|(cases hd;done)|(cases he;done))
 all_goals(unfold Rep at rd re;subst rd re)
 all_goals(first|(obtain⟨t,rfl⟩:=rx;obtain⟨t',rfl⟩:=ry)|(obtain⟨t,rfl⟩:=rx;cases ry)|(cases rx;obtain⟨t,rfl⟩:=ry)|(cases rx;cases ry))
 all_goals unfold cH
 · exact RcNeAt.none_none
 · exact RcNeAt.none_bool _
 · exact RcNeAt.none_int _ _
 · exact RcNeAt.none_str _ _
 · exact RcNeAt.bool_none _
 · exact RcNeAt.bool_bool _ _
 · exact RcNeAt.bool_int _ _ _
 · exact RcNeAt.bool_str _ _ _
 · exact RcNeAt.int_none _ _
 · exact RcNeAt.int_bool _ _ _
 · exact RcNeAt.int_int _ _ _ _
 · exact RcNeAt.int_str _ _ _ _
 · exact RcNeAt.str_none _ _
 · exact RcNeAt.str_bool _ _ _
 · exact RcNeAt.str_int _ _ _ _
 · exact RcNeAt.str_str _ _ _ _
theorem wz(I:Inv X pins σ H s){A:Around}{xs:List D}{e:D}{x y:V}{u v:Value}(he:we e=true)(rd:Rep α H (.lst xs) x)(re:Rep α H e y)(rx:RelV x u)(ry:RelV y v)(hu:A.units<cLine):
 RcNeAt A s u v (!cH (.lst xs) e)∧RcNeAt A s v u (!cH e (.lst xs)):=by
 obtain⟨a,vs,its,rfl,_,_,hl⟩:=lst_is I rd rx
 cases e<;>try(cases he;done)
 all_goals(unfold Rep at re;subst re)
 all_goals(first|(obtain⟨t,rfl⟩:=ry)|(cases ry))
 all_goals unfold cH
 · exact⟨RcNeAt.list_none hl hu,RcNeAt.none_list hl hu⟩
 · exact⟨RcNeAt.list_bool _ hl hu,RcNeAt.bool_list _ hl hu⟩
 · exact⟨RcNeAt.list_int _ _ hl hu,RcNeAt.int_list _ _ hl hu⟩
 · exact⟨RcNeAt.list_str _ _ hl hu,RcNeAt.str_list _ _ hl hu⟩
theorem wx(I:Inv X pins σ H s){A:Around}{xs:List D}{e:D}{x y:V}{u v:Value}(he:we e=true)(rd:Rep α H (.tup xs) x)(re:Rep α H e y)(rx:RelV x u)(ry:RelV y v)(hu:A.units<cLine):
 RcNeAt A s u v (!cH (.tup xs) e)∧RcNeAt A s v u (!cH e (.tup xs)):=by
 obtain⟨a,vs,its,rfl,_,_,hl⟩:=tup_is I rd rx
 cases e<;>try(cases he;done)
 all_goals(unfold Rep at re;subst re)
 all_goals(first|(obtain⟨t,rfl⟩:=ry)|(cases ry))
 all_goals unfold cH
 · exact⟨RcNeAt.tuple_none hl hu,RcNeAt.none_tuple hl hu⟩
 · exact⟨RcNeAt.tuple_bool _ hl hu,RcNeAt.bool_tuple _ hl hu⟩
 · exact⟨RcNeAt.tuple_int _ _ hl hu,RcNeAt.int_tuple _ _ hl hu⟩
 · exact⟨RcNeAt.tuple_str _ _ hl hu,RcNeAt.str_tuple _ _ hl hu⟩
theorem M4(I:Inv X pins σ H s)(n:Nat)(A:Around)(d e:D)(x y:V)(u v:Value)(hd:pl n d=true)(he:pl n e=true)(rd:Rep α H d x)(re:Rep α H e y)(rx:RelV x u)(ry:RelV y v)(hu:A.units+n<cLine):RcNeAt A s u v (!cH d e):=by
 cases n with
 |zero=>
  refine As ?_ ?_ rd re rx ry
  · cases d<;>first|rfl|(cases hd)
  · cases e<;>first|rfl|(cases he)
 |succ n=>
  have hu0:A.units<cLine:=by omega
  have hin:A.in1.units+n<cLine:=by rw[Around.in1_units];omega
  cases d<;>try(cases hd;done)
  case lst xs=>
   cases e<;>try(cases he;done)
   case lst ys=>
    obtain⟨a,vs,its,rfl,r1,v1,l1⟩:=lst_is I rd rx
    obtain⟨b,ws,jts,rfl,r2,v2,l2⟩:=lst_is I re ry
    have e1:=r1.length
    have e2:=v1.length
    have e3:=r2.length
    have e4:=v2.length
    unfold cH
    by_cases hlen:xs.length=ys.length
    · rw[nD hlen]
      have hsz:its.toArray.size=jts.toArray.size:=by simp only[List.size_toArray];omega
      have hx:xs.length=its.toArray.size:=by simp only[List.size_toArray];omega
      rw[hx]
      refine RcNeAt.lists l1 l2 hsz hu0 fun j h1 h2=>?_
      obtain⟨p,_,q1,q2⟩:=jv r1 v1 j (by simpa using h1)
      obtain⟨p',_,q1',q2'⟩:=jv r2 v2 j (by simpa using h2)
      exact(Bz I n A.in1 _ _ p p' _ _ (ik (by unfold pl at hd;exact hd) j) (ik (by unfold pl at he;exact he) j) q1 q1' (by simpa using q2) (by simpa using q2') hin).2
    · rw[nB hlen]
      exact RcNeAt.lists_lengths l1 l2 (by simp only[List.size_toArray,bne_iff_ne,ne_eq];omega) hu0
   case tup ys=>
    obtain⟨a,vs,its,rfl,r1,v1,l1⟩:=lst_is I rd rx
    obtain⟨b,ws,jts,rfl,r2,v2,l2⟩:=tup_is I re ry
    unfold cH
    exact RcNeAt.list_tuple l1 l2 hu0
   all_goals exact(wz I rfl rd re rx ry hu0).1
  case tup xs=>
   cases e<;>try(cases he;done)
   case tup ys=>
    obtain⟨a,vs,its,rfl,r1,v1,l1⟩:=tup_is I rd rx
    obtain⟨b,ws,jts,rfl,r2,v2,l2⟩:=tup_is I re ry
    have e1:=r1.length
    have e2:=v1.length
    have e3:=r2.length
    have e4:=v2.length
    unfold cH
    have key:=RcNeAt.tuples (e:=fun j=>cH (xs.getD j .aK) (ys.getD j .aK)) l1 l2 hu0 fun j h1 h2=>by
     obtain⟨p,_,q1,q2⟩:=jv r1 v1 j (by simpa using h1)
     obtain⟨p',_,q1',q2'⟩:=jv r2 v2 j (by simpa using h2)
     exact(Bz I n A.in1 _ _ p p' _ _ (ik (by unfold pl at hd;exact hd) j) (ik (by unfold pl at he;exact he) j) q1 q1' (by simpa using q2) (by simpa using q2') hin).2
    by_cases hlen:xs.length=ys.length
    · rw[nD hlen]
      have hsz:its.toArray.size=jts.toArray.size:=by simp only[List.size_toArray];omega
      have hx:xs.length=its.toArray.size:=by simp only[List.size_toArray];omega
      rw[hsz,Nat.min_self,beq_self_eq_true,Bool.and_true,←hsz,←hx]at key
      exact key
    · rw[nB hlen]
      have hne:(its.toArray.size==jts.toArray.size)=false:=by simp only[List.size_toArray,beq_eq_false_iff_ne,ne_eq];omega
      rw[hne,Bool.and_false]at key
      exact key
   case lst ys=>
    obtain⟨a,vs,its,rfl,r1,v1,l1⟩:=tup_is I rd rx
    obtain⟨b,ws,jts,rfl,r2,v2,l2⟩:=lst_is I re ry
    unfold cH
    exact RcNeAt.tuple_list l1 l2 hu0
   all_goals exact(wx I rfl rd re rx ry hu0).1
  all_goals
   cases e<;>try(cases he;done)
   case lst ys=>exact(wz I rfl re rd ry rx hu0).2
   case tup ys=>exact(wx I rfl re rd ry rx hu0).2
   all_goals exact As rfl rfl rd re rx ry
noncomputable def Jr:cT:=fun x y st K=>pl 40 x=true∧pl 40 y=true∧K (.bl (!cH x y)) st
theorem Ms{k:Nat}(hr:cO k X.A):bL X (compareOp .NotEq) (LR Jr):=fun pins s σ H x y v u Q I rx ry ⟨α,d,e,st,K,G,F',P,r1,r2,S,q,k⟩=>by
 have hu:=hr.units
 exact M4 I 40 X.A d e x y v u q.1 q.2.1 (r1.mono P.same) (r2.mono P.same) rx ry (by omega) _ _ _ _ ⟨.bl (!cH d e),H,I,rfl,k.here P q.2.2 S (by unfold Rep;rfl)⟩
@[irreducible] noncomputable def nJ:cT:=Jr
theorem rT{k:Nat}(hr:cO k X.A):bL X (compareOp .NotEq) (LR nJ):=by unfold nJ;exact Ms hr
end
theorem Ct{st:ag}{K:DK}{d e:D}(h1:pl 40 d=true)(h2:pl 40 e=true)(k:K (.bl (!cH d e)) st):nJ d e st K:=by unfold nJ;exact⟨h1,h2,k⟩
theorem nt{st:ag}{K:DK}{d:D}(h:pl 40 d=true)(k:K (.bl false) st):nJ d d st K:=Ct h h (by rw[nv 40 d h];exact k)
theorem Dw{st:ag}{n:Nat}{xs:List D}(h:items? st (.ref n)=some xs):st[n]?=some (.lst xs):=by
 unfold items? at h
 simp only at h
 split at h
 · rename_i q;cases h;exact q
 · cases h
theorem pM{env:Env}:∀(l:List (Str×NameKind)) (x:Str),(l.lookup x=some .cell∨l.lookup x=some .free)→
 ((l.map fun(n,k)=>if(k== .free&&env.scope.kind== .function&&env.kindOf n==some .cell)then(n,.cell)else(n,k)).lookup x=some .cell∨(l.map fun(n,k)=>if(k== .free&&env.scope.kind== .function&&env.kindOf n==some .cell)then(n,.cell)else(n,k)).lookup x=some .free)
 | [],x,h=>by simp at h
 |(n,k)::l,x,h=>by
  rw[List.map_cons]
  dsimp only
  by_cases hx:x=n
  · subst hx
    rw[List.lookup_cons_self]at h
    split
    · rw[List.lookup_cons_self];exact .inl rfl
    · rw[List.lookup_cons_self];exact h
  · have hb:(x==n)=false:=by simpa using hx
    have e1:List.lookup x ((n,k)::l)=List.lookup x l:=by rw[List.lookup_cons,hb]
    rw[e1]at h
    have ih:=pM (env:=env) l x h
    split
    · rw[List.lookup_cons,hb];exact ih
    · rw[List.lookup_cons,hb];exact ih
theorem bz.Gx{X0:Cx}{scope0 scope:Scope}{Nc0 Nc:List Str}{C:Addr}{s:Shared}{H:Hp}{ex:List Addr}{fr:List (Option Nat)}(h:vh scope0 Nc0 scope Nc fr=true):bz (fB X0 scope0 Nc0 C s H ex) scope Nc fr:=by
 unfold vh at h
 simp only[Bool.and_eq_true]at h
 obtain⟨⟨⟨⟨⟨h1,h2⟩,h3⟩,h4⟩,h5⟩,h6⟩:=h
 refine⟨by simpa using h1,fun x hx hk=>?_,fun x hx hk=>?_,fun x hx hk=>?_,by simpa using h5,fun i j x e1 e2=>?_⟩
 · have:=List.all_eq_true.mp h2 x hx
   rw[hk]at this
   simpa using this
 · have:=List.all_eq_true.mp h3 x hx
   rw[hk]at this
   simpa using this
 · have:=List.all_eq_true.mp h4 x hx
   rw[hk]at this
   have z:scope0.names.lookup x.1=some .cell∨scope0.names.lookup x.1=some .free:=by simpa using this
   exact pM _ _ z
 · have hi:i<fr.length:=(List.getElem?_eq_some_iff.mp e2).1
   have:=List.all_eq_true.mp h6 i (List.mem_range.mpr hi)
   rw[e1,e2]at this
   simp only[Bool.and_eq_true,Bool.or_eq_true,beq_iff_eq]at this
   exact⟨this.1.1,this.1.2,pM _ _ this.2⟩
end L3
namespace L3
open PySem L2
open PySem.Spec hiding items?
open PyProof.Rows hiding St
section
variable {X:Cx}
noncomputable def Gq:cT:=fun x y st K=>match x,y with
 | .lst xs,.int k=>(-(2^63)≤k∧k<2^63∧xs.length*k.toNat≤sizeLine)∧K (.ref st.length) (st++[.lst (List.replicate k.toNat xs).flatten])
 |_,_=>False
theorem Lf:bL X (binaryOp .Mult) (LR Gq):=fun pins s σ H x y v u Q I rx ry ⟨α,d,e,st,K,G,F',P,r1,r2,S,q,k⟩=>by
 cases d<;>cases e<;>try exact q.elim
 unfold Rep at r1 r2
 obtain⟨a,vs,rfl,na,ha,ra⟩:=r1
 refine Az pins s σ H _ _ v u Q I rx ry ⟨a,_,vs,rfl,r2,gh P ha,q.1.1,q.1.2.1,by rw[←ra.length];exact q.1.2.2,fun p hp=>?_⟩
 exact k.new P q.2 S (bh.mpr (k9 (bh.mp ra) _)) hp
@[irreducible] noncomputable def rZ:cT:=Gq
theorem DP:bL X (binaryOp .Mult) (LR rZ):=by unfold rZ;exact Lf
end
theorem Hr{st:ag}{K:DK}{xs:List D}{i:Int}(h: -(2^63)≤i∧i<2^63∧xs.length*i.toNat≤sizeLine)(k:K (.ref st.length) (st++[.lst (List.replicate i.toNat xs).flatten])):rZ (.lst xs) (.int i) st K:=by unfold rZ;exact⟨h,k⟩
theorem Di{n:Nat}{d:D}(h:d∈dY 0 n):∃i:Nat,i<n∧d= .int (i:Int):=by
 unfold dY at h
 obtain⟨i,hi,rfl⟩:=List.mem_map.mp h
 rw[List.mem_range]at hi
 exact⟨i,hi,by rw[Int.zero_add]⟩
theorem D0{f:Nat→D}(n:Nat):(dY 0 n).map (fun d=>match d with| .int i=>f i.toNat|_=> .aK)=(List.range n).map f:=by
 unfold dY
 rw[List.map_map]
 refine List.map_congr_left fun i _=>?_
 show f ((0:Int)+(i:Int)).toNat=f i
 have:((0:Int)+(i:Int)).toNat=i:=by omega
 rw[this]
theorem jZ{tg:fL}{te:DE}{σc:cj}{st:ag}{K:List D→ag→Prop}(f:Nat→D)(n:Nat)(hx:∀i:Nat,i<n→∀K',K' (f i) st→∃σ2,tg (.int (i:Int)) σc=some σ2∧te σ2 st K')(k:K ((List.range n).map f) st):dg tg cQ te (fun _=>True) σc (dY 0 n) [] st K:=by
 refine comp_map (g:=fun d=>match d with| .int i=>f i.toNat|_=> .aK) trivial _ (fun d hd K' q=>?_) (by rw[D0];exact k)
 obtain⟨i,hi,rfl⟩:=Di hd
 exact hx i hi K' q
theorem lP{tg:fL}{body:DS}{E:oC}(n:Nat)(I:Nat→cj→ag→Prop)(hend:∀σ st,I n σ st→E.nx σ st)
 (hstep:∀(j:Nat) σ st (rest:List D),j<n→I j σ st→(∀σ' st',I (j+1) σ' st'→ix tg body (fun _=>True) E rest σ' st')→∃σ1,tg (.int (j:Int)) σ=some σ1∧body {E with nx:=ix tg body (fun _=>True) E rest,ct:=ix tg body (fun _=>True) E rest,bk:=E.nx} σ1 st)
 {σ:cj} {st:ag} (h0:I 0 σ st):ix tg body (fun _=>True) E (dY 0 n) σ st:=by
 refine g5 (fun rest σ st=>∃j:Nat,j≤n∧rest=(List.range (n-j)).map (fun i=>D.int (((j+i:Nat):Int)))∧I j σ st) ?_ ?_ _ _ _ ⟨0,Nat.zero_le _,by unfold dY;simp,h0⟩
 · rintro σ st ⟨j,hj,hr,hI⟩
   have:n-j=0:=by
    cases q:n-j with
    |zero=>rfl
    |succ m=>rw[q,List.range_succ_eq_map]at hr;cases hr
   have hjn:j=n:=by omega
   subst hjn
   exact⟨trivial,hend σ st hI⟩
 · rintro d rest σ st ⟨j,hj,hr,hI⟩ next
   cases q:n-j with
   |zero=>rw[q]at hr;cases hr
   |succ m=>
    rw[q,List.range_succ_eq_map,List.map_cons,List.map_map]at hr
    simp only[List.cons.injEq]at hr
    obtain⟨rfl,hrest⟩:=hr
    refine⟨trivial,hstep j σ st rest (by omega) hI fun σ' st' h'=>next σ' st' ⟨j+1,by omega,?_,h'⟩⟩
    have:n-(j+1)=m:=by omega
    rw[this,hrest]
    refine List.map_congr_left fun i _=>?_
    show D.int (((j+(i+1):Nat):Int))=D.int (((j+1+i:Nat):Int))
    congr 2;omega
end L3
namespace L3
open PySem L2
open PySem.Spec hiding items?
open PyProof.Rows hiding St
section
variable {X:Cx}
end
section
variable {X:Cx}{pos:Pos}
end
end L3
namespace L3
open PySem L2
open PySem.Spec hiding items?
open PyProof.Rows hiding St
section
variable {X:Cx}
theorem vS{M:Model}{A:Around}{E:Value→Shared→Prop}{s:Shared}{Q:Value→Shared→Prop}{x:V}{v:Value}{b:Bool}(r:RelV x v)(h:Q (.bool (!(v== .bool b))) s):wpAny M A (compareOp .IsNot v (.bool b)) Q E s:=by
 cases x
 case bl c=>
  cases r
  cases c<;>cases b<;>exact wpAny_pure h
 all_goals first
  |(cases r;exact wpAny_pure h)
  |(obtain⟨t,rfl⟩:=r;exact wpAny_pure h)
noncomputable def zz:cT:=fun x y st K=>match y with| .aK=>live st x=true∧K (.bl (!NF x)) st| .bl b=>live st x=true∧K (.bl (!Ko x b)) st|_=>False
theorem EW:bL X (compareOp .IsNot) (LR zz):=fun pins s σ H x y v u Q I rx ry ⟨α,d,e,st,K,G,F',P,r1,r2,S,q,k⟩=>by
 cases e<;>try exact q.elim
 · refine HH pins s σ H x y v u Q I rx ry ⟨α,d,.aK,st,K,G,F',P,r1,r2,S,⟨q.1,?_⟩,k⟩
   have q2:=q.2
   cases d<;>exact q2
 · rename_i b
   unfold Rep at r2
   subst r2
   cases ry
   refine vS rx ?_
   rw[II S q.1 r1 rx]
   exact⟨.bl (!Ko d b),H,I,rfl,k.here P q.2 S (by unfold Rep;rfl)⟩
@[irreducible] noncomputable def uT:cT:=zz
theorem Lu:bL X (compareOp .IsNot) (LR uT):=by unfold uT;exact EW
end
section
variable {st:ag}{K:DK}{d:D}{b:Bool}
theorem I_(h:live st d=true)(k:K (.bl (!NF d)) st):uT d .aK st K:=by unfold uT;exact⟨h,k⟩
end
end L3
namespace L3
open PySem L2
open PySem.Spec hiding items?
open PyProof.Rows hiding St
section
variable {X:Cx}
end
end L3
namespace L3
open PySem L2
open PySem.Spec hiding items?
open PyProof.Rows hiding St
open AutoSeq1 (wpAny_loadPart')
theorem IB{P:Program}{w:World}{A:Around}(hh:A.handled=none)(k:SK)(t a:Addr)(hne:a≠t)(us:Array Value):Draws P w A t [t,a] us.size (fun i v=>us[i]?=some v) (fun n g=>qo k t a n g∧kg k g a us) where
 live:=fun i h z=>((mH (P:=P) (w:=w) k t a hne us).lv i h z).1
 frame:=fun i h h' z kp=>(mH (P:=P) (w:=w) k t a hne us).fr i h h' z fun b hb o e=>kp b (by rcases hb with rfl|rfl<;>simp) o e
 item:=fun i s Q E hi z q=>(mH (P:=P) (w:=w) k t a hne us).nx i A s Q E us[i] z (by simp[hi]) fun g j sb=>q _ g s.toks (by simp[hi]) j sb
 done:=fun s Q E z q=>(mH (P:=P) (w:=w) k t a hne us).en us.size A s Q E hh z (by simp) q
theorem qf(l:Addr)(items:Array Value)(n:Nat)(dct:Option Addr)(sl:Array (Option Value)):
 Meets (Builtin.«enumerate.__new__» ⟨[.type "enumerate",.ref l],[]⟩) (fun _ R s=>s.heap.get? l=some {cls:= .type "tuple",dict:=dct,data:= .seq items n,slots:=sl}∧
  R (.ok (.ret (.ref (s.heap.push {cls:= .type "tuple_iterator",data:= .fields #[.ref l,.int 0 0]}).objs.size)))
   {s with heap:=(s.heap.push {cls:= .type "tuple_iterator",data:= .fields #[.ref l,.int 0 0]}).push {cls:= .type "enumerate",data:= .fields #[.none,.bool false,.ref s.heap.objs.size,rawInt 0,.none,.none]}}):=
 .of_wp fun prog w A R s h=>by
  obtain⟨hp,g,d,tk,os⟩:=s;obtain⟨hl,h⟩:=h
  have hsub:=sub_enumerate
  have hL:Heap.IsTuple (Shared.heap ⟨hp,g,d,tk,os⟩) l items:=⟨_,hl,rfl,n,rfl⟩
  wp_walk using wpAny_loadPart' hl
  refine wpAny_stack_any fun st=>wpAny_pure ?_
  split
  · rename_i c _ _ _ _ _
    cases (c==Value.type "enumerate")
    · wp_walk using wpAny_loadPart' hl,wpAny_pyIter_tuple hL
      exact⟨_,rfl,h⟩
    · wp_walk using wpAny_loadPart' hl,wpAny_pyIter_tuple hL
      exact⟨_,rfl,h⟩
  · wp_walk using wpAny_loadPart' hl,wpAny_pyIter_tuple hL
    exact⟨_,rfl,h⟩
theorem Ek{P:Program}{w:World}{A:Around}{s:Shared}{E:Value→Shared→Prop}{k:SK}{a:Addr}{us:Array Value}{Q:Value→Shared→Prop}(c:kg k s.heap a us)
 (q:∀g,IsEnum g (s.heap.objs.size+1) s.heap.objs.size 0 .none→qo k s.heap.objs.size a 0 g→(∀b o,s.heap.get? b=some o→g.get? b=some o)→Q (.ref (s.heap.objs.size+1)) {s with heap:=g}):
 wpAny (model P w) A (call (.type "enumerate") [.ref a]) Q E s:=by
 cases k
 · exact call_enumerate_list c fun g h1 h2 _ h4=>q g h1 h2 h4
 · obtain⟨⟨c,dct,dt,sl⟩,hl,hc,n,hd⟩:=c
   replace hc:c= .type "tuple":=hc
   replace hd:dt= .seq us n:=hd
   subst hc hd
   refine callType_new F.called_enumerate (by decide) (F.typeCall_enumerate_1 _) (F.newCall_enumerate_1 _) (fun obj=>F.args_object_init_2 obj _) F.entry_enumerate_new
    (qf a us n dct sl) ⟨hl,?_⟩
   have hz:(s.heap.push {cls:= .type "tuple_iterator",data:= .fields #[.ref a,.int 0 0]}).objs.size=s.heap.objs.size+1:=Heap.size_push ..
   show _∧_
   rw[hz]
   have he:IsEnum ((s.heap.push {cls:= .type "tuple_iterator",data:= .fields #[.ref a,.int 0 0]}).push
    {cls:= .type "enumerate",data:= .fields #[.none,.bool false,.ref s.heap.objs.size,rawInt 0,.none,.none]}) (s.heap.objs.size+1) s.heap.objs.size 0 .none:=by
    have:=Heap.get?_push_size (s.heap.push {cls:= .type "tuple_iterator",data:= .fields #[.ref a,.int 0 0]})
     (o:={cls:= .type "enumerate",data:= .fields #[.none,.bool false,.ref s.heap.objs.size,rawInt 0,.none,.none]}) rfl
    rw[hz]at this;exact this
   exact⟨⟨_,he,rfl⟩,q _ he ⟨_,Heap.get?_push_of_some _ (Heap.get?_push_size _ rfl),rfl,rfl⟩ fun b o x=>Heap.get?_push_of_some _ (Heap.get?_push_of_some _ x)⟩
noncomputable def Nk(K:PySem.W.Frag)(k:SK)(a:Addr):It:=
 ⟨fun i H=>∃xs x,pw k K H a xs∧xs[i]?=some x,
  fun i H v H'=>∃T x,H T=none∧v= .ref T∧H'=upd H T (.tup [.int (i:Int),x])∧∀xs,pw k K H a xs→xs[i]?=some x,
  fun i H=>∃xs,pw k K H a xs∧xs.length≤i⟩
noncomputable def Ol(e t a:Addr)(k:SK)(i:Nat)(h:Heap):Prop:=(∃old,IsEnum h e t i old)∧qo k t a i h
theorem CI{P:Program}{w:World}{K:PySem.W.Frag}{elts:List Expr}{kx:Nat}{pos:Pos}{e t a:Addr}(k:SK)(n1:e≠t)(n2:a≠e)(n3:a≠t):
 Turn P w K (.Tuple elts kx pos) (Nk K k a) [e,t] e (Ol e t a k) where
 mem:=by simp
 obj:=fun i h st b hb=>by
  obtain⟨⟨old,he⟩,i1⟩:=st
  simp only[List.mem_cons,List.not_mem_nil,or_false]at hb
  rcases hb with rfl|rfl
  · exact⟨_,he,fun v z=>by cases z⟩
  · exact mQ i1
 keep:=fun i h h' st kp=>by
  obtain⟨⟨old,he⟩,i1⟩:=st
  exact⟨⟨old,kp e (by simp) _ he⟩,o5 i1 (kp t (by simp))⟩
 item:=by
  intro X hP hw hK hc i pins s σ H E I hf st hg
  subst hP hw hK
  obtain⟨⟨old,he⟩,i1⟩:=st
  obtain⟨xs,x,q1,ex⟩:=hg
  obtain⟨us,r1,l1⟩:=jQ I q1
  obtain⟨u,eu,ru⟩:=r1.get ex
  have hlt:i<us.toArray.size:=by
   have:=(List.getElem?_eq_some_iff.mp eu).1
   simpa using this
  refine wpAny_pyNext_enum_itemD (IB (A:=X.A.in1) (show X.A.in1.handled=none from I.ok.hd hc) k t a n3 us.toArray) he ⟨i1,l1⟩ hlt n1 (by simp only[List.mem_cons,List.not_mem_nil,or_false,not_or];exact⟨n1,Ne.symm n2⟩) fun y h' tk py ho hs hT hsz kp=>⟨_,rfl,?_⟩
  have hy:y=u:=by
   have:us[i]?=some y:=by simpa using py
   rw[eu]at this;cases this;rfl
  subst hy
  refine wpAny_letOwnedTupleGo_enum (s:={s with heap:=h',toks:=tk+1}) ho fun k' he' sb=>?_
  have hTe:s.heap.objs.size≠e:=Nat.ne_of_gt (Heap.lt_size he)
  have kp3:∀b o,b∉[e,t]→s.heap.get? b=some o→k'.get? b=some o:=fun b o hb eb=>by
   simp only[List.mem_cons,not_or,List.not_mem_nil,not_false_eq_true,and_true]at hb
   exact sb.extBut _ _ hb.1 (kp b o hb.1 hb.2 eb)
  refine⟨.ref s.heap.objs.size,upd H s.heap.objs.size (.tup [.int (i:Int),x]),GQ (s:=s) (tk:=tk+1) I hf kp3 (Nat.le_refl _) ?_,rfl,⟨s.heap.objs.size,x,I.aN.fresh (Nat.le_refl _),rfl,rfl,?_⟩,?_,?_⟩
  · refine⟨Nat.le_of_ble_eq_true rfl,[.int (i:Int) tk,y],.cons ⟨tk,rfl⟩ (.cons ru .nil),?_⟩
    exact⟨_,sb.extBut _ _ hTe hT,rfl,_,rfl⟩
  · intro xs' q'
    rw[vB I q' q1];exact ex
  · refine⟨⟨_,by simpa using he'⟩,o5 hs.1 fun o eo=>sb.extBut _ _ (Ne.symm n1) eo⟩
  · intro b hb
    have:b≠s.heap.objs.size:=by
     obtain⟨o,eb⟩:∃o,s.heap.get? b=some o:=by
      simp only[List.mem_cons,List.not_mem_nil,or_false]at hb
      rcases hb with rfl|rfl
      · exact⟨_,he⟩
      · obtain⟨o,eo,_⟩:=mQ i1;exact⟨o,eo⟩
     exact Nat.ne_of_lt (Heap.lt_size eb)
    rw[az this]
    exact(hf b hb).1
 done:=by
  intro X hP hw hK hc i pins s σ H E I hf st hg
  subst hP hw hK
  obtain⟨⟨old,he⟩,i1⟩:=st
  obtain⟨xs,q1,hle⟩:=hg
  obtain⟨us,r1,l1⟩:=jQ I q1
  have e1:=r1.length
  have tz:s.TypeIs (.ref e) "enumerate":=⟨_,he,rfl⟩
  unfold pyNext
  refine wpAny_bind (wpAny_attempt (wpAny_callSpecial?_slot (name:=Str.ofString "__next__") tz F.slot_enumerate_next (wpAny_call_entry F.slot_enumerate_next tz F.entry_enumerate_next ?_ (F.args_enumerate_next_1 _))))
  show wpAny _ _ (field (.ref e) 2 >>= _) _ _ _
  refine wpAny_bind (wpAny_field he rfl (x:= .ref t) rfl ?_)
  refine wpAny_bind ((mH k t a n3 us.toArray).en i _ s _ _ (I.ok.hd hc) ⟨i1,l1⟩ (by simp;omega) fun g x sb hx=>?_)
  obtain⟨o,ho,hc2⟩:=hx
  refine wpAny_bind (wpAny_isInstance (T:="StopIteration") (b:=true) ⟨o,ho,hc2⟩ isSubtype_stop ?_)
  refine wpAny_pure ⟨rfl,Gk (s:=s) (tk:=s.toks) I hf fun b o hb eb=>?_⟩
  simp only[List.mem_cons,not_or,List.not_mem_nil,not_false_eq_true,and_true]at hb
  exact sb b o hb.2 eb
 self:=fun _ _ _ _ _ st h=>wpAny_pyIter_enum st.1.choose_spec h
noncomputable def gf:Nat→List D→List D
 |_,[]=>[]
 |i,x::xs=> .tup [.int (i:Int),x]::gf (i+1) xs
theorem wR:∀ {xs:List D} {i:Nat},(gf i xs).length=xs.length
 | [],_=>rfl
 |_::xs,i=>by unfold gf;rw[List.length_cons,List.length_cons,wR]
theorem qZ:∀ {xs:List D} {i n:Nat} {d:D},(gf i xs)[n]?=some d→∃x,xs[n]?=some x∧d= .tup [.int ((i+n:Nat):Int),x]
 | [],_,_,_,e=>by unfold gf at e;cases e
 |x::xs,i,0,d,e=>by
  unfold gf at e
  rw[List.getElem?_cons_zero]at e
  cases e
  exact⟨x,rfl,rfl⟩
 |x::xs,i,n+1,d,e=>by
  unfold gf at e
  rw[List.getElem?_cons_succ]at e
  obtain⟨y,h1,h2⟩:=qZ e
  refine⟨y,by rw[List.getElem?_cons_succ];exact h1,?_⟩
  rw[h2,show i+1+n=i+(n+1) by omega]
theorem G_{K:PySem.W.Frag}{k:SK}{a:Addr}{α:List (Option Addr)}{G:Hp}{ok:ag→Prop}{xs:List D}
 (h:∀α' G' st',Step α G α' G'→aS α' st' G'→ok st'→∃vs,CJ k G' a vs∧aL α' G' xs vs):tO (Nk K k a) α G ok (gf 0 xs) where
 stop:=fun n α' G' F' H' st' s P S o hn=>by
  obtain⟨vs,h1,r1⟩:=h α' G' st' s S o
  rw[wR]at hn
  refine⟨vs,jf P h1,?_⟩
  have:=r1.length
  omega
 go:=fun n d α' G' F' H' st' s P S o hn=>by
  obtain⟨vs,h1,r1⟩:=h α' G' st' s S o
  obtain⟨x,ex,rfl⟩:=qZ hn
  obtain⟨v,ev,_⟩:=r1.get ex
  exact⟨vs,v,jf P h1,ev⟩
 og:=fun n d α' G' F' H' st' x H'' s P S o hn y=>by
  obtain⟨vs,h1,r1⟩:=h α' G' st' s S o
  obtain⟨c,ec,rfl⟩:=qZ hn
  obtain⟨T,v,hT,rfl,rfl,y1⟩:=y
  obtain⟨v',ev,rv⟩:=r1.get ec
  rw[y1 vs (jf P h1)]at ev
  cases ev
  have hg:=(P.none hT).1
  refine⟨upd G' T (.tup [.int (n:Int),v]),Step.laid hg,P.laid hT,S.laid hg,?_⟩
  unfold Rep
  refine⟨T,[.int (n:Int),v],rfl,S.jM hg,aZ,?_⟩
  unfold aL
  refine⟨.int (n:Int),[v],rfl,?_,?_⟩
  · unfold Rep;rw[Nat.zero_add]
  unfold aL
  exact⟨v,[],rfl,rv.step (Step.laid hg),by unfold aL;rfl⟩
noncomputable def Cd(ds:List D)(st1:ag)(K:List D→(ag→Prop)→ag→Prop):Prop:=match ds with
 | [x]=>(match items? st1 x with
   |some xs=>K (gf 0 xs) (fun st'=>items? st' x=some xs) st1
   |_=>False)
 |_=>False
@[irreducible] noncomputable def qR:List D→ag→(List D→(ag→Prop)→ag→Prop)→Prop:=Cd
noncomputable def xy(t:DA):DI:=fun σ st K=>t σ st fun ds st1=>qR ds st1 K
theorem Cq:bootBuiltins "enumerate"=some (.type "enumerate"):=by decide+kernel
theorem Hg{X:Cx}{a:Expr}{elts:List Expr}{kx:Nat}{tpos p pos:Pos}{t:DA}(hg:Gl X "enumerate")(hm:X.mg "enumerate"=none)(ha:PA X [a] (LA t))(hs:starEach [a] X.env=[(false,eval a X.env)]):
 PI X (.Tuple elts kx tpos) (.Call (.Name "enumerate" p) [a] [] pos) (LI (xy t)):=by
 intro pins s σ H R I h
 obtain⟨α,σd,st,K,G,F,P,RS,S,t,k⟩:=h
 refine Call_ (jT I hg hm Cq (PyProof.Rows.callWith_type1 (bR (ha pos pins s σ H (fun vs H1=>∃ds α1 G1 st1,Step α G α1 G1∧b_ G1 F H1∧aS α1 st1 G1∧aL α1 G1 ds vs∧qR ds st1 K) I ⟨α,σd,st,_,G,F,P,RS,S,t,fun ds st1 q α1 G1 H1 vs s1 P1 S1 r1=>⟨ds,α1,G1,st1,s1,P1,S1,r1,q⟩⟩) fun us s1 ⟨vs,H1,I1,rv,ds,α1,G1,st1,w1,P1,S1,r1,q⟩=>?_) (by rw[hs];rfl) (by rfl)))
 unfold qR Cd at q
 split at q
 · rename_i x
   split at q
   · rename_i xs ex
     obtain⟨v1,rfl,q1⟩:=gN r1 rfl
     obtain⟨p1,vs1,rfl,g1,c1⟩:=mV S1 q1 ex
     obtain⟨u1,rfl,ru1⟩:=vals1 rv
     cases ru1
     obtain⟨its1,_,l1⟩:=jQ I1 (jf P1 c1)
     refine Ek l1 fun g he i1 kp=>?_
     obtain⟨o1,eo1⟩:=l1.some
     have hp1:p1<s1.heap.objs.size:=Heap.lt_size eo1
     refine wpAny_pyIter_enum (s:={s1 with heap:=g}) he ?_
     refine⟨s1.heap.objs.size+1,[s1.heap.objs.size+1,s1.heap.objs.size],_,_,H1,rfl,I1.kept (t':=s1.toks) kp,CI (Gj x) (Nat.ne_of_gt (Nat.lt_succ_self _)) (Nat.ne_of_lt (Nat.lt_succ_of_lt hp1)) (Nat.ne_of_lt hp1),⟨⟨_,he⟩,i1⟩,fun b hb=>?_,?_⟩
     · have hb':s1.heap.objs.size≤b:=by
        simp only[List.mem_cons,List.not_mem_nil,or_false]at hb
        rcases hb with rfl|rfl
        · exact Nat.le_succ _
        · exact Nat.le_refl _
       exact I1.t6 hb' (I1.aN.fresh hb')
     · refine k _ _ st1 q _ α1 G1 H1 w1 P1 S1 (G_ fun α' G' st' s' S' o=>?_)
       obtain⟨p1',ws1,e1,f1,d1⟩:=mV S' (q1.step s') o
       cases e1
       exact⟨ws1,d1,f1⟩
   · exact q.elim
 · exact q.elim
theorem AD{st:ag}{x:D}{xs:List D}{K:List D→(ag→Prop)→ag→Prop}(ex:items? st x=some xs)(k:∀ok:ag→Prop,(∀st',items? st' x=some xs→ok st')→K (gf 0 xs) ok st):qR [x] st K:=by
 unfold qR Cd
 simp only[ex]
 exact k _ fun st' h1=>h1
theorem Dz{X:Cx}{a:Expr}{elts:List Expr}{kx:Nat}{tpos p pos:Pos}{ar:DA}(hg:Gl X "enumerate")(hm:X.mg "enumerate"=none)(ha:JA X [a] ar)(hs:notStar a=true:=by rfl):JI X (.Tuple elts kx tpos) (.Call (.Name "enumerate" p) [a] [] pos) (xy ar):=by
 unfold JI;unfold JA at ha;exact Hg hg hm ha (cC hs)
end L3
namespace L3
open PySem L2
open PySem.Spec hiding items?
open PyProof.Rows hiding St
section
variable {prog:Program}{w:World}{A:Around}{E:Value→Shared→Prop}{s:Shared}
end
section
variable {X:Cx}{tg:Expr}
end
end L3
namespace L3
open PySem L2
open PySem.Spec hiding items?
open PyProof.Rows hiding St
section
variable {X:Cx}
end
end L3
namespace L3
open PySem L2
open PySem.Spec hiding items?
open PyProof.Rows hiding St
section
variable {X:Cx}
end
end L3
namespace L3
open PySem L2
open PySem.Spec hiding items?
open PyProof.Rows hiding St
open PySem PySem.Spec L2 PySem.SeqAt
section
variable {X:Cx}
end
end L3
namespace L3
open PySem L2
open PySem.Spec hiding items?
open PyProof.Rows hiding St
section
variable {X:Cx}
end
end L3
namespace L3
open PySem L2
open PySem.Spec hiding items?
open PyProof.Rows hiding St
section
variable {X:Cx}
end
section
variable {X:Cx}
end
end L3
namespace L3
open PySem L2
open PySem.Spec hiding items?
open PyProof.Rows hiding St
section
variable {X:Cx}
end
end L3
namespace L3
open PySem L2
open PySem.Spec hiding items?
open PyProof.Rows hiding St
section
variable {X:Cx}
end
end L3
namespace L3
open PySem L2
open PySem.Spec hiding items?
open PyProof.Rows hiding St
section
variable {P:Program}{w:World}
section
variable {z ti to t1 t2 t3 a1 a2 a3:Addr}
end
end
end L3
namespace L3
open PySem L2
open PySem.Spec hiding items?
open PyProof.Rows hiding St
end L3
namespace L3
open PySem L2
open PySem.Spec hiding items?
open PyProof.Rows hiding St
section
variable {X:Cx}
end
end L3
namespace L3
open PySem L2
open PySem.Spec hiding items?
open PyProof.Rows hiding St
open Sem (wp)
section
variable {prog:Program}{w:World}{A:Around}{s:Shared}{E:Value→Shared→Prop}
end
section
variable {prog:Program}{w:World}{A:Around}{R:Result→Shared→Prop}{I:Addr}{fp wr:List Addr}{G:Array GenState→Array GenState→Prop}{n:Nat}{P:Nat→Value→Prop}{Sx:Nat→Shared→Prop}
end
section
variable {prog:Program}{w:World}{A:Around}{E:Value→Shared→Prop}{s:Shared}
end
section
variable {X:Cx}{pins:List (Addr×Obj)}{σ:L2.St}{H:Hp}{s:Shared}{α:List (Option Addr)}
end
end L3
namespace L3
open PySem L2
open PySem.Spec hiding items?
open PyProof.Rows hiding St
section
variable {X:Cx}
theorem range_any{α:Type}(l:List α)(f:α→Bool)(tr:Nat→Bool)(h:∀i x,l[i]?=some x→tr i=f x):(List.range l.length).any tr=l.any f:=by
 induction l generalizing tr with
 |nil=>rfl
 |cons a l ih=>
  rw[List.length_cons,List.range_succ_eq_map,List.any_cons,List.any_cons,List.any_map,h 0 a rfl]
  congr 1
  exact ih (tr∘Nat.succ) fun i x e=>h (i+1) x (by simpa using e)
end
end L3
namespace L3
open PySem L2
open PySem.Spec hiding items?
open PyProof.Rows hiding St
noncomputable def putD(f:Str)(v:D):List (Str×D)→List (Str×D)
 | []=>[(f,v)]
 |(g,x)::r=>if g=f then(g,v)::r else(g,x)::putD f v r
theorem ji.look{α:List (Option Addr)}{H:Hp}{f:Str}{v:D}:∀ {fs:List (Str×D)} {vs:List (Str×V)},ji α H fs vs→fs.lookup f=some v→∃u,vs.lookup f=some u∧Rep α H v u
 | [],_,_,e=>by cases e
 |(g,x)::fs,_,.cons (b:=q) h t,e=>by
  obtain⟨g',y⟩:=q
  obtain⟨h1,h2⟩:=h
  simp only at h1 h2
  subst h1
  rw[List.lookup_cons]at e⊢
  cases hb:f==g with
  |true=>rw[hb]at e;cases e;exact⟨y,rfl,h2⟩
  |false=>rw[hb]at e;exact ji.look t e
theorem ji.none{α:List (Option Addr)}{H:Hp}{f:Str}:∀ {fs:List (Str×D)} {vs:List (Str×V)},ji α H fs vs→fs.lookup f=Option.none→vs.lookup f=Option.none
 | [],_,.nil,_=>rfl
 |(g,x)::fs,_,.cons (b:=q) h t,e=>by
  obtain⟨g',y⟩:=q
  obtain⟨h1,h2⟩:=h
  simp only at h1 h2
  subst h1
  rw[List.lookup_cons]at e⊢
  cases hb:f==g with
  |true=>rw[hb]at e;cases e
  |false=>rw[hb]at e;exact ji.none t e
theorem ji.put{α:List (Option Addr)}{H:Hp}{f:Str}{d:D}{v:V}(r:Rep α H d v):∀ {fs:List (Str×D)} {vs:List (Str×V)},ji α H fs vs→ji α H (putD f d fs) (gy f v vs)
 | [],_,.nil=> .cons ⟨rfl,r⟩ .nil
 |(g,x)::fs,_,.cons (b:=q) h t=>by
  obtain⟨g',y⟩:=q
  obtain⟨h1,h2⟩:=h
  simp only at h1 h2
  subst h1
  unfold putD gy
  by_cases hb:g=f
  · rw[if_pos hb,if_pos hb];exact .cons ⟨rfl,r⟩ t
  · rw[if_neg hb,if_neg hb];exact .cons ⟨rfl,h2⟩ (ji.put r t)
noncomputable def FA(C:Addr)(f:Str)(d:D)(st:ag)(K:DK):Prop:=match d with
 | .ref n=>(match st[n]? with|some (.ins C' fs)=>C'=C∧∃v,fs.lookup f=some v∧K v st|_=>False)
 |_=>False
@[irreducible] noncomputable def BQ(C:Addr)(f:Str):D→ag→DK→Prop:=FA C f
noncomputable def dU(C:Addr)(f:Str)(te:DE):DE:=fun σ st K=>te σ st fun d st1=>BQ C f d st1 K
theorem cA{C:Addr}{f:Str}{n:Nat}{st:ag}{K:DK}{fs:List (Str×D)}{v:D}(e:st[n]?=some (.ins C fs))(h:fs.lookup f=some v)(k:K v st):BQ C f (.ref n) st K:=by
 unfold BQ FA;simp only[e];exact⟨trivial,v,h,k⟩
noncomputable def Bs(C:Addr)(f:Str)(x d:D)(st:ag)(K:ag→Prop):Prop:=match x with
 | .ref n=>(match st[n]? with|some (.ins C' fs)=>C'=C∧fs.length<1000∧K (st.set n (.ins C (putD f d fs)))|_=>False)
 |_=>False
@[irreducible] noncomputable def xv(C:Addr)(f:Str):D→D→ag→(ag→Prop)→Prop:=Bs C f
noncomputable def ow(C:Addr)(f:Str)(to te:DE):DS:=fun D σ st=>te σ st fun d st1=>to σ st1 fun x st2=>xv C f x d st2 fun st3=>D.nx σ st3
theorem mR{C:Addr}{f:Str}{n:Nat}{d:D}{st:ag}{K:ag→Prop}{fs:List (Str×D)}(e:st[n]?=some (.ins C fs))(h:fs.length<1000)(k:K (st.set n (.ins C (putD f d fs)))):xv C f (.ref n) d st K:=by
 unfold xv Bs;simp only[e];exact⟨trivial,h,k⟩
noncomputable def Ce(C:Addr)(m:Str)(x:D)(st:ag)(k:Prop):Prop:=match x with
 | .ref n=>(match st[n]? with|some (.ins C' fs)=>C'=C∧fs.lookup m=none∧k|_=>False)
 |_=>False
@[irreducible] noncomputable def xO(C:Addr)(m:Str):D→ag→Prop→Prop:=Ce C m
theorem jx{C:Addr}{m:Str}{n:Nat}{st:ag}{k:Prop}{fs:List (Str×D)}(e:st[n]?=some (.ins C fs))(h:fs.lookup m=none)(q:k):xO C m (.ref n) st k:=by
 unfold xO Ce;simp only[e];exact⟨trivial,h,q⟩
noncomputable def i4(C:Addr)(m:Str)(S:cp)(to:DE)(t:DA):DE:=fun σ st K=>to σ st fun x st1=>xO C m x st1 (t σ st1 fun ds st2=>S (x::ds) st2 K)
noncomputable def Bg(C:Addr)(S:cp)(t:DA):DE:=fun σ st K=>t σ st fun ds st1=>S (.ref st1.length::ds) (st1++[.ins C []]) fun r st2=>r= .aK∧K (.ref st1.length) st2
section
variable {X:Cx}{C f g:Addr}{fd:FuncData}{k:Nat}{x m fl:Str}{e o value:Expr}{es:List Expr}{p pos pos' apos:Pos}{te to:DE}{t:DA}{S:cp}{ps:List Str}
theorem MQ(c:nH X.K C)(na:fQ X.K C fl)(he:PE X e (LE te))(hb:attributeBase e fl X.env (eval e X.env)=eval e X.env):PE X (.Attribute e fl pos) (LE (dU C fl te)):=PE.imp (K0 he hb) fun σ H Q ⟨α,σd,st,K,G,F,P,R,S,t,k⟩=>by
 refine⟨α,σd,st,_,G,F,P,R,S,t,fun d st1 q α1 G1 H1 v s1 P1 S1 r1=>?_⟩
 unfold BQ FA at q
 cases d<;>try exact q.elim
 simp only at q
 split at q
 · rename_i C' fs e'
   obtain⟨rfl,w,hw,q⟩:=q
   obtain⟨a,ea,dx,vs,h1,h2⟩:=S1.xS e'
   have r1':=dQ ea r1
   subst r1'
   obtain⟨u,hu,ru⟩:=h2.look hw
   exact⟨a,_,dx,vs,u,rfl,P1.get h1,c,na,hu,(k.at s1).here P1 q S1 ru⟩
 · exact q.elim
theorem Jz(c:nH X.K C)(na:fQ X.K C fl)(ho:PE X o (LE to))(hv:PE X value (LE te))(hs:swapsWith value (some (.Attribute o fl pos')) pos.line X.env=pure false):PS X (.Assign [.Attribute o fl pos'] value pos) (LS (ow C fl to te)):=PS.imp (Jq ho hv hs) fun D σ H ⟨α,σd,st,DD,G,F,P,R,S,t,k⟩=>by
 refine⟨α,σd,st,_,G,F,P,R,S,t,fun d st1 q α1 G1 H1 v s1 P1 S1 r1=>?_⟩
 refine⟨α1,σd,st1,_,G1,F,P1,R.step s1,S1,q,fun x st2 q2 α2 G2 H2 v2 s2 P2 S2 r2=>?_⟩
 unfold xv Bs at q2
 cases x<;>try exact q2.elim
 simp only at q2
 split at q2
 · rename_i C' fs e'
   obtain⟨rfl,hl,q2⟩:=q2
   obtain⟨a,ea,dx,vs,h1,h2⟩:=S2.xS e'
   have r2':=dQ ea r2
   subst r2'
   have hm:some a∈α2:=List.mem_of_getElem? ea
   have lv:vs.length<1000:=by rw[←h2.length];exact hl
   refine⟨a,_,dx,vs,rfl,P2.get h1,c,na,lv,?_⟩
   refine((k.nx.at s1).at s2) σd _ q2 α2 (upd G2 a (.ins _ dx (gy fl v vs))) _ σ (Step.write hm) (P2.write h1) (((R.step s1).step s2).step (Step.write hm)) ?_
   exact S2.write ea ⟨dx,gy fl v vs,aZ,(h2.put (r1.step s2)).step (Step.write hm)⟩
 · exact q2.elim
theorem LE.M6{σ:L2.St}{H:Hp}{Q:VK}(h:LE (i4 C m S to t) σ H Q):GD C m (cv S) [] E0 (LE to) (LA t) σ H Q:=by
 obtain⟨α,σd,st,K,G,F,P,R,Sr,tt,k⟩:=h
 refine⟨α,σd,st,_,G,F,P,R,Sr,tt,fun d st1 q α1 G1 H1 v s1 P1 S1 r1=>?_⟩
 unfold xO Ce at q
 cases d<;>try exact q.elim
 simp only at q
 split at q
 · rename_i n C' fs e'
   obtain⟨rfl,hl,q⟩:=q
   obtain⟨a,ea,dx,vs,h1,h2⟩:=S1.xS e'
   have r1':=dQ ea r1
   subst r1'
   refine⟨a,dx,vs,rfl,P1.get h1,h2.none hl,?_⟩
   refine⟨α1,σd,st1,_,G1,F,P1,R.step s1,S1,q,fun ds st2 q2 α2 G2 H2 us s2 P2 S2 r2=>?_⟩
   try dsimp only
   rw[List.append_nil]
   exact⟨α2,_,st2,K,G2,F,P2,by unfold aL;exact⟨_,_,rfl,r1.step s2,r2⟩,S2,q2,(k.at s1).at s2⟩
 · exact q.elim
theorem LE.make{σ:L2.St}{H:Hp}{Q:VK}(h:LE (Bg C S t) σ H Q):Ge C (cv S) [] E0 (LA t) σ H Q:=by
 obtain⟨α,σd,st,K,G,F,P,R,Sr,tt,k⟩:=h
 refine⟨α,σd,st,_,G,F,P,R,Sr,tt,fun ds st1 q α1 G1 H1 us s1 P1 S1 r1=>?_⟩
 intro x dx hx hdx hne
 have hgd:=(P1.none hdx).1
 have P2:=P1.laid (o:= .own x) hdx
 have S2:=S1.laid (o:= .own x) hgd
 have hx2:upd H1 dx (.own x) x=none:=by rw[az (Ne.symm hne)];exact hx
 have hg2:=(P2.none hx2).1
 have P3:=P2.laid (o:= .ins C dx []) hx2
 have S3:=S2.cell (o:= .ins C dx []) (c:= .ins C []) hg2 ⟨dx,[],aZ,.nil⟩
 have s2:Step α1 G1 α1 (upd G1 dx (.own x)):=Step.laid hgd
 have s3:Step α1 (upd G1 dx (.own x)) (α1++[some x]) (upd (upd G1 dx (.own x)) x (.ins C dx [])):=Step.cell hg2
 have rx:Rep (α1++[some x]) (upd (upd G1 dx (.own x)) x (.ins C dx [])) (.ref st1.length) (.ref x):=by
  unfold Rep
  refine .inr ⟨x,?_,rfl⟩
  rw[List.getElem?_append_right (by rw[S1.len];exact Nat.le_refl _),S1.len,Nat.sub_self]
  rfl
 rw[List.append_nil]
 refine⟨α1++[some x],.ref st1.length::ds,st1++[.ins C []],_,_,F,P3,by unfold aL;exact⟨_,_,rfl,rx,(r1.step s2).step s3⟩,S3,q,fun d st2 q2 α' G' H' v s' P' S' r'=>?_⟩
 obtain⟨rfl,q2⟩:=q2
 unfold Rep at r'
 exact⟨r',(((k.at s1).at s2).at s3) _ st2 q2 α' G' H' _ s' P' S' (rx.step s')⟩
end
end L3
namespace L3
open PySem L2
open PySem.Spec hiding items?
open PyProof.Rows hiding St
noncomputable def KO(a:Int)(n:Nat):It:=⟨fun i _=>i<n,fun i H x H'=>H'=H∧x= .int (a+(i:Nat)*(-1)),fun i _=>n≤i⟩
theorem Cu{P:Program}{w:World}{K:PySem.W.Frag}{tg:Expr}(it:Addr)(a:Int)(n:Nat):Turn P w K tg (KO a n) [it] it (fun i h=>IsRangeIter h it (a+(i:Nat)*(-1)) ((n:Int)-(i:Nat)) (-1)) where
 mem:=by simp
 obj:=fun i h st b hb=>by
  have e:b=it:=by simpa using hb
  subst e
  exact⟨_,st,fun v z=>by
   have z':Data.fields _=Data.cell v:=z
   cases z'⟩
 keep:=fun i h h' st k=>k it (by simp) _ st
 item:=by
  intro X hP hw hK hc i pins s σ H E I hf st hg
  subst hP hw hK
  obtain⟨f0,f1,f2,f3,f4,f5⟩:=hf it (by simp)
  have W:=Walks.range (prog:=X.prog) (w:=X.w) (I.ok.hd hc) it a (-1) n
  refine W.item i s _ _ hg st fun v h' tk hv st' kk=>?_
  obtain⟨t,rfl⟩:=hv
  have I1:Inv X pins σ H {s with heap:=h',toks:=tk}:=I.turned (fun b o hb e=>kk b o (by simpa using hb) e) f0 f1 f3 f4 f5
  exact⟨_,rfl,xJ (s:={s with heap:=h',toks:=tk}) (n:="range_iterator") st' rfl rfl (by decide) ⟨.int (a+(i:Nat)*(-1)),H,I1,⟨t,rfl⟩,⟨rfl,rfl⟩,st',fun b hb=>(hf b hb).1⟩⟩
 done:=by
  intro X hP hw hK hc i pins s σ H E I hf st hg
  subst hP hw hK
  obtain⟨f0,f1,f2,f3,f4,f5⟩:=hf it (by simp)
  exact wpAny_pyNext_range_end (I.ok.hd hc) st (by have:n≤i:=hg;omega) fun h' eb=>⟨rfl,I.turned (t':=s.toks) (fun b o hb e=>eb b o hb e) f0 f1 f3 f4 f5⟩
 self:=fun _ _ _ _ _ st h=>wpAny_pyIter_rangeiter st h
theorem wV(a b:Int):Builtin.Range.rangeSize a b (-1)=((a-b).toNat:Int):=by
 unfold Builtin.Range.rangeSize
 rw[if_neg (by decide)]
 have e:(a-b-1)/(- -1:Int)=a-b-1:=by simp
 rw[e]
 split<;>omega
theorem small_down{a b:Int}(ha: -(2^62)≤a)(ha':a<2^62)(hb: -(2^62)≤b)(hb':b<2^62):Builtin.Range.small a b (-1)=true:=by
 unfold Builtin.Range.small
 rw[wV]
 simp only[Builtin.Range.rangeFitsLong,Bool.and_eq_true,Bool.or_eq_true,decide_eq_true_eq,beq_iff_eq,show¬((-1:Int)>0) by decide,if_false]
 omega
noncomputable def GK(ta:TA):TI:=fun σ H R=>ta σ H fun vs H1=>∃i j:Int,vs=[.int i,.int j,.int (-1)]∧(-(2^62)≤i∧i<2^62∧ -(2^62)≤j∧j<2^62)∧R (KO i (i-j).toNat) H1
section
variable {X:Cx}{tg:Expr}
theorem C1{a b c:Expr}{ta:TA}{p pos:Pos}(hg:Gl X "range")(hm:X.mg "range"=none)(ha:PA X [a,b,c] ta)(hs:notStar a=true:=by rfl)(hs2:notStar b=true:=by rfl)(hs3:notStar c=true:=by rfl):
 PI X tg (.Call (.Name "range" p) [a,b,c] [] pos) (GK ta):=by
 intro pins s σ H R I h
 refine Call_ (jT I hg hm boot_range (PyProof.Rows.callWith_type1 (bR (ha pos pins s σ H _ I h) fun us s1 ⟨vs,H1,I1,r1,q1⟩=>?_) (cC hs) (jn (by simp[fP,hs2,hs3]))))
 obtain⟨i,j,e,⟨q1,q2,q3,q4⟩,q⟩:=q1
 subst e
 cases r1 with
 |cons r rr=>
  cases rr with
  |cons r' rr=>
   cases rr with
   |cons r'' rr=>
    cases rr
    obtain⟨t,rfl⟩:=r
    obtain⟨t',rfl⟩:=r'
    obtain⟨t'',rfl⟩:=r''
    refine call_range_3 (by decide) ?_ (Or.inl (PyProof.noPylong_of_log2 (by decide+kernel)))
    refine wpAny_pyIter_range (IsRange.new ..) (small_down q1 q2 q3 q4) ?_
    have I2:Inv X pins σ H1 {s1 with heap:=s1.heap.push {cls:= .type "range",data:= .fields #[.int i t,.int j t',.int (-1) t'']},toks:=s1.toks}:=I1.kept fun b o e=>Heap.get?_push_of_some _ e
    generalize({s1 with heap:=s1.heap.push {cls:= .type "range",data:= .fields #[.int i t,.int j t',.int (-1) t'']},toks:=s1.toks}:Shared)=s2 at I2⊢
    refine⟨s2.heap.objs.size,[s2.heap.objs.size],_,_,H1,rfl,I2.kept (t':=s2.toks) fun b o e=>Heap.get?_push_of_some _ e,Cu _ i (i-j).toNat,?_,fun b hb=>?_,q⟩
    · show IsRangeIter _ _ (i+((0:Nat):Int)*(-1)) ((((i-j).toNat:Nat):Int)-((0:Nat):Int)) (-1)
      have e1:i+((0:Nat):Int)*(-1)=i:=by omega
      have e2:(((i-j).toNat:Nat):Int)-((0:Nat):Int)=Builtin.Range.rangeSize i j (-1):=by rw[wV];omega
      rw[e1,e2]
      exact Heap.get?_push_size _ rfl
    · have e:b=s2.heap.objs.size:=by simpa using hb
      subst e
      exact I2.t6 (Nat.le_refl _) (I2.aN.fresh (Nat.le_refl _))
end
noncomputable def sf(a:Int)(n:Nat):List D:=(List.range n).map fun(k:Nat)=>D.int (a+(k:Nat)*(-1))
theorem wd{a:Int}{n k:Nat}:(sf a n)[k]?=if k<n then some (.int (a+(k:Nat)*(-1)))else none:=by
 unfold sf
 rw[List.getElem?_map]
 by_cases h:k<n
 · rw[List.getElem?_range h,if_pos h];rfl
 · rw[List.getElem?_eq_none (by simpa using h),if_neg h];rfl
theorem Dm{a:Int}{n:Nat}:(sf a n).length=n:=by unfold sf;simp
theorem H_{α:List (Option Addr)}{G:Hp}{a:Int}{n:Nat}:tO (KO a n) α G (fun _=>True) (sf a n) where
 stop:=fun m α' G' F' H' st' s P S o hn=>by rw[Dm]at hn;exact hn
 go:=fun m d α' G' F' H' st' s P S o hn=>by
  rw[wd]at hn
  split at hn
  · assumption
  · cases hn
 og:=fun m d α' G' F' H' st' x H'' s P S o hn y=>by
  obtain⟨rfl,rfl⟩:=y
  rw[wd]at hn
  split at hn
  · cases hn
    exact⟨G',Step.refl,P,S,by unfold Rep;rfl⟩
  · cases hn
noncomputable def LJ(ds:List D)(st1:ag)(K:List D→(ag→Prop)→ag→Prop):Prop:=match ds with
 | [.int i,.int j,.int c]=>(c= -1∧ -(2^62)≤i∧i<2^62∧ -(2^62)≤j∧j<2^62)∧K (sf i (i-j).toNat) (fun _=>True) st1
 |_=>False
@[irreducible] noncomputable def Gi:List D→ag→(List D→(ag→Prop)→ag→Prop)→Prop:=LJ
noncomputable def vq(t:DA):DI:=fun σ st K=>t σ st fun ds st1=>Gi ds st1 K
theorem CC{X:Cx}{tg iter:Expr}{t:DA}(h:PI X tg iter (GK (LA t))):PI X tg iter (LI (vq t)):=PI.imp h fun σ H R ⟨α,σd,st,K,G,F,P,RS,S,t,k⟩=>by
 refine⟨α,σd,st,_,G,F,P,RS,S,t,fun ds st1 q α1 G1 H1 vs s1 P1 S1 r1=>?_⟩
 unfold Gi at q
 match ds,q,r1 with
 | [.int i,.int j,.int c],q,r1=>
   obtain⟨v,u,w,rfl,r2,r3,r4⟩:=LF r1 rfl
   unfold Rep at r2 r3 r4
   subst r2 r3 r4
   obtain⟨⟨rfl,q1⟩,q2⟩:=q
   exact⟨i,j,rfl,q1,k _ _ st1 q2 _ α1 G1 H1 s1 P1 S1 H_⟩
theorem Fc{X:Cx}{tg a b c:Expr}{p pos:Pos}{ar:DA}(hg:Gl X "range")(hm:X.mg "range"=none)(ha:JA X [a,b,c] ar)(hs:notStar a=true:=by rfl)(hs2:notStar b=true:=by rfl)(hs3:notStar c=true:=by rfl):JI X tg (.Call (.Name "range" p) [a,b,c] [] pos) (vq ar):=by
 unfold JI;unfold JA at ha;exact CC (C1 hg hm ha hs hs2 hs3)
section
variable {X:Cx}
end
end L3
namespace L3
open PySem L2
open PySem.Spec hiding items?
open PyProof.Rows hiding St
section
variable {X:Cx}{e o i value:Expr}{es:List Expr}{te to ti:DE}{t:DA}{pos pos' tpos apos p:Pos}{C f:Addr}{fl m x:Str}{S:cp}{k:Nat}{fd:FuncData}{ps:List Str}
theorem Dk{value o:Expr}{fl:Str}{pos':Pos}{n:Nat}{env:Env}:swapsWith value (some (.Attribute o fl pos')) n env=pure false:=by cases value<;>rfl
theorem c7(c:nH X.K C)(na:fQ X.K C fl)(he:JE X e te)(hb:attributeBase e fl X.env (eval e X.env)=eval e X.env:=by rfl):JE X (.Attribute e fl pos) (dU C fl te):=by unfold JE at*;exact MQ c na he hb
theorem mT(c:nH X.K C)(na:fQ X.K C fl)(ho:JE X o to)(hv:JE X value te):JS X (.Assign [.Attribute o fl pos'] value pos) (ow C fl to te):=by unfold JS;unfold JE at*;exact Jz c na ho hv Dk
theorem lp{pl:Sem Bool}(he:JE X o to)(c:nH X.K C)(hm:Meth X.K C m f)(F:a8 X.prog X.w X.K X.mg X.base cq k f fd ps (cv S))(hr:cO k X.A)(hb:Binds X.K fd ps [])(ha:JA X (e::es) t)
 (hs:notStar e=true:=by rfl) (hs2:fP es=true:=by rfl)
 (ht:eval (.Call (.Attribute o m apos) (e::es) [] pos) X.env=(do
   let ov ←eval o X.env
   standAt apos.atName
   let(f,first) ←holding [ov] (getMethod ov m pl)
   callWith pos f first (backTo pos (starEach (e::es) X.env)) (backToKw pos (keywordEach [] X.env))):=by rfl):
 JE X (.Call (.Attribute o m apos) (e::es) [] pos) (i4 C m S to t):=by
 unfold JE at*
 unfold JA at ha
 exact PE.imp (HA he c hm F hr hb .nil Be ha (cC hs) (jn hs2) ht) fun _ _ _ h=>LE.M6 h
theorem JH(M:Mk X.K C f)(F:a8 X.prog X.w X.K X.mg X.base cq k f fd ps (cv S))(hr:cO (k+1) X.A)(hg:Gl X x)(hmg:X.mg x=some (.ref C))(hb:Binds X.K fd ps [])(ha:JA X (e::es) t)(hdb:(x==("__debug__":Str))=false)
 (hs:notStar e=true:=by rfl) (hs2:fP es=true:=by rfl):JE X (.Call (.Name x p) (e::es) [] pos) (Bg C S t):=by
 unfold JE
 unfold JA at ha
 exact PE.imp (HW M F hr hg hmg hb .nil Be ha hdb (cC hs) (jn hs2)) fun _ _ _ h=>LE.make h
end
end L3
namespace L3
open PySem PySem.Spec L2
open PyProof.Rows hiding St
noncomputable def Jn(xs:Array Keyed)(i:Nat):Int:=match xs[i]? with
 |some p=>numOf p.2
 |none=>0
theorem nu{xs ys:Array Keyed}{i j:Nat}(h:xs[i]?=ys[j]?):Jn xs i=Jn ys j:=by unfold Jn;rw[h]
theorem lQ{xs:Array Keyed}{i j:Nat}(hj:j≤xs.size)(k:Nat):
 K (mirror xs i j ((j-i)/2)) k=K xs (if i≤k∧k<j then i+j-1-k else k)∧Jn (mirror xs i j ((j-i)/2)) k=Jn xs (if i≤k∧k<j then i+j-1-k else k):=by
 have e:=getElem?_mirror_all (i:=i) hj k
 split at e<;>rename_i h
 · rw[if_pos h];exact⟨K_congr e,nu e⟩
 · rw[if_neg h];exact⟨K_congr e,nu e⟩
theorem Dv{xs:Array Keyed}{src d:Nat}(hs:src<xs.size)(hd:d≤src)(k:Nat):
 K (bubble xs src d) k=K xs (if k=src-d then src else if src-d<k∧k≤src then k-1 else k)∧Jn (bubble xs src d) k=Jn xs (if k=src-d then src else if src-d<k∧k≤src then k-1 else k):=by
 have e:=getElem?_bubble hs d hd k
 split at e<;>rename_i h
 · rw[if_pos h];exact⟨K_congr e,nu e⟩
 · rw[if_neg h]
   split at e<;>rename_i h2
   · rw[if_pos h2];exact⟨K_congr e,nu e⟩
   · rw[if_neg h2];exact⟨K_congr e,nu e⟩
noncomputable def lJ(xs:Array Keyed)(i j:Nat):Prop:=K xs i<K xs j∨(K xs i=K xs j∧Jn xs i<Jn xs j)
noncomputable def iX(xs:Array Keyed)(k:Nat):Prop:=∀i j,i<j→j<k→lJ xs i j
noncomputable def ie(n:Nat)(xs:Array Keyed)(k:Nat):Prop:=∀i j,i<j→k≤j→j<n→Jn xs i<Jn xs j
theorem iX.to{xs:Array Keyed}{k:Nat}(h:iX xs k):SortedTo xs k:=fun i j hij hj=>by
 rcases Nat.lt_or_eq_of_le hij with e|e
 · rcases h i j e hj with q|q<;>omega
 · subst e;exact Int.le_refl _
theorem iX.more{xs:Array Keyed}{n k m:Nat}(h:iX xs k)(t:ie n xs k)(s:SortedTo xs m)(hm:m≤n):iX xs m:=fun i j hij hj=>by
 by_cases hk:j<k
 · exact h i j hij hk
 · have a:=s i j (Nat.le_of_lt hij) hj
   have b:=t i j hij (Nat.le_of_not_lt hk) (Nat.lt_of_lt_of_le hj hm)
   unfold lJ;omega
theorem ie.up{xs:Array Keyed}{n k m:Nat}(t:ie n xs k)(h:k≤m):ie n xs m:=fun i j a b c=>t i j a (Nat.le_trans h b) c
theorem ie.mix{xs ys:Array Keyed}{n k:Nat}(t:ie n xs k)(f:Nat→Nat)(hf:∀i,Jn ys i=Jn xs (f i))(h1:∀i,i<k→f i<k)(h2:∀i,k≤i→f i=i):ie n ys k:=fun i j a b c=>by
 rw[hf,hf,h2 j b]
 refine t _ _ ?_ b c
 by_cases hi:i<k
 · exact Nat.lt_of_lt_of_le (h1 i hi) b
 · rw[h2 i (Nat.le_of_not_lt hi)];exact a
section
variable {prog:Program}{w:World}{A:Around}{E:Value→Shared→Prop}{s:Shared}{a₀:Array Keyed}
theorem CP{st:SortSt}{ok:Nat}{Q:Bool→SortSt→Prop}(h0:IntKeys a₀)(h1:1≤ok)(aN:ok≤a₀.size)(hB:SBase a₀ st)(hs:iX (arrOf st) ok)(ht:ie a₀.size (arrOf st) ok)
 (h:∀st',SBase a₀ st'→iX (arrOf st') a₀.size→Q true st'):wpS (model prog w) A E s (binarySort' 0 a₀.size ok) Q st:=by
 rw[binarySort'_eq]
 simp only[Nat.zero_add]
 refine wpS_bind (wpS_mono (wpS_forRange (I:=fun k c q=>c=(none,())∧SBase a₀ q∧k≤a₀.size∧iX (arrOf q) k∧ie a₀.size (arrOf q) k)
  (Q:=fun c q=>c=(none,())∧SBase a₀ q∧iX (arrOf q) a₀.size) ?st ?en ?be) ?po)
 case po=>rintro c q ⟨rfl,b1,b2⟩;exact wpS_pure (h q b1 b2)
 case be=>rw[show max ok 1=ok by omega];exact⟨rfl,hB,aN,hs,ht⟩
 case en=>
  rintro c q ⟨rfl,b1,b2,b3,_⟩
  rw[show max (max ok 1) a₀.size=a₀.size by omega]at b3
  exact⟨rfl,b1,b3⟩
 case st=>
  rintro k c q hk1 hk2 ⟨rfl,qB,_,qS,qT⟩
  refine wpS_bind (wpS_mono (wpS_forRange (I:=fun x c q'=>q'=q∧∃l r,c=(none,l,r)∧l≤r∧r≤k∧r-l≤k-x∧(∀i,i<l→K (arrOf q) i≤K (arrOf q) k)∧(∀i,r≤i→i<k→K (arrOf q) k<K (arrOf q) i))
   (Q:=fun c q'=>q'=q∧∃l,c=(none,l,l)∧l≤k∧(∀i,i<l→K (arrOf q) i≤K (arrOf q) k)∧(∀i,l≤i→i<k→K (arrOf q) k<K (arrOf q) i)) ?a ?b ?c) ?d)
  case c=>exact⟨rfl,0,k,rfl,by omega,by omega,by omega,fun i hi=>by omega,fun i x y=>by omega⟩
  case b=>
   rintro c q' ⟨rfl,l,r,rfl,e1,e2,e3,e4,e5⟩
   have:r=l:=by omega
   subst this
   exact⟨rfl,r,rfl,e2,e4,e5⟩
  case a=>
   rintro x c q' _ hx ⟨rfl,l,r,rfl,e1,e2,e3,e4,e5⟩
   dsimp only
   by_cases hlr:l≥r
   · rw[if_pos hlr]
     have:r=l:=by omega
     subst this
     exact wpS_pure ⟨rfl,r,rfl,e2,e4,e5⟩
   · rw[if_neg hlr]
     refine wpS_bind (wpS_ltK qB h0 hk2 (by omega) ?_)
     have so:=qS.to
     by_cases hl:K (arrOf q') k<K (arrOf q') ((l+r)/2)
     · simp only[hl,decide_true,if_true]
       exact wpS_pure ⟨rfl,l,(l+r)/2,rfl,by omega,by omega,by omega,e4,fun i x y=>Int.lt_of_lt_of_le hl (so _ _ x y)⟩
     · simp only[hl,decide_false,Bool.false_eq_true,if_false]
       refine wpS_pure ⟨rfl,(l+r)/2+1,r,rfl,by omega,by omega,by omega,fun i x=>?_,e5⟩
       have:=so i ((l+r)/2) (by omega) (by omega)
       omega
  case d=>
   rintro c q' ⟨rfl,l,rfl,hlk,e4,e5⟩
   show wpS _ _ _ _ (do moveDown' k l;pure (ForInStep.yield (none,()))) _ _
   rw[moveDown'_eq]
   have hks:k<(arrOf q').size:=by rw[qB.size];exact hk2
   have bb:=Dv (xs:=arrOf q') hks (show k-l≤k by omega)
   rw[show k-(k-l)=l by omega]at bb
   refine wpS_bind (wpS_modify (wpS_pure ⟨rfl,qB.setArr (bubble_perm _ _ _),by omega,fun i j hij hj=>?_,ie.mix (qT.up (Nat.le_succ k)) _ (fun i=>(bb i).2) (fun i hi=>?_) (fun i hi=>?_)⟩))
   · show lJ (bubble (arrOf q') k (k-l)) i j
     unfold lJ
     rw[(bb i).1,(bb i).2,(bb j).1,(bb j).2]
     by_cases hil:i<l
     · rw[if_neg (show¬i=l by omega),if_neg (show¬(l<i∧i≤k) by omega)]
       by_cases hjl:j=l
       · rw[if_pos hjl]
         have x:=e4 i hil
         have y:=qT i k (by omega) (Nat.le_refl _) hk2
         omega
       · rw[if_neg hjl]
         by_cases hj2:l<j∧j≤k
         · rw[if_pos hj2];exact qS i (j-1) (by omega) (by omega)
         · rw[if_neg hj2];exact qS i j hij (by omega)
     · by_cases hie:i=l
       · rw[if_pos hie,if_neg (show¬j=l by omega),if_pos (show l<j∧j≤k by omega)]
         exact .inl (e5 _ (by omega) (by omega))
       · rw[if_neg hie,if_pos (show l<i∧i≤k by omega),if_neg (show¬j=l by omega),if_pos (show l<j∧j≤k by omega)]
         exact qS _ _ (by omega) (by omega)
   · show(if i=l then k else if l<i∧i≤k then i-1 else i)<k+1
     split
     · omega
     · split<;>omega
   · show(if i=l then k else if l<i∧i≤k then i-1 else i)=i
     rw[if_neg (by omega),if_neg (by omega)]
noncomputable def wk(xs:Array Keyed)(m q:Nat):Prop:=q+1≤m∧∀i j,i<j→j<m→(m≤i+(q+1)→K xs i=K xs j∧Jn xs i<Jn xs j)∧(i+(q+1)<m→(m≤j+(q+1)→K xs j<K xs i)∧lJ xs j i)
theorem wk.all{xs:Array Keyed}{m q:Nat}(h:wk xs m q)(hm:m≤xs.size):(q=0∨0<q)∧∀i j,i<j→j<m→lJ (mirror xs (m-(q+1)) m ((m-(m-(q+1)))/2)) j i:=by
 refine⟨by omega,fun i j hij hj=>?_⟩
 have b:=lQ (i:=m-(q+1)) (j:=m) hm
 unfold lJ
 rw[(b i).1,(b i).2,(b j).1,(b j).2]
 by_cases hi:m-(q+1)≤i∧i<m
 · rw[if_pos hi,if_pos (show m-(q+1)≤j∧j<m by omega)]
   have:=(h.2 (m-(q+1)+m-1-j) (m-(q+1)+m-1-i) (by omega) (by omega)).1 (by omega)
   omega
 · rw[if_neg hi]
   by_cases hj2:m-(q+1)≤j∧j<m
   · rw[if_pos hj2]
     have:=((h.2 i (m-(q+1)+m-1-j) (by omega) (by omega)).2 (by omega)).1 (by omega)
     omega
   · rw[if_neg hj2]
     exact((h.2 i j hij hj).2 (by omega)).2
theorem wk.zero{xs:Array Keyed}{m:Nat}(h:wk xs m 0):∀i j,i<j→j<m→lJ xs j i:=fun i j hij hj=>((h.2 i j hij hj).2 (by omega)).2
theorem mJ{n:Nat}{xs:Array Keyed}{i j k:Nat}(t:ie n xs k)(hj:j≤xs.size)(hk:j≤k):ie n (mirror xs i j ((j-i)/2)) k:=
 t.mix _ (fun a=>(lQ hj a).2) (fun a ha=>by split<;>omega) fun a ha=>by rw[if_neg (by omega)]
theorem Ef{st:SortSt}{n:Nat}{Q:DescSt→SortSt→Prop}(h0:IntKeys a₀)(hn:n≤a₀.size)(hB:SBase a₀ st)(hs:wk (arrOf st) n 0)(ht:ie a₀.size (arrOf st) n)
 (h:∀m q st',SBase a₀ st'→n≤m→m≤a₀.size→wk (arrOf st') m q→ie a₀.size (arrOf st') m→Q (none,m,q) st'):
 wpS (model prog w) A E s (descLoop n a₀.size) Q st:=by
 unfold descLoop
 refine wpS_forRange (I:=fun x c st'=>∃q,c=(none,x,q)∧SBase a₀ st'∧wk (arrOf st') x q∧ie a₀.size (arrOf st') x) ?st ?en ⟨0,rfl,hB,hs,ht⟩
 case en=>
  rintro c st' ⟨q,rfl,b1,b2,b3⟩
  rw[show max n a₀.size=a₀.size by omega]at b2 b3⊢
  exact h _ q st' b1 hn (Nat.le_refl _) b2 b3
 case st=>
  rintro x c st' hx1 hx2 ⟨q,rfl,b1,b2,b3⟩
  dsimp only
  have hq:=b2.1
  have hsz:x≤(arrOf st').size:=by rw[b1.size];omega
  refine wpS_bind (wpS_ltK b1 h0 hx2 (by omega) ?_)
  by_cases hl:K (arrOf st') x<K (arrOf st') (x-1)
  · simp only[hl,decide_true,if_true]
    by_cases hq0:q>0
    · rw[if_pos hq0]
      have al:=(b2.all hsz).2
      have km:=lQ (i:=x-(q+1)) (j:=x) hsz
      refine wpS_bind (wpS_reverse (wpS_pure ⟨0,rfl,b1.setArr (mirror_perm _ _ _ _),⟨by omega,fun i j hij hj=>⟨fun hh=>by omega,fun hh=>⟨fun hj2=>?_,?_⟩⟩⟩,(mJ b3 hsz (Nat.le_refl _)).up (Nat.le_succ x)⟩))
      · have hjx:j=x:=by omega
        subst hjx
        show K (mirror (arrOf st') _ _ _) j<K (mirror (arrOf st') _ _ _) i
        rw[(km i).1,(km j).1,if_neg (show¬(j-(q+1)≤j∧j<j) by omega)]
        have key:∀t,t<j→K (arrOf st') (j-1)≤K (arrOf st') t:=fun t ht=>by
         by_cases e:t=j-1
         · rw[e];exact Int.le_refl _
         · have z:=b2.2 t (j-1) (by omega) (by omega)
           by_cases g:j≤t+(q+1)
           · have:=(z.1 g).1;omega
           · have:=(z.2 (by omega)).2;unfold lJ at this;omega
        split
        · have:=key (j-(q+1)+j-1-i) (by omega);omega
        · have:=key i hij;omega
      · show lJ (mirror (arrOf st') _ _ _) j i
        by_cases hjx:j<x
        · exact al i j hij hjx
        · have hjx:j=x:=by omega
          subst hjx
          refine .inl ?_
          rw[(km i).1,(km j).1,if_neg (show¬(j-(q+1)≤j∧j<j) by omega)]
          have key:∀t,t<j→K (arrOf st') (j-1)≤K (arrOf st') t:=fun t ht=>by
           by_cases e:t=j-1
           · rw[e];exact Int.le_refl _
           · have z:=b2.2 t (j-1) (by omega) (by omega)
             by_cases g:j≤t+(q+1)
             · have:=(z.1 g).1;omega
             · have:=(z.2 (by omega)).2;unfold lJ at this;omega
          split
          · have:=key (j-(q+1)+j-1-i) (by omega);omega
          · have:=key i hij;omega
    · rw[if_neg hq0]
      have hq0:q=0:=by omega
      subst hq0
      have z0:=b2.zero
      have lx:∀i,i<x→K (arrOf st') x<K (arrOf st') i:=fun i hi=>by
       by_cases e:i=x-1
       · rw[e];exact hl
       · have:=z0 i (x-1) (by omega) (by omega);unfold lJ at this;omega
      refine wpS_pure ⟨0,rfl,b1,⟨by omega,fun i j hij hj=>⟨fun hh=>by omega,fun hh=>⟨fun hj2=>?_,?_⟩⟩⟩,b3.up (Nat.le_succ x)⟩
      · have hjx:j=x:=by omega
        subst hjx;exact lx i hij
      · by_cases hjx:j<x
        · exact z0 i j hij hjx
        · have hjx:j=x:=by omega
          subst hjx;exact .inl (lx i hij)
  · simp only[hl,decide_false,Bool.false_eq_true,if_false]
    refine wpS_bind (wpS_ltK b1 h0 (by omega) hx2 ?_)
    by_cases hg:K (arrOf st') (x-1)<K (arrOf st') x
    · simp only[hg,decide_true,if_true]
      exact wpS_pure (h x q st' b1 hx1 (by omega) b2 b3)
    · simp only[hg,decide_false,Bool.false_eq_true,if_false]
      have he:K (arrOf st') x=K (arrOf st') (x-1):=by omega
      refine wpS_pure ⟨q+1,rfl,b1,⟨by omega,fun i j hij hj=>⟨fun hh=>?_,fun hh=>⟨fun hj2=>?_,?_⟩⟩⟩,b3.up (Nat.le_succ x)⟩
      · by_cases hjx:j<x
        · exact(b2.2 i j hij hjx).1 (by omega)
        · have hjx:j=x:=by omega
          subst hjx
          refine⟨?_,b3 i j hij (Nat.le_refl _) hx2⟩
          rw[he]
          by_cases e:i=j-1
          · rw[e]
          · exact((b2.2 i (j-1) (by omega) (by omega)).1 (by omega)).1
      · by_cases hjx:j<x
        · exact((b2.2 i j hij hjx).2 (by omega)).1 (by omega)
        · have hjx:j=x:=by omega
          subst hjx
          rw[he]
          exact((b2.2 i (j-1) (by omega) (by omega)).2 (by omega)).1 (by omega)
      · by_cases hjx:j<x
        · exact((b2.2 i j hij hjx).2 (by omega)).2
        · have hjx:j=x:=by omega
          subst hjx
          refine .inl ?_
          rw[he]
          exact((b2.2 i (j-1) (by omega) (by omega)).2 (by omega)).1 (by omega)
theorem wA{st:SortSt}{n:Nat}{Q:Option Nat→SortSt→Prop}(h0:IntKeys a₀)(h1:1≤n)(hn:n≤a₀.size)(hB:SBase a₀ st)(hs:∀i j,i<j→j<n→lJ (arrOf st) j i)(ht:ie a₀.size (arrOf st) n)
 (h:∀m st',SBase a₀ st'→1≤m→m≤a₀.size→iX (arrOf st') m→ie a₀.size (arrOf st') m→Q (some m) st'):wpS (model prog w) A E s (tail3 n a₀.size) Q st:=by
 unfold tail3
 have hsz:n≤(arrOf st).size:=by rw[hB.size];exact hn
 refine wpS_bind (wpS_reverse ?_)
 have km:=lQ (xs:=arrOf st) (i:=0) (j:=n) hsz
 have s1:iX (mirror (arrOf st) 0 n ((n-0)/2)) n:=fun i j hij hj=>by
  unfold lJ
  rw[(km i).1,(km i).2,(km j).1,(km j).2,if_pos (by omega),if_pos (by omega)]
  exact hs _ _ (by omega) (by omega)
 have t1:=mJ (i:=0) ht hsz (Nat.le_refl _)
 have hB':SBase a₀ (setArr st (mirror (arrOf st) 0 n ((n-0)/2))):=hB.setArr (mirror_perm _ _ _ _)
 refine wpS_bind (wpS_ascLoop h0 (Nat.le_refl _) h1 hn hB' s1.to fun m m1 m2 sm _=>wpS_pure (h m _ hB' (by omega) m2 (s1.more t1 sm m2) (t1.up m1)))
theorem wu{st:SortSt}{n:Nat}{Q:Option Nat→SortSt→Prop}(h0:IntKeys a₀)(hn:n+1≤a₀.size)(hB:SBase a₀ st)(hs:wk (arrOf st) (n+1) 0)(ht:ie a₀.size (arrOf st) (n+1))
 (h:∀m st',SBase a₀ st'→1≤m→m≤a₀.size→iX (arrOf st') m→ie a₀.size (arrOf st') m→Q (some m) st'):wpS (model prog w) A E s (descPart n a₀.size) Q st:=by
 unfold descPart
 refine wpS_bind (wpS_lift (wpAny_rule ⟨rfl,?_⟩))
 refine wpS_bind (Ef h0 hn hB hs ht fun m q st' b1 b2 b3 b4 b5=>?_)
 dsimp only
 have hsz:m≤(arrOf st').size:=by rw[b1.size];exact b3
 by_cases hq:q>0
 · rw[if_pos hq]
   exact wpS_bind (wpS_reverse (wA h0 (by omega) b3 (b1.setArr (mirror_perm _ _ _ _)) (b4.all hsz).2 (mJ b5 hsz (Nat.le_refl _)) h))
 · rw[if_neg hq]
   have:q=0:=by omega
   subst this
   exact wA h0 (by omega) b3 b1 b4.zero b5 h
theorem DR{st:SortSt}{Q:Option Nat→SortSt→Prop}(h0:IntKeys a₀)(h1:1≤a₀.size)(hB:SBase a₀ st)(ht:ie a₀.size (arrOf st) 1)
 (h:∀m st',SBase a₀ st'→1≤m→m≤a₀.size→iX (arrOf st') m→ie a₀.size (arrOf st') m→Q (some m) st'):wpS (model prog w) A E s (countRun' 0 a₀.size) Q st:=by
 rw[countRun0_eq]
 have s1:iX (arrOf st) 1:=fun i j hij hj=>by omega
 refine wpS_bind (wpS_ascLoop h0 (Nat.le_refl _) (Nat.le_refl 1) h1 hB s1.to fun n n1 n2 sn hor=>?_)
 dsimp only
 have s2:=s1.more ht sn n2
 by_cases hn:n=a₀.size
 · rw[if_pos (by simpa using hn)]
   exact wpS_pure (h n st hB n1 n2 s2 (ht.up n1))
 · rw[if_neg (by simpa using hn)]
   have hl:=hor.resolve_left hn
   by_cases hg:n>1
   · rw[if_pos hg]
     refine wpS_bind (wpS_ltK hB h0 (by omega) (by omega) ?_)
     by_cases hr:K (arrOf st) 0<K (arrOf st) (n-1)
     · simp only[hr,decide_true,if_true]
       exact wpS_pure (h n st hB n1 n2 s2 (ht.up n1))
     · simp only[hr,decide_false,Bool.false_eq_true,if_false]
       have hsz:n≤(arrOf st).size:=by rw[hB.size];exact n2
       have eqs:∀k,k<n→K (arrOf st) k=K (arrOf st) (n-1):=fun k hk=>by
        have x:=sn 0 k (by omega) hk
        have y:=sn k (n-1) (by omega) (by omega)
        omega
       have km:=lQ (xs:=arrOf st) (i:=0) (j:=n) hsz
       refine wpS_bind (wpS_reverse (wu h0 (by omega) (hB.setArr (mirror_perm _ _ _ _)) ⟨by omega,fun i j hij hj=>⟨fun hh=>by omega,fun hh=>⟨fun hj2=>?_,?_⟩⟩⟩ (mJ (ht.up (by omega)) hsz (by omega)) h))
       · have hjn:j=n:=by omega
         subst hjn
         show K (mirror (arrOf st) _ _ _) j<K (mirror (arrOf st) _ _ _) i
         rw[(km i).1,(km j).1,if_neg (show¬(0≤j∧j<j) by omega),if_pos (by omega),eqs (0+j-1-i) (by omega)]
         exact hl
       · show lJ (mirror (arrOf st) _ _ _) j i
         unfold lJ
         rw[(km i).1,(km i).2,(km j).1,(km j).2,if_pos (show 0≤i∧i<n by omega)]
         by_cases hjn:j<n
         · rw[if_pos (by omega)]
           refine .inr ⟨(eqs _ (by omega)).trans (eqs _ (by omega)).symm,ht _ _ (by omega) (by omega) (by omega)⟩
         · have hjn:j=n:=by omega
           subst hjn
           rw[if_neg (by omega),eqs (0+j-1-i) (by omega)]
           exact .inl hl
   · rw[if_neg hg]
     have hn1:n=1:=by omega
     subst hn1
     refine wu h0 (by omega) hB ⟨by omega,fun i j hij hj=>⟨fun hh=>by omega,fun hh=>?_⟩⟩ (ht.up (by omega)) h
     have hi0:i=0:=by omega
     have hj1:j=1:=by omega
     subst hi0;subst hj1
     exact⟨fun _=>hl,.inl hl⟩
theorem CB{st:SortSt}{Q:Unit→SortSt→Prop}(h0:IntKeys a₀)(hB:SBase a₀ st)(ht:ie a₀.size (arrOf st) 1)(h2:2≤a₀.size)(h64:a₀.size<64)
 (h:∀st',(arrOf st').Perm a₀→failedOf st'=none→iX (arrOf st') a₀.size→Q () st'):wpS (model prog w) A E s sortRuns' Q st:=by
 rw[sortRuns'_eq]
 refine wpS_bind (wpS_get ?_)
 dsimp only
 have hmr:minRun' a₀.size a₀.size 0=a₀.size:=by
  cases e:a₀.size with
  |zero=>rw[e]at h2;omega
  |succ f=>rw[minRun'_succ,if_pos (by omega)]
 simp only[hB.size,hmr]
 have dn:∀ {q:SortSt},SBase a₀ q→iX (arrOf q) a₀.size→∃p,p=setPending q ((pendingOf q).push (0,a₀.size,0))∧(arrOf p).Perm a₀∧failedOf p=none∧pendingOf p= #[(0,a₀.size,0)]∧iX (arrOf p) a₀.size:=fun{q} b s=>
  ⟨_,rfl,b.perm,b.failed,by show(pendingOf q).push _=_;rw[b.pend];rfl,s⟩
 refine wpS_bind (wpS_mono (wpS_forRange
  (I:=fun x c q=>(x=0∧c=(none,0)∧q=st)∨(1≤x∧c=(none,a₀.size)∧(arrOf q).Perm a₀∧failedOf q=none∧pendingOf q= #[(0,a₀.size,0)]∧iX (arrOf q) a₀.size))
  (Q:=fun c q=>c=(none,a₀.size)∧(arrOf q).Perm a₀∧failedOf q=none∧pendingOf q= #[(0,a₀.size,0)]∧iX (arrOf q) a₀.size) ?st ?en (.inl ⟨rfl,rfl,rfl⟩)) ?po)
 case en=>
  rintro c q (⟨hx,_,_⟩|⟨_,hc,hD⟩)
  · omega
  · exact⟨hc,hD⟩
 case st=>
  rintro x c q _ hx (⟨rfl,rfl,rfl⟩|⟨_,rfl,hD⟩)
  · dsimp only
    rw[if_neg (by omega)]
    simp only[Nat.sub_zero,Nat.min_self,Nat.zero_add]
    refine wpS_bind (DR h0 (by omega) hB ht fun m q2 b1 b2 b3 b4 b5=>?_)
    dsimp only
    by_cases hm:m<a₀.size
    · rw[if_pos hm]
      refine wpS_bind (wpS_lift (wpAny_rule ⟨rfl,?_⟩))
      refine wpS_bind (CP h0 b2 b3 b1 b4 b5 fun q3 d1 d2=>?_)
      simp only[Bool.not_true,Bool.false_eq_true,if_false]
      refine wpS_bind (wpS_get ?_)
      have hb:(pendingOf q3).back?=none:=by rw[d1.pend];rfl
      rw[hb]
      dsimp only
      obtain⟨p,rfl,z⟩:=dn d1 d2
      exact wpS_bind (wpS_modify (wpS_pure (.inr ⟨by omega,rfl,z⟩)))
    · rw[if_neg hm]
      have hm:m=a₀.size:=by omega
      subst hm
      refine wpS_bind (wpS_get ?_)
      have hb:(pendingOf q2).back?=none:=by rw[b1.pend];rfl
      rw[hb]
      dsimp only
      obtain⟨p,rfl,z⟩:=dn b1 b4
      exact wpS_bind (wpS_modify (wpS_pure (.inr ⟨by omega,rfl,z⟩)))
  · dsimp only
    rw[if_pos (Nat.le_refl _)]
    exact wpS_pure ⟨rfl,hD⟩
 case po=>
  rintro c q ⟨rfl,d1,d2,d3,d4⟩
  dsimp only
  refine wpS_bind (wpS_mono (wpS_forRange (I:=fun _ c q'=>q'=q∧c=(none,())) (Q:=fun c q'=>q'=q∧c=(none,())) ?_ (fun _ _ z=>z) ⟨rfl,rfl⟩) ?_)
  · rintro x c q' _ _ ⟨rfl,rfl⟩
    refine wpS_bind (wpS_get ?_)
    rw[if_pos (by rw[d3];exact Nat.le_refl 1)]
    exact wpS_pure ⟨rfl,rfl⟩
  · rintro c q' ⟨rfl,rfl⟩
    exact wpS_pure (h _ d1 d2 d4)
end
end L3
namespace L2
open PySem PySem.Spec PyProof.Rows
structure Entry(K:PySem.W.Frag)(ts:List (Addr×Addr))(a:Addr)(ns:List Int)(H:Hp):Prop where
 lst:lE K H a (ns.map V.int)
 tab:∀q∈ts,H q.2=some (.jC #[])∧q.2≠a
theorem wW:∀ {vs:List Value} {ns:List Int},IntsAre vs ns→Vals (ns.map V.int) vs
 |_,_,.nil=> .nil
 |_,_,.cons n t h=> .cons ⟨t,rfl⟩ (wW h)
structure KG(K:PySem.W.Frag)(ts:List (Addr×Addr))(h:Heap):Prop where
 hd:∀q∈ts,PySem.W.codeHdIn K q.1 q.2=true
 no:∀q∈ts,K.lookup q.2=none
 at':∀q∈ts,h.get? q.2=some (PySem.W.tabObj #[])
theorem CZ{P:Program}{w:World}{K:PySem.W.Frag}{mg mb:Str→Option Value}{k:Nat}{fa a:Addr}{fd:FuncData}{x:Str}{sp:Sp}{s₁:Shared}{vs:List Value}{ns:List Int}{ts:List (Addr×Addr)}
 (KX:K.In s₁.heap) (hns:s₁.heap.Ns mainGlobals mg) (hb:s₁.heap.Ns builtinsNs mb) (hbb:∀x:Str,x≠"__name__"→mb x=bootBuiltins x) (hlim:s₁.heap.NoLimit) (hse:s₁.heap.NoSeer) (hgt:P.given.tree=none)
 (hbm:∃bm ob,mg "__builtins__"=some (.ref bm)∧bm≠builtinsNs∧s₁.heap.get? bm=some ob∧ob.cls= .type "module"∧ob.dict=some builtinsNs∧ob.data= .plain) (hT:KG K ts s₁.heap) (hg:s₁.gens= #[])
 (ha:s₁.heap.get? a=some {cls:= .type "list",data:= .seq vs.toArray}) (hi:IntsAre vs ns) (hl:ns.length≤sizeLine) (hr:cO k callerA)
 (F:∀base:Heap,K.In base→base.Ns mainGlobals mg→a8 P w K mg base (fun _ _ _ _ _ _=>False) k fa fd [x] sp) (hbind:∀(s:Shared) (u:Value),BindsTo s fd ⟨[u],[]⟩ [(x,u)])
 (hsp:∀H:Hp,Entry K ts a ns H→sp [.ref a] H (fun v _=>v= .bl true) fun _ _ _=>False):
 codeAny (model P w) callerA (.call (.ref fa) ⟨[.ref a],[]⟩) (fun r s'=>r= .ok (.ret (.bool true))∧OldK s₁.heap s'.heap∧s'.os=s₁.os∧AllBare s'.gens) s₁:=by
 have rv:=wW hi
 have lenV:=hi.length
 have nta:∀q∈ts,q.2≠a:=fun q hq z=>by
  have:=hT.at' q hq
  rw[z,ha]at this
  cases this
 let sc:Option HO:=match K.lookup a with
  |some _=>none
  |none=>some (.gb {cls:= .type "list",data:= .seq vs.toArray} (.lst (ns.map V.int)))
 let H:Hp:=fun b=>if b=a then sc else if b∈ts.map (·.2)then some (.jC #[])else none
 have Ha:H a=sc:=if_pos rfl
 have Ht:∀q∈ts,H q.2=some (.jC #[]):=fun q hq=>by
  show(if q.2=a then sc else if q.2∈ts.map (·.2)then some (HO.jC #[])else none)=_
  rw[if_neg (nta q hq),if_pos (List.mem_map_of_mem hq)]
 have Hs:∀b u,H b=some u→(b=a∧K.lookup a=none∧u= .gb {cls:= .type "list",data:= .seq vs.toArray} (.lst (ns.map V.int)))∨(∃q∈ts,q.2=b∧u= .jC #[]):=fun b u e=>by
  have e':(if b=a then sc else if b∈ts.map (·.2)then some (HO.jC #[])else none)=some u:=e
  by_cases hba:b=a
  · rw[if_pos hba]at e'
    have e2:(match K.lookup a with
     |some _=>none
     |none=>some (HO.gb {cls:= .type "list",data:= .seq vs.toArray} (.lst (ns.map V.int))))=some u:=e'
    cases q:K.lookup a with
    |some o=>rw[q]at e2;cases e2
    |none=>rw[q]at e2;cases e2;exact .inl ⟨hba,rfl,rfl⟩
  · rw[if_neg hba]at e'
    by_cases hbt:b∈ts.map (·.2)
    · rw[if_pos hbt]at e';cases e'
      obtain⟨q,hq,e⟩:=List.mem_map.mp hbt
      exact .inr ⟨q,hq,e,rfl⟩
    · rw[if_neg hbt]at e';cases e'
 have aN:gR P w H s₁.heap:=fun b u e=>by
  rcases Hs b u e with⟨rfl,_,rfl⟩|⟨q,hq,rfl,rfl⟩
  · exact⟨ha,by rw[List.length_map];exact hl,vs,_,rv,ha⟩
  · exact hT.at' q hq
 have hE:Entry K ts a ns H:=by
  refine⟨?_,fun q hq=>⟨Ht q hq,nta q hq⟩⟩
  cases q:K.lookup a with
  |some o=>
   have e:=KX a o q
   rw[ha]at e;cases e
   exact .inr ⟨_,vs.toArray,_,q,rfl,rfl,rfl,by rw[List.size_toArray,lenV];exact hl,by simpa using rv⟩
  |none=>
   refine .inl (.inr ⟨{cls:= .type "list",data:= .seq vs.toArray},?_⟩)
   rw[Ha]
   show(match K.lookup a with
    |some _=>none
    |none=>some (HO.gb {cls:= .type "list",data:= .seq vs.toArray} (.lst (ns.map V.int))))=_
   rw[q]
 have dictNo:∀ {b:Addr} {o:Obj},s₁.heap.get? b=some o→(∀es ep,o.data≠ .seq es ep)→o.cls≠ .none→H b=none:=fun{b o} e d1 d2=>by
  cases q:H b with
  |none=>rfl
  |some u=>
   rcases Hs b u q with⟨rfl,_,_⟩|⟨t,ht,rfl,_⟩
   · rw[ha]at e;cases e;exact absurd rfl (d1 _ _)
   · rw[hT.at' t ht]at e;cases e;exact absurd rfl d2
 have nsK:∀ {b:Addr} {m:Str→Option Value},s₁.heap.Ns b m→(oX s₁.heap H).Ns b m:=fun{b m} ⟨o,es,ep,e,d,r⟩=>by
  refine⟨o,es,ep,pJ e ?_,d,r⟩
  cases q:H b with
  |none=>rfl
  |some u=>
   rcases Hs b u q with⟨rfl,_,_⟩|⟨t,ht,rfl,_⟩
   · rw[ha]at e;cases e;cases d
   · rw[hT.at' t ht]at e;cases e;cases d
 have hKb:K.In (oX s₁.heap H):=fun b o e=>pJ (KX b o e) (by
  cases q:H b with
  |none=>rfl
  |some u=>
   rcases Hs b u q with⟨rfl,z,_⟩|⟨t,ht,rfl,_⟩
   · rw[z]at e;cases e
   · rw[hT.no t ht]at e;cases e)
 obtain⟨bm,ob,b1,b2,b3,b4,b5,b6⟩:=hbm
 have hbmK:(oX s₁.heap H).get? bm=some ob:=pJ b3 (dictNo b3 (fun es ep z=>by rw[b6]at z;cases z) (fun z=>by rw[b4]at z;cases z))
 have seK:(oX s₁.heap H).NoSeer:=by
  obtain⟨⟨m1,a1,a2⟩,⟨m2,c1,c2⟩,⟨m3,d1,d2⟩,⟨mg',bm',ob',e1,e2,e3,e4,e5⟩⟩:=hse
  refine⟨⟨m1,nsK a1,a2⟩,⟨m2,nsK c1,c2⟩,⟨m3,nsK d1,d2⟩,⟨mg',bm',ob',nsK e1,e2,pJ e3 ?_,e4,e5⟩⟩
  cases q:H bm' with
  |none=>rfl
  |some u=>
   rcases Hs bm' u q with⟨rfl,_,_⟩|⟨t,ht,rfl,_⟩
   · rw[ha]at e3;cases e3;exact absurd (show Value.type "list"=Value.type "module" from e4) (by intro z;injection z with z;exact absurd z (by decide))
   · rw[hT.at' t ht]at e3;cases e3;cases e4
 have hM:Mod K mg (oX s₁.heap H):=⟨hKb,nsK hns,⟨mb,nsK hb,hbb⟩,let⟨mc,h1,h2⟩:=hlim;⟨mc,nsK h1,h2⟩,seK,⟨bm,ob,b1,b2,hbmK,b4,b5,b6⟩⟩
 have e0:tD P w K mg (oX s₁.heap H) callerA [] s₁ H:=⟨rfl,hM,fun b o e=>HM e,Nat.le_of_eq (D5 _ _),trivial,fun b hb=>absurd (show b∈([]:List Addr)from hb) (by simp),aN,.of_eq hg,hgt⟩
 refine codeAny_mono ((F _ hKb (nsK hns)).run callerA [] s₁ H ⟨[.ref a],[]⟩ [.ref a] [.ref a] _ _ hr e0 (hbind s₁ (.ref a)) (.cons rfl .nil) (hsp H hE)) fun r s' h=>?_
 cases r with
 |error e=>exact False.elim h
 |ok fl=>
  cases fl with
  |next=>exact False.elim h
  |brk=>exact False.elim h
  |cont=>exact False.elim h
  |ret u=>
   obtain⟨v,H',os,bare,un,hok',r',q⟩:=h
   have q':v= .bl true:=q
   subst q'
   obtain rfl:u=Value.bool true:=r'
   have noF:∀b:Addr,b∉pC ([]:List Env):=fun b z=>absurd (show b∈([]:List Addr)from z) (by simp)
   refine⟨rfl,⟨fun b o e=>?_,fun b o e=>un.there b o e (by simp)⟩,os,bare⟩
   cases q:H b with
   |none=>exact .inl (un.keep b o e q (noF b) (by simp))
   |some u=>
    rcases Hs b u q with⟨rfl,_,rfl⟩|⟨t,ht,rfl,rfl⟩
    · obtain⟨e2,_⟩:=hok' b _ (un.nA b _ _ q)
      rw[ha]at e;cases e
      exact .inl e2
    · obtain⟨more,e1⟩:=un.nO _ _ q
      have e2:s'.heap.get? t.2=some {cls:= .none,data:= .fields (#[]++more)}:=hok' _ _ e1
      have e3:=hT.at' t ht
      rw[e3]at e;cases e
      have C:PySem.W.CodeHd s₁.heap t.1 t.2:=PySem.W.codeHd_of_K KX (hT.hd t ht)
      exact .inr (.inl ⟨(C.tab e3).isCodeTable,rfl,#[],more,rfl,e2⟩)
theorem MM{l:PySem.W.OpenLaw}{n k:Nat}{q:Program}{loose:List Str}{XP:(Str→Option Value)→Heap→Prop}{YP:World→Heap→Prop}{d:DefRec}{K:Params→PySem.W.Frag}{sp:World→Sp}{x:Str}{ts:List (Addr×Addr)}
 (hn:l.most=some n) (hn2:n≤sizeLine) (hdf:d.params.defaults=[]) (hr:cO k callerA) (hq:importsNone q=true) (hgt:l.prog.given.tree=none)
 (hY:∀(w:World) (h:Heap),YP w h→(K w.params).In h∧KG (K w.params) ts h)
 (F:∀(w:World) (mg:Str→Option Value) (fa:Addr) (h:Heap),(K w.params).In h→h.Ns mainGlobals mg→mg d.name=some (.ref fa)→
   ∃fd:FuncData,(∀(s:Shared) (u:Value),BindsTo s fd ⟨[u],[]⟩ [(x,u)])∧
    ∀base:Heap,(K w.params).In base→base.Ns mainGlobals mg→a8 l.prog w (K w.params) mg base (fun _ _ _ _ _ _=>False) k fa fd [x] (sp w))
 (hsp:∀(w:World) (H:Hp) (a:Addr) (ns:List Int),ns.length≤n→Entry (K w.params) ts a ns H→sp w [.ref a] H (fun v _=>v= .bl true) fun _ _ _=>False):
 PySem.W.WalkO q loose XP YP l.row.toRowW d [] (fun f vs=>PySem.call f vs):=by
 refine Att.zM hn hdf fun w s₀ s₁ mg mb fa o pm cd doc a vs ns G Y ho hd hcd hmg hobj hints hlen hg=>?_
 obtain⟨KX,hT⟩:=hY w _ Y
 obtain⟨fd,hb,hF⟩:=F w mg fa _ KX G.T.g hmg
 exact CZ KX G.T.g G.T.b G.T.builtins G.T.nolimit (G.T.seer hq) hgt G.T.bmain hT hg hobj hints (Nat.le_trans hlen hn2) hr hF hb fun H hE=>hsp w H a ns hlen hE
end L2
namespace L3
open PySem PySem.Spec L2
open PyProof.Rows hiding St
section
variable {X:Cx}{pins:List (Addr×Obj)}{σ:L2.St}{H:Hp}{s:Shared}{p:Addr}{o o':Obj}{h':Heap}
theorem kC{t':Nat}(I:Inv X pins σ H s)(hd:∀v,o.data≠ .cell v)(hfr:o.isFreed=false:=by rfl):Inv X (pins++[(s.heap.objs.size,o)]) σ H {s with heap:=s.heap.push o,toks:=t'}:=by
 have I':=I.kept (h':=s.heap.push o) (t':=t') (fun b u e=>Heap.get?_push_of_some _ e)
 refine I'.sh fun q hq=>?_
 rcases List.mem_append.mp hq with hq|hq
 · exact I'.pin q (List.mem_append_right _ hq)
 · have e:q=(s.heap.objs.size,o):=by simpa using hq
   subst e
   exact⟨Heap.get?_push_size _ hfr,I.aN.fresh (Nat.le_refl _),Nat.ne_of_gt I.lt,I.JN (Nat.le_refl _),hd⟩
theorem fC(I:Inv X (pins++[(p,o)]) σ H s):s.heap.get? p=some o∧H p=none∧p≠X.env.locals∧p∉X.fs∧∀v,o.data≠ .cell v:=
 I.pin (p,o) (List.mem_append_right _ (List.mem_append_right _ (List.mem_singleton.mpr rfl)))
theorem zt(I:Inv X (pins++[(p,o)]) σ H s):∀x c,X.env.cells.lookup x=some c→c≠p:=fun x c e z=>by
 obtain⟨v,u,hu,hd⟩:=I.cell x c e
 obtain⟨h1,_,_,_,h5⟩:=fC I
 rw[z,h1]at hu;cases hu
 exact h5 v hd
theorem ni{t':Nat}(I:Inv X (pins++[(p,o)]) σ H s)(hs:Heap.SameBut p s.heap h')(hn:h'.get? p=some o')(hd:∀v,o'.data≠ .cell v)(h0:X.s₀.heap.objs.size≤p)(hp:∀q∈X.pn++pins,q.1≠p):
 Inv X (pins++[(p,o')]) σ H {s with heap:=h',toks:=t'}:=by
 obtain⟨_,n,neL,nfs,_⟩:=fC I
 have I0:Inv X pins σ H s:=I.gD
 have I1:=I0.turned (t':=t') (h':=h') (it:=p) (fun b u hb e=>(hs.2 b hb).trans e) n neL (.inr h0) (zt I) hp
 refine I1.sh fun q hq=>?_
 rcases List.mem_append.mp hq with hq|hq
 · exact I1.pin q (List.mem_append_right _ hq)
 · have e:q=(p,o'):=by simpa using hq
   subst e
   exact⟨hn,n,neL,nfs,hd⟩
theorem D6{u:HO}(I:Inv X (pins++[(p,o)]) σ H s)(h0:X.s₀.heap.objs.size≤p)(hp:∀q∈X.pn++pins,q.1≠p)(new:dv X.prog X.w (upd H p u) s.heap p u):Inv X pins σ (upd H p u) s:=by
 obtain⟨e0,n,neL,nfs,_⟩:=fC I
 have ne:∀ {b:Addr} {w:HO},H b=some w→b≠p:=fun e=>dm e n
 have ne0:∀ {b:Addr} {w:Obj},X.s₀.heap.get? b=some w→b≠p:=fun e=>Nat.ne_of_lt (Nat.lt_of_lt_of_le (Heap.lt_size e) h0)
 refine⟨I.ok,I.os,I.bare,⟨I.base.keep,I.base.slot,fun b w e q hx=>?_,I.base.there,fun b xs e=>?_,fun b w y e=>?_,fun b ps e=>?_⟩,I.loc,I.cell,?_,fun x c e=>?_,fun q hq=>?_,fun b w e=>?_,I.len⟩
 · rw[az (ne0 e)];exact I.base.free b w e q hx
 · have:=I.base.oO b xs e;rw[az (ne this)];exact this
 · have:=I.base.nA b w y e;rw[az (ne this)];exact this
 · obtain⟨m,q⟩:=I.base.nO b ps e
   exact⟨m,by rw[az (ne q)];exact q⟩
 · rw[az (Ne.symm neL)];exact I.free
 · rw[az (zt I x c e)];exact I.hZ x c e
 · have hq':q∈X.pn++(pins++[(p,o)]):=by
    rcases List.mem_append.mp hq with z|z
    · exact List.mem_append_left _ z
    · exact List.mem_append_right _ (List.mem_append_left _ z)
   obtain⟨a1,a2,a3⟩:=I.pin q hq'
   exact⟨a1,by rw[az (hp q hq)];exact a2,a3⟩
 · by_cases hb:b=p
   · subst hb;rw[aZ]at e;cases e;exact new
   · rw[az hb]at e
     exact(I.aN b w e).oN (fun _ _ _ q=>q) (fun c q=>by rw[az (ne q)];exact q) fun c xs q=>by rw[az (ne q)];exact q
end
noncomputable def mn(X:Cx)(pins:List (Addr×Obj))(σ:L2.St)(R:Hp→Prop)(own:List (Addr×Obj))(s:Shared):Prop:=∃H,Inv X (pins++own) σ H s∧R H
section
variable {X:Cx}{pins:List (Addr×Obj)}{σ:L2.St}{R:Hp→Prop}{s:Shared}{A:Around}{E:Value→Shared→Prop}{a kS:Addr}{e1 e:Nat}{keys:Array Value}{P:PySem.Fin→Shared→Prop}
structure Own(X:Cx)(pins:List (Addr×Obj))(p:Addr):Prop where
 ge:X.s₀.heap.objs.size≤p
 ne:∀q∈X.pn++pins,q.1≠p
theorem rR{H:Hp}(I:Inv X pins σ H s):Own X pins s.heap.objs.size:=⟨I.sz,fun q hq=>Nat.ne_of_lt (Heap.lt_size (I.pin q hq).1)⟩
theorem yE{p:Addr}{q:Addr×Obj}(h:Own X pins p)(hq:q.1≠p):Own X (pins++[q]) p:=⟨h.ge,fun r hr=>by
 rcases List.mem_append.mp hr with z|z
 · exact h.ne r (List.mem_append_left _ z)
 · rcases List.mem_append.mp z with z|z
   · exact h.ne r (List.mem_append_right _ z)
   · have e:r=q:=by simpa using z
     rw[e];exact hq⟩
theorem zo{x y:Addr×Obj}(J:mn X pins σ R [x,y] s):∃H,Inv X ((pins++[x])++[y]) σ H s∧R H:=by
 obtain⟨H,I,r⟩:=J
 exact⟨H,by rw[List.append_assoc];exact I,r⟩
theorem CT{x y:Addr×Obj}{H:Hp}(I:Inv X ((pins++[x])++[y]) σ H s)(r:R H):mn X pins σ R [x,y] s:=⟨H,by rw[List.append_assoc]at I;exact I,r⟩
theorem yH{st:SortSt}(J:mn X pins σ R [(a,seqObj "list" #[] e1),(kS,seqObj "list" keys e)] s)(ha:Own X pins a)(hk:Own X pins kS)(hka:kS≠a)(hz1:keys.size≤sizeLine)(hz2:(arrOf st).size≤sizeLine)(hf:failedOf st=none)
 (h:∀s' c,mn X pins σ R [(a,seqObj "list" ((arrOf st).map (·.2)) c)] s'→P (.done (.ret .none)) s'):
 wpAny (model X.prog X.w) A (PyProof.Rows.ksk_tail a false e1 (.ref kS) st) P E s:=by
 obtain⟨H,I,r⟩:=zo J
 have k1:=(fC I).1
 have s1:=Heap.SameBut.update s.heap kS (Obj.mapSeq fun _=>(#[]:Array Value))
 have I1:=ni (t':=s.toks) I s1 (get?_update_seq k1 fun _=> #[]) (fun v z=>by cases z) hk.ge (yE hk hka.symm).ne
 have I2:Inv X (pins++[(a,seqObj "list" #[] e1)]) σ H {s with heap:=s.heap.update kS (Obj.mapSeq fun _=>(#[]:Array Value)),toks:=s.toks}:=I1.gD
 have a1:=(fC I2).1
 have s2:=Heap.SameBut.update (s.heap.update kS (Obj.mapSeq fun _=>(#[]:Array Value))) a (Obj.mapSeq fun _=>(arrOf st).map (·.2))
 have I3:=ni (t':=s.toks) I2 s2 (get?_update_seq a1 fun _=>(arrOf st).map (·.2)) (fun v z=>by cases z) ha.ge ha.ne
 unfold ksk_tail
 simp only[Bool.false_eq_true,if_false]
 refine wpAny_bind (listUpdate_at k1 rfl ?_ hz1 (Nat.zero_le _))
 refine wpAny_bind (wpAny_letGo ?_)
 refine wpAny_bind (seqEpoch_at a1 rfl ?_)
 refine wpAny_bind (listUpdate_at a1 rfl ?_ (Nat.zero_le _) (Nat.le_succ_of_le (by rw[Array.size_map];exact hz2)))
 rw[hf]
 simp only[bne_self_eq_false,Bool.false_eq_true,if_false]
 exact wpAny_pure (h _ _ ⟨H,I3,r⟩)
noncomputable def BC(kz:List Int)(vs out:List Value):Prop:=
 ∃ps:List (Int×Value),ps.Perm (kz.zip vs)∧out=ps.map Prod.snd∧ps.Pairwise fun p q=>p.1<q.1∨(p.1=q.1∧numOf p.2<numOf q.2)
theorem Am{kz:List Int}{vs:List Value}(hk:IntsAre keys.toList kz){xs:Array Keyed}(hp:xs.Perm (keys.zip vs.toArray))(hs:iX xs xs.size):BC kz vs (xs.map (·.2)).toList:=by
 have hl:xs.toList.Perm (keys.toList.zip vs):=by rw[←ksk_zip];exact Array.perm_iff_toList_perm.mp hp
 refine⟨xs.toList.map fun p=>(numOf p.1,p.2),?_,?_,?_⟩
 · have e2:(keys.toList.zip vs).map (fun p:Keyed=>(numOf p.1,p.2))=kz.zip vs:=by
    rw[←hk.nums,List.zip_map_left]
    exact List.map_congr_left fun⟨x,y⟩ _=>rfl
   rw[←e2]
   exact hl.map _
 · rw[Array.toList_map,List.map_map];rfl
 · rw[List.pairwise_iff_getElem]
   intro i j hi hj hij
   have hi':i<xs.size:=by simpa using hi
   have hj':j<xs.size:=by simpa using hj
   have q:=hs i j hij hj'
   unfold lJ Jn at q
   rw[K_eq hi',K_eq hj',getElem?_pos xs i hi',getElem?_pos xs j hj']at q
   simpa using q
theorem HR{kz:List Int}{vs:List Value}(J:mn X pins σ R [(a,seqObj "list" #[] e1),(kS,seqObj "list" keys e)] s)(ha:Own X pins a)(hk:Own X pins kS)(hka:kS≠a)(hi:IntsAre keys.toList kz)(hl:kz.length=vs.length)(h64:vs.length<64)
 (hup:vs.Pairwise fun x y=>numOf x<numOf y)
 (h:∀s' out c,mn X pins σ R [(a,seqObj "list" out c)] s'→BC kz vs out.toList→P (.done (.ret .none)) s'):
 wpAny (model X.prog X.w) A (ksk_end a false vs.toArray e1 (.ref kS) keys) P E s:=by
 have hsz:keys.size=vs.length:=by have:=hi.length;rw[Array.length_toList]at this;omega
 have hzs:(keys.zip vs.toArray).size=vs.length:=by rw[Array.size_zip,hsz,List.size_toArray,Nat.min_self]
 have hbig:vs.length≤sizeLine:=Nat.le_trans (Nat.le_of_lt h64) (by decide)
 have hta:ie (keys.zip vs.toArray).size (keys.zip vs.toArray) 1:=fun i j hij _ hj=>by
  rw[hzs]at hj
  have e1:(keys.zip vs.toArray)[i]?=some (keys.toList[i]'(by rw[Array.length_toList];omega),vs[i]'(by omega)):=by
   rw[←Array.getElem?_toList,ksk_zip,List.getElem?_eq_getElem (by rw[List.length_zip,Array.length_toList];omega),List.getElem_zip]
  have e2:(keys.zip vs.toArray)[j]?=some (keys.toList[j]'(by rw[Array.length_toList];omega),vs[j]'(by omega)):=by
   rw[←Array.getElem?_toList,ksk_zip,List.getElem?_eq_getElem (by rw[List.length_zip,Array.length_toList];omega),List.getElem_zip]
  unfold Jn
  rw[e1,e2]
  exact List.pairwise_iff_getElem.mp hup i j (by omega) (by omega) hij
 unfold ksk_end
 simp only[Bool.false_eq_true,if_false]
 by_cases h2:vs.toArray.size<2
 · rw[if_pos h2,if_pos h2]
   refine wpAny_bind (wpAny_pure ?_)
   rw[StateT.run_pure]
   refine wpAny_bind (wpAny_pure ?_)
   refine yH (st:=SortSt.mk' general' (keys.zip vs.toArray) #[] 7 none) J ha hk hka (by omega) (by show(keys.zip vs.toArray).size≤_;omega) rfl fun s' c J'=>h s' _ c J' ?_
   refine Am hi (Array.Perm.refl _) fun i j hij hj=>?_
   have hj':j<(keys.zip vs.toArray).size:=hj
   rw[List.size_toArray]at h2
   omega
 · rw[if_neg h2,if_neg h2]
   rw[List.size_toArray]at h2
   rw[ksk_kind hi (by omega)]
   refine wpAny_bind (wpAny_pure ?_)
   refine wpAny_bind (wpAny_mono (CB (a₀:=keys.zip vs.toArray) (st:=SortSt.mk' oneType' (keys.zip vs.toArray) #[] 7 none)
    (Q:=fun _ st'=>(arrOf st').Perm (keys.zip vs.toArray)∧failedOf st'=none∧iX (arrOf st') (keys.zip vs.toArray).size)
    (ksk_intKeys hi) ⟨Array.Perm.refl _,rfl,rfl,rfl⟩ hta (by omega) (by omega) fun st' b1 b2 b3=>⟨b1,b2,b3⟩) ?_ fun _ _ z=>z)
   rintro⟨⟨⟩,st'⟩ s' ⟨rfl,hp,hf,hs⟩
   have hz2:=hp.size_eq
   refine yH (st:=st') J ha hk hka (by omega) (by rw[hz2];omega) hf fun s' c J'=>h s' _ c J' (Am hi hp (by rw[hz2];exact hs))
theorem ER{f:Value}{kz:List Int}{vs:List Value}(J:mn X pins σ R [(a,seqObj "list" #[] e1),(kS,seqObj "list" #[] 0)] s)(ha:Own X pins a)(hk:Own X pins kS)(hka:kS≠a)(hl:kz.length=vs.length)(h64:vs.length<64)
 (hup:vs.Pairwise fun x y=>numOf x<numOf y)
 (turn:∀(i:Nat) (v:Value) (k:Int),vs[i]?=some v→kz[i]?=some k→∀(own:List (Addr×Obj)) (s:Shared),mn X pins σ R own s→wpAny (model X.prog X.w) A (call f [v]) (fun u s'=>(∃t,u= .int k t)∧mn X pins σ R own s') (fun _ _=>False) s)
 (h:∀s' out c,mn X pins σ R [(a,seqObj "list" out c)] s'→BC kz vs out.toList→P (.done (.ret .none)) s'):
 wpAny (model X.prog X.w) A (ksk_rest a f false vs.toArray e1 (.ref kS)) P E s:=by
 have hbig:vs.length≤sizeLine:=Nat.le_trans (Nat.le_of_lt h64) (by decide)
 unfold ksk_rest
 refine wpAny_bind (wpAny_rule ?_)
 first
  |rw[List.forIn_toArray]
  |(rw[←Array.forIn_toList];simp only[List.toList_toArray])
  |rw[←Array.forIn_toList]
 refine wpAny_bind (ksk_fold (fun i s'=>∃kA e,mn X pins σ R [(a,seqObj "list" #[] e1),(kS,seqObj "list" kA e)] s'∧IntsAre kA.toList (kz.take i)) vs 0 s ⟨#[],0,J,by simpa using IntsAre.nil⟩ ?st ?en)
 case st=>
  rintro j x s' hx ⟨kA,e,J',hk'⟩
  simp only[Nat.zero_add]at hk'⊢
  have hj:j<vs.length:=(List.getElem?_eq_some_iff.mp hx).1
  have hkj:kz[j]?=some (kz[j]'(by omega)):=List.getElem?_eq_getElem _
  have hz:kA.size≤vs.length:=by
   have:=hk'.length
   rw[Array.length_toList,List.length_take]at this
   omega
  refine wpAny_bind (wpAny_attempt (wpAny_mono (turn j x _ hx hkj _ s' J') (fun v s2 he=>?_) fun _ _ z=>z.elim))
  obtain⟨⟨t,rfl⟩,J2⟩:=he
  obtain⟨H,I,r⟩:=zo J2
  have k1:=(fC I).1
  have s1:=Heap.SameBut.update s2.heap kS (Obj.mapSeq (·.push (.int (kz[j]'(by omega)) t)))
  have I1:=ni (t':=s2.toks) I s1 (get?_update_seq k1 (·.push (.int (kz[j]'(by omega)) t))) (fun v z=>by cases z) hk.ge (yE hk hka.symm).ne
  refine wpAny_bind (listUpdate_at k1 rfl ?_ (by omega) (Nat.le_trans (Nat.le_of_eq (Array.size_push ..)) (by omega)))
  refine wpAny_pure ⟨rfl,_,_,CT I1 r,?_⟩
  have ek:kz.take (j+1)=kz.take j++[kz[j]'(by omega)]:=by rw[List.take_add_one,hkj];simp
  rw[ek,Array.toList_push]
  exact ksk_snoc hk'
 case en=>
  rintro s' ⟨kA,e,J',hk'⟩
  rw[show kz.take (0+vs.length)=kz from List.take_of_length_le (by omega)]at hk'
  obtain⟨H,I,r⟩:=zo J'
  refine wpAny_bind (listItems_at (fC I).1 rfl ?_)
  exact HR J' ha hk hka hk' hl h64 hup h
theorem Cf{f:Addr}{l:Addr}{kz:List Int}{vs:List Value}{H:Hp}{Q:Value→Shared→Prop}(I:Inv X pins σ H s)(r:R H)(hli:s.heap.IsList l vs.toArray)(hl:kz.length=vs.length)(h64:vs.length<64)
 (hup:vs.Pairwise fun x y=>numOf x<numOf y)
 (turn:∀(i:Nat) (v:Value) (k:Int),vs[i]?=some v→kz[i]?=some k→∀(own:List (Addr×Obj)) (s:Shared),mn X pins σ R own s→wpAny (model X.prog X.w) A.in1.in1 (call (.ref f) [v]) (fun u s'=>(∃t,u= .int k t)∧mn X pins σ R own s') (fun _ _=>False) s)
 (h:∀D s' out c,Own X pins D→mn X pins σ R [(D,seqObj "list" out c)] s'→BC kz vs out.toList→Q (.ref D) s'):
 wpAny (model X.prog X.w) A (call (.builtin "sorted") [.ref l] [(Str.ofString "key",.ref f)]) Q E s:=by
 have hbig:vs.length≤sizeLine:=Nat.le_trans (Nat.le_of_lt h64) (by decide)
 refine call_function_entry_kw kind_sorted plain_sorted entry_sorted (ksk_s1 _ _) ?_
 unfold Builtin.«sorted»
 refine wpAny_bind (m:=checkCount "sorted" 1 1 _) (wpAny_pure ?_)
 refine wpAny_bind (collect_list hli ?_ hbig)
 have I1:=kC (o:=seqObj "list" #[] 0) (t':=s.toks) I (fun v z=>by cases z)
 have s1:=Heap.SameBut.update (s.heap.push (seqObj "list" #[] 0)) s.heap.objs.size (Obj.mapSeq (· ++vs.toArray))
 have I2:=ni (t':=s.toks) I1 s1 (get?_update_seq (fC I1).1 (· ++vs.toArray)) (fun v z=>by cases z) (rR I).ge (rR I).ne
 have I3:Inv X pins σ H {s with heap:=(s.heap.push (seqObj "list" #[] 0)).update s.heap.objs.size (Obj.mapSeq (· ++vs.toArray)),toks:=s.toks}:=I2.gD
 refine wpAny_bind (wpAny_newList ?_ hbig)
 generalize hs3:({s with heap:=(s.heap.push (seqObj "list" #[] 0)).update s.heap.objs.size (Obj.mapSeq (· ++vs.toArray))}:Shared)=s3
 have I3':Inv X pins σ H s3:=by rw[←hs3];exact I3
 have oD:=rR I3'
 have I4:=kC (o:=seqObj "list" vs.toArray 0) (t':=s3.toks) I3' (fun v z=>by cases z)
 have hD:=(fC I4).1
 refine wpAny_bind (wpAny_holding (wpAny_call_entry_kw slot_list_sort ⟨_,hD,rfl⟩ entry_list_sort ?body (ksk_l1 _ _)))
 case body=>
  show wpAny (model X.prog X.w) A.in1.in1 (Builtin.«list.sort» ⟨[.ref s3.heap.objs.size],[(Str.ofString "key",.ref f)]⟩) _ _ _
  rw[ksk_t1]
  unfold ksk_tree
  refine wpAny_bind (listItems_at hD rfl ?_)
  have s5:=Heap.SameBut.update (s3.heap.push (seqObj "list" vs.toArray 0)) s3.heap.objs.size (Obj.mapSeq fun _=>(#[]:Array Value))
  have I5:=ni (t':=s3.toks) I4 s5 (get?_update_seq hD fun _=> #[]) (fun v z=>by cases z) oD.ge oD.ne
  have hD5:=(fC I5).1
  refine wpAny_bind (listUpdate_at hD rfl ?_ (by rw[List.size_toArray];exact hbig) (Nat.zero_le _))
  refine wpAny_bind (seqEpoch_at hD5 rfl ?_)
  refine wpAny_bind (wpAny_newTuple ?_ (by show vs.length≤_;exact hbig))
  have I6:=(kC (o:=seqObj "tuple" vs.toArray 0) (t':=s3.toks) I5 (fun v z=>by cases z)).gD
  refine wpAny_bind (wpAny_newList ?_ (Nat.zero_le _))
  have ok:=rR I6
  have I7:=kC (o:=seqObj "list" #[] 0) (t':=s3.toks) I6 (fun v z=>by cases z)
  refine wpAny_holding ?_
  have okp:Own X pins _:=⟨ok.ge,fun q hq=>ok.ne q (by
   rcases List.mem_append.mp hq with z|z
   · exact List.mem_append_left _ z
   · exact List.mem_append_right _ (List.mem_append_left _ z))⟩
  refine ER (CT I7 r) oD okp (fun z=>ok.ne (s3.heap.objs.size,_) (List.mem_append_right _ (List.mem_append_right _ (List.mem_singleton.mpr rfl))) z.symm) hl h64 hup turn fun s' out c J' so=>⟨_,rfl,?_⟩
  exact wpAny_pure ⟨_,rfl,h _ s' out c oD J' so⟩
end
end L3
namespace L3
open PySem PySem.Spec L2
open PyProof.Rows hiding St
structure mq(X:Cx)(scope:Scope)(Nc:List Str)(fr:List (Option Nat))(p:Str):Prop where
 sc:bz X scope Nc fr
 DB:∀x∈scope.names,x.2≠ .cell
 co:scope.isCoroutine=false
 gen:scope.isGenerator=false
 p0:Nc[0]?=some p
 f0:fr[0]?=some none
 loc:scope.names.lookup p=some .local
noncomputable abbrev Ci(X:Cx)(scope:Scope)(qual:Str)(f c:Addr)(s:Shared):Env:=PySem.W.envX qual scope s.heap.objs.size f (.ref c) (c9 X.env.cells scope.names [])
noncomputable def Ck(X:Cx)(scope:Scope)(Nc:List Str)(qual:Str)(f c:Addr)(s:Shared)(H:Hp):Cx:=
 {X with A:=X.A.in1.in1.deeper (Ci X scope qual f c s),N:=Nc,s₀:=s,H₀:=H,env:=Ci X scope qual f c s,outer:=X.stack,stack:=Ci X scope qual f c s::X.stack,ex:=[],fn:=fun _=>false,calm:=true,pn:=[],xe:=fun _ _=>False}
section
variable {X:Cx}{scope:Scope}{Nc:List Str}{fr:List (Option Nat)}{p qual:Str}{f c:Addr}{pins:List (Addr×Obj)}{σ:L2.St}{H:Hp}{s:Shared}
theorem KQ(S:mq X scope Nc fr p)(I:Inv X pins σ H s)(hc:X.calm=true):(Ck X scope Nc qual f c s H).Ok where
 mod:=I.ok.mod
 kind:=S.sc.kind
 glob:=rfl
 blt:=rfl
 above:=Nat.le_refl _
 inj:=fun x y a h1 h2=>I.ok.inj x y a (cP _ [] (fun _ _ e=>by cases e) x a h1) (cP _ [] (fun _ _ e=>by cases e) y a h2)
 has:=fun x hx=>by
  have hx':scope.names.lookup x=some .cell∨scope.names.lookup x=some .free:=hx
  rcases hx' with hx|hx
  · exact absurd rfl (S.DB _ (PySem.mem_of_lookup hx))
  · exact iA scope.names [] (I.ok.has x (S.sc.free _ (PySem.mem_of_lookup hx) rfl)) (.inl (PySem.mem_of_lookup hx))
 ym:=fun x a hf _=>by cases hf
 hd:=fun _=>I.ok.hd hc
 frames:=Around.frames_deeper (by show X.A.frames=_;exact I.ok.frames)
 Ah:= .inr ⟨rfl,rfl⟩
 D7:=fun b hb=>by cases hb
 bs:=I.bs
 qD:=Nat.le_trans I.ok.qD I.sz
 tL:=fun b o e hb=>by cases hb
 tU:=fun b hb=>by cases hb
 ka:=I.stack
 uU:=I.vT
 gt:=I.ok.gt
theorem G8{h':Heap}{t':Nat}{v:V}{u:Value}(S:mq X scope Nc fr p)(I:Inv X pins σ H s)(hc:X.calm=true)(r:RelV v u)(hn:h'.Ns s.heap.objs.size (fun x=>[(p,u)].reverse.lookup x))
 (k:∀b o,s.heap.get? b=some o→h'.get? b=some o):Inv (Ck X scope Nc qual f c s H) [] ((σC fr σ).set 0 (some v)) H {s with heap:=h',toks:=t'} where
 ok:=KQ S I hc
 os:=rfl
 bare:=I.bare
 base:=Un.kept k
 loc:=⟨_,hn,fun i x w h1 h2 h3=>by
  by_cases hi:i=0
  · subst hi
    have hp:=S.p0
    have e:p=x:=Option.some.inj (hp.symm.trans h1)
    subst e
    have hl:0<(σC fr σ).length:=by
     have:=(List.getElem?_eq_some_iff.mp h2).1
     rw[List.length_set]at this;exact this
    rw[List.getElem?_set_self hl]at h2
    cases h2
    exact⟨u,r,.inl ⟨S.loc,by simp⟩⟩
  · rw[List.getElem?_set_ne (Ne.symm hi)]at h2
    obtain⟨j,q1,q2⟩:=Aq h2
    obtain⟨n1,n2,n3⟩:=S.sc.map i j x h1 q1
    obtain⟨m,hm,hl⟩:=I.loc
    obtain⟨u',r',lk⟩:=hl j x w n1 q2 (n3.elim (fun z=> .inr (.inl z)) fun z=> .inr (.inr z))
    refine⟨u',r',?_⟩
    rcases lk with⟨z,_⟩|⟨_,a,e,ic⟩
    · rcases n3 with y|y<;>(rw[y]at z;cases z)
    · obtain⟨a',e'⟩:=iA scope.names [] ⟨a,e⟩ (.inl (PySem.mem_of_lookup n2))
      have e2:=cP _ [] (fun _ _ e=>by cases e) x a' e'
      rw[e]at e2;cases e2
      exact .inr ⟨.inr n2,a,e',ic.keeps k⟩⟩
 cell:=fun x a h=>by
  obtain⟨v,q⟩:=I.cell x a (cP _ [] (fun _ _ e=>by cases e) x a h)
  exact⟨v,q.keeps k⟩
 free:=I.aN.fresh (Nat.le_refl _)
 hZ:=fun x a h=>I.hZ x a (cP _ [] (fun _ _ e=>by cases e) x a h)
 pin:=fun q hq=>by cases hq
 aN:=I.aN.kept k
 len:=by rw[List.length_set];unfold σC;rw[List.length_map];exact S.sc.len
theorem EN{R:Hp→Prop}{params:Arguments}{body:Expr}{tb:TE}{own:List (Addr×Obj)}{k:Int}{v:V}{u pm ctv:Value}(S:mq X scope Nc fr p)(hc:X.calm=true)(hr:X.A.depth<recursionLimit)
 (hb:∀(s:Shared) (H:Hp),PE (Ck X scope Nc qual f c s H) body tb)
 (hbind:∀(cl:List (Str×Addr)) (pm cd ct v:Value),bindArgs (PySem.W.kla_fn "<lambda>" qual params body scope cl pm cd ct) ⟨[v],[]⟩=pure [(p,v)])
 (r:RelV v u) (hf:(f,PySem.W.kla_obj "<lambda>" qual params body scope (c9 X.env.cells scope.names []) pm c ctv)∈pins)
 (hcr:∀(H:Hp) (s:Shared),Inv X (pins++own) σ H s→R H→s.heap.CodeRec (.ref c) qual)
 (hq:∀H,R H→tb ((σC fr σ).set 0 (some v)) H fun x H'=>x= .int k∧R H') (J:mn X pins σ R own s):
 wpAny (model X.prog X.w) X.A.in1.in1 (call (.ref f) [u]) (fun u' s'=>(∃t,u'= .int k t)∧mn X pins σ R own s') (fun _ _=>False) s:=by
 obtain⟨H,I,rH⟩:=J
 have ho:=(I.pin _ (List.mem_append_right _ (List.mem_append_left _ hf))).1
 refine wpAny_call (PySem.W.kla_callFunE (fd:=PySem.W.kla_fn "<lambda>" qual params body scope (c9 X.env.cells scope.names []) pm (.ref c) ctv) (by show X.A.depth<_;exact hr) ho rfl S.co S.gen rfl (hcr H s I rH) ?_)
 rw[hbind]
 refine wpAny_pure (wpAny_newFunctionEnv S.DB (fun y hy=>by
  have e:y=(p,u):=by simpa using hy
  rw[e];exact S.loc) (fun h₁ hns hsb=>?_) S.sc.kind)
 have hk:∀b o,s.heap.get? b=some o→h₁.get? b=some o:=fun b o e=>hsb.extBut b o (Nat.ne_of_lt (Heap.lt_size e)) (Heap.get?_push_of_some _ e)
 refine⟨I.nolimit.keeps hk,?_⟩
 show codeAny _ X.A.in1.in1 (.expr body (Ci X scope qual f c s)) _ _
 refine PySem.W.kla_codeExpr (wpAny_mono (hb s H [] _ _ H _ (G8 S I hc r hns hk) (hq H rH)) (fun w s' he=>?_) fun e s' z=>False.elim z)
 obtain⟨x,H',I',rx,rfl,rH'⟩:=he
 exact⟨rx,H',I.Cg (s':=s') (ch:=[]) I'.os I'.base I'.aN I'.bare (fun b z=>absurd z (by simp)),rH'⟩
theorem set_same{α:Type}:∀ {l:List α} {n:Nat} {x:α},l[n]?=some x→l.set n x=l
 | [],n,x,h=>by simp at h
 |a::l,0,x,h=>by simp at h;subst h;rfl
 |a::l,n+1,x,h=>by
  rw[List.set_cons_succ,set_same (n:=n) (by simpa using h)]
theorem EF{params:Arguments}{body:Expr}{lpos:Pos}{c0 T:Addr}{α:List (Option Addr)}{G F:Hp}{st:ag}{n0:Nat}{b:Bool}{E:Value→Shared→Prop}{Q:Value→Shared→Prop}(S:mq X scope Nc fr p)(hcode:X.env.code= .ref c0)(hC:PySem.W.codeHdIn X.K c0 T=true)
 (hdef:defaultsOf params X.env=([],[])) (hql:X.env.qual++"<lambda>"=qual) (I:Inv X pins σ H s) (Sp:b_ G F H) (SR:aS α st G) (hn0:st[n0]?=some (.tab T lpos qual b))
 (h:∀(f c:Addr) (ctv pm:Value) (G2 H2:Hp) (s2:Shared),Inv X (pins++[(f,PySem.W.kla_obj "<lambda>" qual params body scope (c9 X.env.cells scope.names []) pm c ctv)]) σ H2 s2→Step α G α G2→b_ G2 F H2→aS α (st.set n0 (.tab T lpos qual true)) G2→
   (some c∉α∧∃o vs t,G2 c=some (.gb o (.own c))∧o.data= .fields vs∧vs[1]?=some (.str qual t))→Q (.ref f) s2):
 wpAny (model X.prog X.w) X.A (eval (.Lambda params body scope lpos) X.env) Q E s:=by
 refine PySem.W.kla_eval hdef ?_
 rw[hql]
 rcases SR.at' n0 _ hn0 with⟨z,_⟩|⟨a,ha,rfl,ps,gP,tr,cs⟩
 · cases z
 have hP:=I.aN a _ (Sp.get gP)
 have hP:s.heap.get? a=some (PySem.W.tabObj ps):=hP
 have hg:s.heap.Ns mainGlobals X.mg:=I.mod.glob.keeps I.bk
 obtain⟨bm,ob,b1,b2,b3,b4,b5,b6⟩:=I.mod.bmain
 have b3':=I.bk _ _ b3
 have hgP:mainGlobals≠a:=fun q=>by
  obtain⟨o,es,ep,e,hd,_⟩:=hg
  rw[q,hP]at e;cases e;cases hd
 have n1:bm≠mainGlobals:=fun q=>by
  obtain⟨o,es,ep,e,hd,_⟩:=hg
  rw[q,e]at b3';cases b3';rw[hd]at b6;cases b6
 have n2:bm≠a:=fun q=>by rw[q,hP]at b3';cases b3';cases b4
 have hB:s.heap.BuiltinsAt X.mg a:=⟨bm,ob,b1,b2,n1,n2,b3',b4,b5,b6⟩
 have hcl:closureFor scope X.env=pure (c9 X.env.cells scope.names []):=l_ fun x hx hk=>I.ok.has x.1 (S.sc.free x hx hk)
 have C:PySem.W.CodeHd s.heap c0 a:=PySem.W.codeHd_of_K I.gB hC
 rcases cs with⟨rfl,hnf⟩|⟨rfl,c,o,vs,t,q1,q2,q3,q4,q5⟩
 · refine PySem.W.kla_makeFunction hcl I.ok.glob hg hcode C hP tr hnf hgP hB fun c' ctv h' tk hx hge hlt hrec htb=>?_
   obtain⟨c2,oc,vs,t,e2,hoc,hd,hv⟩:=hrec
   cases e2
   have hHc:H c'=none:=I.aN.fresh hge
   have hGc:G c'=none:=(Sp.none hHc).1
   have hHa:H a=some (.jC ps):=Sp.get gP
   have hac:a≠c':=dm hHa hHc
   let ps':=ps++ #[rawInt lpos.line,rawInt lpos.col,.ref c']
   have nb:∀ {b:Addr},H b=none→b≠a:=fun e z=>by rw[z,hHa]at e;cases e
   have I1:Inv X pins σ (upd (upd H c' (.gb oc (.own c'))) a (.jC ps')) {s with heap:=h',gens:=s.gens,drawn:=s.drawn,toks:=tk}:=by
    have old:∀ {b:Addr} {u:HO},H b=some u→b≠a→upd (upd H c' (.gb oc (.own c'))) a (.jC ps') b=some u:=fun e n=>by rw[az n,az (dm e hHc)];exact e
    refine I.step (ch:=[]) (fun _ z=>nomatch z) (fun b o _ _ _ e n=>hx b o (nb n) e) (fun b o _ _ _ e n=>⟨o.slots,hx b o (nb n) e⟩) (fun b o _ e n=>?_) (fun b o _ e=>?_) (fun b xs e=>?_) (fun b o u e=>?_) (fun b qs e=>?_) (fun m hm=>?_) (fun b u e=>?_) I.bare
    · rw[az (nb n),az (Nat.ne_of_lt (Nat.lt_of_lt_of_le (Heap.lt_size e) hge))];exact n
    · by_cases hb:b=a
      · exact⟨_,by rw[hb];exact htb⟩
      · exact⟨o,hx b o hb e⟩
    · exact old e fun z=>by rw[z,hHa]at e;cases e
    · exact old e fun z=>by rw[z,hHa]at e;cases e
    · by_cases hb:b=a
      · subst hb
        rw[hHa]at e;cases e
        exact⟨_,aZ⟩
      · exact⟨#[],by rw[old e hb];simp⟩
    · obtain⟨o,es,ep,ho,r⟩:=hm
      exact⟨o,es,ep,hx _ o (nb I.free) ho,r⟩
    · by_cases hb:b=a
      · subst hb;rw[aZ]at e;cases e;exact htb
      · rw[az hb]at e
        by_cases hbc:b=c'
        · subst hbc;rw[aZ]at e;cases e;exact⟨hoc,_,hoc⟩
        · rw[az hbc]at e
          refine(I.aN b u e).oN (fun d w hd q=>hx d w ?_ q) (fun d q=>old q fun z=>by rw[z,hHa]at q;cases q) fun d xs q=>old q fun z=>by rw[z,hHa]at q;cases q
          rcases hd with rfl|hd
          · exact hb
          · intro z;rw[z,hHa]at hd;cases hd
   have I2:=kC (o:=PySem.W.kla_obj "<lambda>" qual params body scope (c9 X.env.cells scope.names []) ((X.mg "__name__").getD .none) c' ctv) (t':=tk) I1 (fun v z=>by cases z)
   have gP':upd G c' (.gb oc (.own c')) a=some (.jC ps):=by rw[az hac];exact gP
   refine h _ c' ctv _ (upd (upd G c' (.gb oc (.own c'))) a (.jC ps')) _ _ I2 ((Step.laid hGc).trans (Step.write (List.mem_of_getElem? ha))) ((Sp.laid hHc).write gP') ((SR.laid hGc).write ha ⟨rfl,ps',aZ,?_,.inr ⟨rfl,c',oc,vs,t,?_,SR.jM hGc,?_,hd,hv⟩⟩) ⟨SR.jM hGc,oc,vs,t,?_,hd,hv⟩
   · show TriplesOk (ps++ #[rawInt lpos.line,rawInt lpos.col,.ref c']).toList
     rw[Array.toList_append]
     exact TriplesOk_snoc _ _ _ _ tr
   · show codeAmong lpos (ps++ #[rawInt lpos.line,rawInt lpos.col,.ref c']).toList=_
     rw[Array.toList_append]
     exact codeAmong_snoc _ tr hnf
   · rw[az hac.symm,aZ]
   · rw[az hac.symm,aZ]
 · refine PySem.W.kla_makeFunctionHit hcl I.ok.glob hg hcode C hP tr q1 hB fun ctv h' tk hk hsz=>?_
   have I1:=I.kept (t':=tk) hk
   have I2:=kC (o:=PySem.W.kla_obj "<lambda>" qual params body scope (c9 X.env.cells scope.names []) ((X.mg "__name__").getD .none) c ctv) (t':=tk) I1 (fun v z=>by cases z)
   refine h _ c ctv _ G H _ I2 Step.refl Sp (by rw[set_same hn0];exact SR) ⟨q2,o,vs,t,q3,q4,q5⟩
end
noncomputable def slt(p q:Int×Int):Prop:=p.1<q.1∨(p.1=q.1∧p.2<q.2)
noncomputable def yl(n0:Nat)(T:Addr)(lpos:Pos)(qual:Str)(fr:List (Option Nat))(tb te:DE):DE:=fun σ st K=>te σ st fun d st1=>∃(ns ks:List Int) (b:Bool),d= .lst (ns.map .int)∧ns.length<64∧ns.Pairwise (· < ·)∧ks.length=ns.length∧
 st1[n0]?=some (.tab T lpos qual b)∧(∀(i:Nat) (n k:Int),ns[i]?=some n→ks[i]?=some k→tb ((gu fr σ).set 0 (some (.int n))) (st1.set n0 (.tab T lpos qual true)) fun v st2=>v= .int k∧st2=st1.set n0 (.tab T lpos qual true))∧
 ∀os:List (Int×Int),os.Perm (ks.zip ns)→os.Pairwise slt→K (.lst (os.map fun p=> .int p.2)) (st1.set n0 (.tab T lpos qual true))
theorem yD{α:List (Option Addr)}{H:Hp}:∀ {ns:List Int} {vs:List V},aL α H (ns.map D.int) vs→vs=ns.map V.int
 | [],vs,h=>by unfold aL at h;exact h
 |n::ns,vs,h=>by
  unfold aL at h
  obtain⟨v,r,rfl,h1,h2⟩:=h
  unfold Rep at h1
  rw[h1,yD h2];rfl
theorem yx{α:List (Option Addr)}{H:Hp}:∀(ns:List Int),aL α H (ns.map D.int) (ns.map V.int)
 | []=>by unfold aL;rfl
 |n::ns=>by unfold aL;exact⟨_,_,rfl,by unfold Rep;rfl,yx ns⟩
theorem za:∀ {ns:List Int} {us:List Value},Vals (ns.map V.int) us→IntsAre us ns
 | [],_,.nil=> .nil
 |n::ns,_,.cons ⟨t,rfl⟩ h=> .cons n t (za h)
section
variable {X:Cx}{scope:Scope}{Nc:List Str}{fr:List (Option Nat)}{p x qual:Str}{params:Arguments}{e body:Expr}{te tb:DE}{lpos kpos pos ppos:Pos}{c0 T:Addr}{n0:Nat}
theorem Hy(S:mq X scope Nc fr p)(hc:X.calm=true)(hr:cO 2 X.A)(hcode:X.env.code= .ref c0)(hC:PySem.W.codeHdIn X.K c0 T=true)(hdef:defaultsOf params X.env=([],[]))(hql:X.env.qual++"<lambda>"=qual)
 (hbind:∀(cl:List (Str×Addr)) (pm cd ct v:Value),bindArgs (PySem.W.kla_fn "<lambda>" qual params body scope cl pm cd ct) ⟨[v],[]⟩=pure [(p,v)])
 (hb:∀(f c:Addr) (s:Shared) (H:Hp),PE (Ck X scope Nc qual f c s H) body (LE tb)) (ha:PA X [e] (LA (af te ak)))
 (hg:Gl X "sorted") (hm:X.mg "sorted"=none) (hv:bootBuiltins "sorted"=some (.builtin "sorted"))
 (he:backTo pos (starEach [e] X.env)=(false,eval e X.env)::backTo pos (starEach [] X.env):=by rfl) (hpl:(backTo pos (starEach [e] X.env)).any (·.1)=false:=by rfl):
 PE X (.Call (.Name "sorted" ppos) [e] [⟨some "key",.Lambda params body scope lpos,kpos⟩] pos) (LE (yl n0 T lpos qual fr tb te)):=by
 intro pins s σ H Q I h
 obtain⟨α,σd,st,K,G,F,Sp,RS,SR,t,k⟩:=h
 refine wpAny_Call_Name_kw (jT I hg hm hv ?_)
 refine callWith_kw ?_ he hpl
 let K1:DK:=fun d st1=>∃(ns ks:List Int) (b:Bool),d= .lst (ns.map .int)∧ns.length<64∧ns.Pairwise (· < ·)∧ks.length=ns.length∧
  st1[n0]?=some (.tab T lpos qual b)∧(∀(i:Nat) (n k:Int),ns[i]?=some n→ks[i]?=some k→tb ((gu fr σd).set 0 (some (.int n))) (st1.set n0 (.tab T lpos qual true)) fun v st2=>v= .int k∧st2=st1.set n0 (.tab T lpos qual true))∧
  ∀os:List (Int×Int),os.Perm (ks.zip ns)→os.Pairwise slt→K (.lst (os.map fun p=> .int p.2)) (st1.set n0 (.tab T lpos qual true))
 refine bR (ha pos pins s σ H (fun vs H1=>∃d v st1 α1 G1,vs=[v]∧K1 d st1∧Step α G α1 G1∧b_ G1 F H1∧aS α1 st1 G1∧Rep α1 G1 d v) I
  ⟨α,σd,st,fun ds st1=>match ds with| [d]=>K1 d st1|_=>False,G,F,Sp,RS,SR,t,fun ds st1 q α1 G1 H1 vs s1 P1 S1 r1=>?_⟩) fun us s1 ⟨vs,H1,I1,rv,d,v,st1,α1,G1,hvs,kd,s1',P1,S1,r1⟩=>?_
 · match ds,q,r1 with
   | [d],q,r1=>
     unfold aL at r1
     obtain⟨v,r,rfl,h1,h2⟩:=r1
     unfold aL at h2
     subst h2
     exact⟨d,v,st1,α1,G1,rfl,q,s1,P1,S1,h1⟩
 subst hvs
 obtain⟨ns,ks,b,rfl,h64,hup,hlen,hn0,hkey,hK⟩:=kd
 show wpAny _ _ (evalAll ((do let v ←eval (.Lambda params body scope lpos) X.env;standAt pos;pure v)::[])) _ _ s1
 refine wpAny_evalAll_cons (wpAny_bind (EF S hcode hC hdef hql I1 P1 S1 hn0 fun f c ctv pm G2 H2 s2 I2 st2 P2 S2 ⟨hc1,o,vs,tq,hc2,hc3,hc4⟩=>wpAny_bind (wpAny_standAt (wpAny_pure (wpAny_evalAll_nil ?_)))))
 have r2:=r1.step st2
 unfold Rep at r2
 obtain⟨l,xs,rfl,hl1,hl2,hl3⟩:=r2
 have exs:=yD hl3
 subst exs
 cases rv with
 |cons ru rn=>
  cases rn
  cases ru
  have hrd:Rd H2 l (.lst (ns.map V.int)):=by
   rcases hl2 with z|⟨w,z⟩
   · exact .inl (P2.get z)
   · exact .inr ⟨w,P2.get z⟩
  obtain⟨_,its,nn,vv,hobj⟩:=hrd.ok I2.aN
  have hints:=za vv
  have hlen2:=hints.length
  have key:∀(H':Hp),(∃α' G',Step α1 G2 α' G'∧b_ G' F H'∧aS α' (st1.set n0 (.tab T lpos qual true)) G')→H' c=some (.gb o (.own c)):=fun H' ⟨α',G',q1,q2,q3⟩=>q2.get (q1.ext c _ hc1 hc2)
  show wpAny _ _ (call (.builtin "sorted") [.ref l] [(Str.ofString "key",.ref f)]) _ _ _
  refine Cf (X:=X) (pins:=pins++[(f,PySem.W.kla_obj "<lambda>" qual params body scope (c9 X.env.cells scope.names []) pm c ctv)]) (R:=fun H'=>∃α' G',Step α1 G2 α' G'∧b_ G' F H'∧aS α' (st1.set n0 (.tab T lpos qual true)) G') (kz:=ks) (vs:=its)
   I2 ⟨α1,G2,Step.refl,P2,S2⟩ ⟨_,hobj,rfl,nn,rfl⟩ (by omega) (by omega) ?_ (fun i u kk hu hk own s' J=>?_) fun D s' out cc oD J so=>?_
  · rw[←List.pairwise_map,hints.nums];exact hup
  · have hi:i<ns.length:=by
     have:=(List.getElem?_eq_some_iff.mp hu).1
     omega
    obtain⟨tt,ht⟩:=hints.get i ns[i] (List.getElem?_eq_getElem hi)
    have ht:some u=some (Value.int ns[i] tt):=by rw[←hu];exact ht
    cases ht
    refine EN (v:= .int ns[i]) (u:= .int ns[i] tt) S hc (by have:=hr.dp;omega) (hb f c) hbind ⟨tt,rfl⟩ (List.mem_append_right _ (List.mem_singleton.mpr rfl)) (fun H' s'' J' r'=>?_) (fun H' r'=>?_) J
    · have q:=J'.aN c _ (key H' r')
      exact⟨c,o,vs,tq,rfl,q.1,hc3,hc4⟩
    · obtain⟨α',G',q1,q2,q3⟩:=r'
      refine⟨α',(gu fr σd).set 0 (some (.int ns[i])),_,_,G',F,q2,?_,q3,hkey i ns[i] kk (List.getElem?_eq_getElem hi) hk,fun d' st' hd α'' G'' H'' v' s'' P'' S'' r''=>?_⟩
      · exact((RS.step ((s1'.trans st2).trans q1)).comp).set 0 (by unfold Rep;rfl)
      · obtain⟨rfl,rfl⟩:=hd
        unfold Rep at r''
        exact⟨r'',α'',G'',q1.trans s'',P'',S''⟩
  · obtain⟨H',I',α',G',q1,q2,q3⟩:=J
    obtain⟨ps,hp,ho,hs⟩:=so
    have hps:∀q∈ps,∃t,q.2= .int (numOf q.2) t:=fun q hq=>by
     have h1:=hp.mem_iff.mp hq
     have h2:q.2∈its:=(List.of_mem_zip (show(q.1,q.2)∈ks.zip its from h1)).2
     obtain⟨n,t,e⟩:=hints.all _ h2
     exact⟨t,by rw[e];rfl⟩
    have hos:(ps.map fun q=>(q.1,numOf q.2)).Perm (ks.zip ns):=by
     have h1:=hp.map fun q:Int×Value=>(q.1,numOf q.2)
     have e:(ks.zip its).map (fun q:Int×Value=>(q.1,numOf q.2))=ks.zip ns:=by
      rw[←hints.nums,List.zip_map_right]
      exact List.map_congr_left fun⟨a,b⟩ _=>rfl
     rw[e]at h1;exact h1
    have hpw:(ps.map fun q=>(q.1,numOf q.2)).Pairwise slt:=by rw[List.pairwise_map];exact hs
    have kk:=hK _ hos hpw
    rw[List.map_map]at kk
    have hD0:=fC I'
    have vout:Vals ((ps.map fun q=>numOf q.2).map V.int) out.toList:=by
     rw[ho]
     clear hos hpw kk hs hp ho
     induction ps with
     |nil=>exact .nil
     |cons q r ih=>
      obtain⟨t,e⟩:=hps q (List.mem_cons_self ..)
      exact .cons ⟨t,e⟩ (ih fun z hz=>hps z (List.mem_cons_of_mem _ hz))
    have hlo:(ps.map fun q=>numOf q.2).length≤sizeLine:=by
     rw[List.length_map,hp.length_eq,List.length_zip]
     exact Nat.le_trans (Nat.min_le_left _ _) (Nat.le_trans (show ks.length≤64 by omega) (by decide))
    have I3:=D6 (u:= .lst ((ps.map fun q=>numOf q.2).map V.int)) I' oD.ge oD.ne ⟨by rw[List.length_map];exact hlo,out.toList,cc,vout,hD0.1⟩
    have hG:=(q2.none hD0.2.1).1
    refine⟨.ref D,_,I3.gD,rfl,k _ _ kk α' _ _ _ ((s1'.trans st2).trans (q1.trans (Step.laid hG))) (q2.laid hD0.2.1) (q3.laid hG) ?_⟩
    unfold Rep
    refine⟨D,_,rfl,q3.jM hG,.inl aZ,?_⟩
    have e:List.map ((fun p:Int×Int=>L3.D.int p.snd)∘fun q:Int×Value=>(q.fst,numOf q.snd)) ps=(ps.map fun q=>numOf q.2).map L3.D.int:=by rw[List.map_map];rfl
    rw[e]
    exact yx _
end
end L3
namespace L3
open PySem L2
open PySem.Spec hiding items?
open PyProof.Rows hiding St
noncomputable def Ey(sc:Scope)(N gl:List Str):Bool:=
 N.all (fun x=>(sc.names.lookup x==some .local||sc.names.lookup x==some .cell)&&x != "__debug__"&&x != "__classdict__")&&gl.all (fun x=>sc.names.lookup x==some .globalImplicit&&x != "__debug__")
structure VS(sc:Scope)(N gl:List Str):Prop where
 ok:Ey sc N gl=true
theorem VS.at_{sc:Scope}{N gl:List Str}(V:VS sc N gl){i:Nat}{x:Str}(h:N[i]?=some x):Loc sc x∧(x==("__debug__":Str))=false∧(x==("__classdict__":Str))=false:=by
 have o:=V.ok
 unfold Ey at o
 have:=List.all_eq_true.mp (Bool.and_eq_true_iff.mp o).1 x (List.mem_of_getElem? h)
 simp only[Bool.and_eq_true,Bool.or_eq_true,beq_iff_eq,bne_iff_ne,ne_eq]at this
 exact⟨this.1.1,beq_false_of_ne this.1.2,beq_false_of_ne this.2⟩
theorem VS.Nm{sc:Scope}{N gl:List Str}(V:VS sc N gl){i:Nat}{x:Str}(h:gl[i]?=some x):sc.names.lookup x=some .globalImplicit∧(x==("__debug__":Str))=false:=by
 have o:=V.ok
 unfold Ey at o
 have:=List.all_eq_true.mp (Bool.and_eq_true_iff.mp o).2 x (List.mem_of_getElem? h)
 simp only[Bool.and_eq_true,beq_iff_eq,bne_iff_ne,ne_eq]at this
 exact⟨this.1,beq_false_of_ne this.2⟩
section
variable {X:Cx}{sc:Scope}{N gl:List Str}{x:Str}{pos:Pos}
theorem VS.nm(V:VS X.env.scope X.N gl)(i:Nat)(h:X.N[i]?=some x:=by rfl):JE X (.Name x pos) (ae i):=
 let q:=V.at_ h
 DN q.2.1 q.2.2 (q.1.elim .inl fun z=> .inr (.inl z)) h
theorem VS.l(V:VS sc N gl)(i:Nat)(h:N[i]?=some x:=by rfl):Loc sc x:=(V.at_ h).1
theorem VS.g(V:VS sc N gl)(i:Nat)(h:gl[i]?=some x:=by rfl):sc.names.lookup x=some .globalImplicit:=(V.Nm h).1
theorem VS.d(V:VS sc N gl)(i:Nat)(h:gl[i]?=some x:=by rfl):(x==("__debug__":Str))=false:=(V.Nm h).2
theorem cR{n:Nat}(hN:X.N[n]?=some x:=by rfl)(hd:((x==("__debug__":Str))||(x==("__classdict__":Str)))=false:=by decide+kernel)
 (hv:yT X.env.scope x:=by first|exact Or.inl rfl|exact Or.inr (Or.inl rfl)|exact Or.inr (Or.inr rfl)):JE X (.Name x pos) (ae n):=
 DN (Bool.or_eq_false_iff.mp hd).1 (Bool.or_eq_false_iff.mp hd).2 hv hN
@[irreducible] noncomputable def lH:cT:=sL (fun _ j=>j≠0) fun i j=> .int (i.fdiv j)
theorem se{k:Nat}(hr:cO k X.A)(hs:X.stack=X.env::X.outer)(hgen:X.env.scope.isGenerator=false)(hco:X.env.scope.isCoroutine=false):bL X (binaryOp .FloorDiv) (LR lH):=by
 unfold lH
 refine jO (g':=fun i j=> .int (i.fdiv j)) (fun _ _ _ _=>by unfold Rep;rfl) ?_
 intro pins s σ H x y v u Q I rx ry h
 obtain⟨i,j,rfl,rfl,hc,q⟩:=h
 obtain⟨t,rfl⟩:=rx
 obtain⟨t',rfl⟩:=ry
 refine floordiv_int hc ⟨.int (i.fdiv j),H,I.tok _,⟨_,rfl⟩,q⟩ (.inr (PySem.PylongRoom.of I.nolimit ?_ ?_))
 · have:=hr.dp
   show X.A.depth+100<_
   omega
 · exact PySem.SeerAt.of (env:=X.env) (l:=X.outer) (I.mod.seer.keeps I.bk) I.ok.gt (by rw[I.ok.frames,hs]) hgen hco I.ok.blt I.ok.glob
theorem yz{st:ag}{K:DK}{i j:Int}(h0:j≠0)(k:K (.int (i.fdiv j)) st):lH (.int i) (.int j) st K:=by unfold lH;exact⟨h0,k⟩
theorem mq.look{scope:Scope}{Nc:List Str}{fr:List (Option Nat)}{p:Str}(S:bz X scope Nc fr)(h:(scope.names.all (fun x=>x.2 != .cell)&&(!scope.isCoroutine&& !scope.isGenerator)&&(scope.names.lookup p==some .local))=true:=by decide+kernel)
 (p0:Nc[0]?=some p:=by rfl) (f0:fr[0]?=some none:=by rfl):mq X scope Nc fr p:=by
 simp only[Bool.and_eq_true,Bool.not_eq_true',beq_iff_eq]at h
 exact⟨S,fun x hx=>by simpa using List.all_eq_true.mp h.1.1 x hx,h.1.2.1,h.1.2.2,p0,f0,h.2⟩
theorem Ig{scope:Scope}{Nc:List Str}{fr:List (Option Nat)}{p qual:Str}{params:Arguments}{e body:Expr}{te tb:DE}{lpos kpos pos ppos:Pos}{c0 T:Addr}{n0 k:Nat}(S:mq X scope Nc fr p)(hc:X.calm=true)(hr:cO k X.A)(hcode:X.env.code= .ref c0)(hC:PySem.W.codeHdIn X.K c0 T=true)
 (hb:∀(f c:Addr) (s:Shared) (H:Hp),JE (Ck X scope Nc qual f c s H) body tb) (he:JE X e te) (hg:X.env.kindOf "sorted"=some .globalImplicit) (hm:X.mg "sorted"=none)
 (hdef:defaultsOf params X.env=([],[]):=by rfl) (hql:X.env.qual++"<lambda>"=qual:=by rfl)
 (hbind:∀(cl:List (Str×Addr)) (pm cd ct v:Value),bindArgs (PySem.W.kla_fn "<lambda>" qual params body scope cl pm cd ct) ⟨[v],[]⟩=pure [(p,v)]:=by(intros;rfl)) (hk:2≤k:=by decide)
 (he1:starEach [e] X.env=(false,eval e X.env)::starEach [] X.env:=by rfl):
 JE X (.Call (.Name "sorted" ppos) [e] [⟨some "key",.Lambda params body scope lpos,kpos⟩] pos) (yl n0 T lpos qual fr tb te):=by
 unfold JE at he hb⊢
 refine Hy S hc (hr.mono hk) hcode hC hdef hql hbind hb (vp he yZ he1) hg hm rfl ?_ ?_
 · rw[he1];rfl
 · rw[he1];rfl
end
structure Jf(K:PySem.W.Frag)(x qual:Str)(st:Stmt)(f:Addr)(fd:FuncData)(c:Addr):Prop where
 ex:∃(oc:Value) (od:Option Addr) (kV doc pm:Value) (an:Option Addr) (ct:Value) (osl:Array (Option Value)),
  fd=PySem.W.fnOf x qual (iK st) (fM st) (ai st) .none kV doc pm an (.ref c) ct∧K.lookup f=some ⟨oc,od,.func fd,osl⟩∧PySem.W.codeIn K (.ref c) qual=true
theorem JR{P:Program}{w:World}{K:PySem.W.Frag}{mg:Str→Option Value}{base:Heap}{x qual:Str}{st:Stmt}{f c:Addr}{fd:FuncData}{N ps:List Str}{k:Nat}{sp:cp}{t:DS}(F:Jf K x qual st f fd c)(S:aO N ps (ai st))
 (hbody:∀(A:Around) (outer:List Env) (s:Shared) (H:Hp) (E:XK),cO k (A.deeper (envOfC qual (ai st) s.heap.objs.size f (.ref c)))→JB (pU cq P w K mg base N qual (ai st) f (.ref c) A outer s H E).vb (fM st) t)
 (hsp:∀ds st K,sp ds st K→ds.length=ps.length∧t {nx:=fun _ st'=>K .aK st',rt:=K} (aT N ds) st):a8 P w K mg base cq (k+1) f fd ps (cv sp):=by
 obtain⟨oc,od,kV,doc,pm,an,ct,osl,rfl,lk,hcd⟩:=F.ex
 unfold JB at hbody
 refine F4 lk hcd S (fun vs H Q E h=>?_) fun A outer s H vs Q E hr h=>?_
 · obtain⟨α,ds,st,K,G,F,P,R,S,q,k⟩:=h
   rw[←R.length];exact(hsp ds st K q).1
 · obtain⟨α,ds,st,K,G,F',P,R,SR,q,k⟩:=h
   refine⟨_,(hbody A outer s H E hr).vb,α,aT N ds,st,_,G,F',P,d8.start R,SR,(hsp ds st K q).2,?_,k,?_,?_⟩
   · intro σd' st' kk α' G' H' σ' s' P' R' S'
     exact k .aK st' kk α' G' H' .aK s' P' S' (by unfold Rep;rfl)
   · intro σd' st' kk
     exact kk.elim
   · intro σd' st' kk
     exact kk.elim
noncomputable def D8(tl:List (Addr×Pos×Str)):cp:=fun ds st K=>∃ns:List Int,ds=[.lst (ns.map .int)]∧ns.length≤63∧st=tl.map (fun q=> .tab q.1 q.2.1 q.2.2 false)∧∀st',K (.bl true) st'
noncomputable def Df(K:PySem.W.Frag)(ts:List (Addr×Addr)):Sp:=fun vs H Q _=>∃(a:Addr) (ns:List Int),vs=[.ref a]∧Entry K ts a ns H∧ns.length≤63∧∀H',Q (.bl true) H'
theorem DU{K:PySem.W.Frag}{ts:List (Addr×Addr)}{tl:List (Addr×Pos×Str)}(nl:CG K=true)(hts:ts.map (·.2)=tl.map (·.1))(nd:(tl.map (·.1)).Nodup){vs:List V}{H:Hp}{Q:VK}{E:XK}(h:Df K ts vs H Q E):cv (D8 tl) vs H Q E:=by
 obtain⟨a,ns,rfl,hE,hl,q⟩:=h
 have tabs:∀q∈tl,H q.1=some (.jC #[])∧q.1≠a:=fun q hq=>by
  have h1:q.1∈ts.map (·.2):=by rw[hts];exact List.mem_map_of_mem hq
  obtain⟨t,ht,e⟩:=List.mem_map.mp h1
  rw[←e];exact hE.tab t ht
 have at_:∀(i:Nat) (x:Addr),(tl.map fun q=>some q.1)[i]?=some (some x)→∃q,tl[i]?=some q∧q.1=x:=fun i x e=>by
  rw[List.getElem?_map]at e
  cases z:tl[i]? with
  |none=>rw[z]at e;cases e
  |some w=>rw[z]at e;simp at e;exact⟨w,rfl,e⟩
 have nota:some a∉tl.map fun q=>some q.1:=fun z=>by
  obtain⟨w,hw,e⟩:=List.mem_map.mp z
  exact(tabs w hw).2 (Option.some.inj e)
 rcases hE.lst with hS|⟨o,its,n,e,hc,_⟩
 · refine⟨tl.map fun q=>some q.1,[.lst (ns.map .int)],tl.map (fun q=> .tab q.1 q.2.1 q.2.2 false),fun d _=>d= .bl true,H,fun _=>none,⟨fun b=>by cases H b<;>rfl,fun _ _ _=>rfl⟩,?_,⟨by simp,fun i j x e1 e2=>?_,fun n c e=>?_⟩,⟨ns,rfl,hl,rfl,fun _=>rfl⟩,?_⟩
   · unfold aL
     refine⟨.ref a,[],rfl,?_,by unfold aL;rfl⟩
     unfold Rep
     exact⟨a,ns.map V.int,rfl,nota,hS,wj ns⟩
   · obtain⟨p,hp,e3⟩:=at_ i x e1
     obtain⟨r,hr,e4⟩:=at_ j x e2
     have k1:(tl.map (·.1))[i]?=some x:=by rw[List.getElem?_map,hp,←e3];rfl
     have k2:(tl.map (·.1))[j]?=some x:=by rw[List.getElem?_map,hr,←e4];rfl
     have hi:=(List.getElem?_eq_some_iff.mp k1).1
     exact(List.getElem?_inj hi nd).mp (k1.trans k2.symm)
   · rw[List.getElem?_map]at e
     cases z:tl[n]? with
     |none=>rw[z]at e;cases e
     |some w=>
      rw[z]at e
      have e':Cell.tab w.1 w.2.1 w.2.2 false=c:=Option.some.inj e
      subst e'
      refine .inr ⟨w.1,by rw[List.getElem?_map,z];rfl,rfl,#[],(tabs w (List.mem_of_getElem? z)).1,trivial,.inl ⟨rfl,rfl⟩⟩
   · rintro d st' rfl α' G' H' v _ _ _ r
     unfold Rep at r
     subst r
     exact q H'
 · exact absurd hc (xi nl e)
end L3
namespace L3
open PySem L2
open PySem.Spec hiding items?
open PyProof.Rows hiding St
section
variable {K:PySem.W.Frag}{x qual p1 p2 p3 p4 p5:Str}{st:Stmt}{f:Addr}{fd:FuncData}
noncomputable abbrev sZ(x qual:Str)(st:Stmt)(kV doc pm:Value)(an:Option Addr)(cdv ct:Value):FuncData:=PySem.W.fnOf x qual (iK st) (fM st) (ai st) .none kV doc pm an cdv ct
theorem f7{α:Type}{n:Nat}{us:List α}(h:us.length=n+1):∃a r,us=a::r∧r.length=n:=by
 cases us with
 |nil=>cases h
 |cons a r=>exact⟨a,r,rfl,Nat.succ.inj h⟩
theorem sj{α:Type}{us:List α}(h:us.length=0):us=[]:=List.length_eq_zero_iff.mp h
theorem OQ(F:m_ K x qual st f fd)(h:∀kV doc pm an cdv ct a,bindArgs (sZ x qual st kV doc pm an cdv ct) ⟨[a],[]⟩=pure [(p1,a)]):Binds K fd [p1] []:=
 F.binds fun kV doc pm an cdv ct us hl=>by
  obtain⟨a,r1,rfl,h1⟩:=f7 hl
  cases sj h1
  exact h kV doc pm an cdv ct a
theorem Nl(F:m_ K x qual st f fd)(h:∀kV doc pm an cdv ct a b,bindArgs (sZ x qual st kV doc pm an cdv ct) ⟨[a,b],[]⟩=pure [(p1,a),(p2,b)]):Binds K fd [p1,p2] []:=
 F.binds fun kV doc pm an cdv ct us hl=>by
  obtain⟨a,r1,rfl,h1⟩:=f7 hl
  obtain⟨b,r2,rfl,h2⟩:=f7 h1
  cases sj h2
  exact h kV doc pm an cdv ct a b
theorem Nx(F:m_ K x qual st f fd)(h:∀kV doc pm an cdv ct a b c,bindArgs (sZ x qual st kV doc pm an cdv ct) ⟨[a,b,c],[]⟩=pure [(p1,a),(p2,b),(p3,c)]):Binds K fd [p1,p2,p3] []:=
 F.binds fun kV doc pm an cdv ct us hl=>by
  obtain⟨a,r1,rfl,h1⟩:=f7 hl
  obtain⟨b,r2,rfl,h2⟩:=f7 h1
  obtain⟨c,r3,rfl,h3⟩:=f7 h2
  cases sj h3
  exact h kV doc pm an cdv ct a b c
theorem OY(F:m_ K x qual st f fd)(h:∀kV doc pm an cdv ct a b c d,bindArgs (sZ x qual st kV doc pm an cdv ct) ⟨[a,b,c,d],[]⟩=pure [(p1,a),(p2,b),(p3,c),(p4,d)]):Binds K fd [p1,p2,p3,p4] []:=
 F.binds fun kV doc pm an cdv ct us hl=>by
  obtain⟨a,r1,rfl,h1⟩:=f7 hl
  obtain⟨b,r2,rfl,h2⟩:=f7 h1
  obtain⟨c,r3,rfl,h3⟩:=f7 h2
  obtain⟨d,r4,rfl,h4⟩:=f7 h3
  cases sj h4
  exact h kV doc pm an cdv ct a b c d
end
end L3
namespace L3
open PySem L2
open PySem.Spec hiding items?
open PyProof.Rows hiding St
section
variable {X:Cx}
end
end L3
namespace L3
open PySem L2
open PySem.Spec hiding items?
open PyProof.Rows hiding St
section
variable {X:Cx}
theorem HC(n:Int):(n != 0)=decide (n≠0):=by
 by_cases h:n=0
 · subst h;rfl
 · rw[decide_eq_true h];simpa using h
noncomputable def xB:eR:=fun ds st K=>match ds with| [.tup xs]=>(match kX xs with|some ns=>K (.bl (ns.any fun n=>decide (n≠0))) st|none=>False)|_=>False
theorem Kt(hc:X.calm=true):bD X (.builtin "any") (fA xB):=fun pins s σ H xs us Q I rs ⟨α,ds,st,K,G,F',P,r,S,q,k⟩=>by
 unfold xB at q
 split at q
 · rename_i ys
   split at q
   · rename_i ns e
     obtain⟨v,rfl,r1⟩:=gN r rfl
     unfold Rep at r1
     obtain⟨a,vs,rfl,na,h1,h2⟩:=r1
     obtain⟨u,rfl,ru⟩:=vals1 rs
     cases ru
     have hv:=rp h2 e
     subst hv
     obtain⟨its,rv,p,hl⟩:=I.tuple (.of (P.get h1))
     have isT:s.heap.IsTuple a its.toArray:=p
     obtain⟨o,eo,_⟩:=id isT
     refine call_any_walk (wpAny_pyIter_tuple isT ?_)
     have hne:a≠s.heap.objs.size:=Nat.ne_of_lt (Heap.lt_size eo)
     have hn:its.length=ns.length:=by rw[←rv.length,List.length_map]
     have hval:∀(i:Nat) (w:Value),its.toArray[i]?=some w→∃t,w=Value.int (ns.getD i 0) t:=fun i w hw=>lD rv i w (by simpa using hw)
     refine⟨s.heap.objs.size,_,_,_,_,_,fun i=>decide (ns.getD i 0≠0),rfl,Walks.tuple (A:=X.A.in1) (I.ok.hd hc) _ a hne its.toArray,⟨⟨_,Heap.get?_push_size _ rfl,rfl,rfl⟩,kg.push (k:= .t) isT _⟩,?_,?_⟩
     · intro i w s' Q' E' hP hQ
       obtain⟨t,rfl⟩:=hval i w hP
       refine PyProof.Rows.truthy_int ?_
       rw[HC]
       exact hQ
     · intro h' tk hk
       have kp:∀b o,s.heap.get? b=some o→h'.get? b=some o:=fun b o q=>hk b o (by
        intro hb
        have:b=s.heap.objs.size:=by simpa using hb
        exact absurd (Heap.lt_size q) (by rw[this];exact Nat.lt_irrefl _)) (Heap.get?_push_of_some _ q)
       have ea:(List.range its.toArray.size).any (fun i=>decide (ns.getD i 0≠0))=ns.any fun n=>decide (n≠0):=by
        rw[List.size_toArray,hn]
        exact range_any ns _ _ fun i x e=>by rw[List.getD_eq_getElem?_getD,e];rfl
       rw[ea]
       exact⟨.bl (ns.any fun n=>decide (n≠0)),H,I.kept (t':=tk) kp,rfl,k.here P q S (by unfold Rep;rfl)⟩
   · exact q.elim
 · exact q.elim
@[irreducible] noncomputable def ux:eR:=xB
theorem Jp(hc:X.calm=true):bD X (.builtin "any") (fA ux):=by unfold ux;exact Kt hc
end
theorem HG{st:ag}{K:DK}{xs:List D}{ns:List Int}(h:kX xs=some ns)(k:K (.bl (ns.any fun n=>decide (n≠0))) st):ux [.tup xs] st K:=by unfold ux xB;simp only[h];exact k
end L3
namespace L3
open PySem L2
open PySem.Spec hiding items?
open PyProof.Rows hiding St
section
variable {X:Cx}
end
end L3
namespace L3
open PySem L2
open PySem.Spec hiding items?
open PyProof.Rows hiding St
section
variable {X:Cx}
end
end L3
namespace L3
open PySem L2
open PySem.Spec hiding items?
open PyProof.Rows hiding St
section
variable {X:Cx}
noncomputable def vb(X:Cx):Cx:={X with xe:=fun _ _=>False}
end
end L3
namespace L3
open PySem L2
open PySem.Spec hiding items?
open PyProof.Rows hiding St
section
variable {X:Cx}
end
variable {st:ag}{K:D→ag→Prop}{i j:Int}
end L3
namespace L3
open PySem L2
open PySem.Spec hiding items?
open PyProof.Rows hiding St
section
variable {X:Cx}{pos:Pos}
end
end L3
namespace L3
open PySem L2
structure ClsAt(K:PySem.W.Frag)(mg:Str→Option Value)(x:Str)(C:Addr):Prop where
 cl:nH K C
 mg:mg x=some (.ref C)
 O4:PySem.W.makesIn K C=true
 kp:PySem.W.keepIn K (.ref C)=true
structure MethAt(K:PySem.W.Frag)(C:Addr)(m qual:Str)(st:Stmt)(ps:List Str)(f:Addr)(fd:FuncData):Prop where
 fn:m_ K m qual st f fd
 me:Meth K C m f
 bd:Binds K fd ps []
end L3
namespace Hd
open PySem PySem.W L2 L3
open PySem.Spec hiding items?
open PyProof.Rows hiding St
section
variable {K:Frag}{mg:Str→Option Value}{h:Heap}{x q:Str}{st:Stmt}{f c C:Addr}{pm:Value}{p1 p2 p3 p4 p5 p6:Str}
noncomputable abbrev Ed(K:Frag)(x:Str)(st:Stmt)(f:Addr)(pm:Value)(c:Addr):Prop:=(nsIn K mainGlobals x,K.lookup f,codeIn K (.ref c) x,keepIn K (.ref f))=(some (some (.ref f)),some (fq st x x pm c),true,true)
noncomputable abbrev Em(K:Frag)(C:Addr)(x q:Str)(st:Stmt)(f:Addr)(pm:Value)(c:Addr):Prop:=(findIn K (.ref C) x,isFn K (.ref f),K.lookup f,codeIn K (.ref c) q,keepIn K (.ref f))=(some (some (.ref f)),true,some (fq st x q pm c),true,true)
theorem Ed.fn(e:Ed K x st f pm c):m_ K x x st f (fd st x x pm c)∧nsIn K mainGlobals x=some (some (.ref f)):=by
 obtain⟨e1,e2,e3,e4⟩:_∧_∧_∧_:=by simpa only[Prod.mk.injEq]using e
 exact⟨Cv (st:=st) e2 e3 e4,e1⟩
theorem Em.fn(e:Em K C x q st f pm c):m_ K x q st f (fd st x q pm c)∧Meth K C x f:=by
 obtain⟨e1,e2,e3,e4,e5⟩:_∧_∧_∧_∧_:=by simpa only[Prod.mk.injEq]using e
 exact⟨Cv (st:=st) e3 e4 e5,e1,e2,e5⟩
theorem qO(X:K.In h)(G:h.Ns mainGlobals mg)(e:Ed K x st f pm c)(b:∀kV doc pm an cdv ct a,bindArgs (sZ x x st kV doc pm an cdv ct) ⟨[a],[]⟩=pure [(p1,a)]):bG K mg x x st [p1] f (fd st x x pm c):=⟨e.fn.1,mg_of X G e.fn.2,OQ e.fn.1 b⟩
theorem iS(X:K.In h)(G:h.Ns mainGlobals mg)(e:Ed K x st f pm c)(b:∀kV doc pm an cdv ct a1 a2,bindArgs (sZ x x st kV doc pm an cdv ct) ⟨[a1,a2],[]⟩=pure [(p1,a1),(p2,a2)]):bG K mg x x st [p1,p2] f (fd st x x pm c):=⟨e.fn.1,mg_of X G e.fn.2,Nl e.fn.1 b⟩
theorem vd(X:K.In h)(G:h.Ns mainGlobals mg)(e:Ed K x st f pm c)(b:∀kV doc pm an cdv ct a1 a2 a3,bindArgs (sZ x x st kV doc pm an cdv ct) ⟨[a1,a2,a3],[]⟩=pure [(p1,a1),(p2,a2),(p3,a3)]):bG K mg x x st [p1,p2,p3] f (fd st x x pm c):=⟨e.fn.1,mg_of X G e.fn.2,Nx e.fn.1 b⟩
theorem Nj(e:Em K C x q st f pm c)(b:∀kV doc pm an cdv ct a1 a2,bindArgs (sZ x q st kV doc pm an cdv ct) ⟨[a1,a2],[]⟩=pure [(p1,a1),(p2,a2)]):MethAt K C x q st [p1,p2] f (fd st x q pm c):=⟨e.fn.1,e.fn.2,Nl e.fn.1 b⟩
theorem FT(e:Em K C x q st f pm c)(b:∀kV doc pm an cdv ct a1 a2 a3,bindArgs (sZ x q st kV doc pm an cdv ct) ⟨[a1,a2,a3],[]⟩=pure [(p1,a1),(p2,a2),(p3,a3)]):MethAt K C x q st [p1,p2,p3] f (fd st x q pm c):=⟨e.fn.1,e.fn.2,Nx e.fn.1 b⟩
theorem OF(e:Em K C x q st f pm c)(b:∀kV doc pm an cdv ct a1 a2 a3 a4,bindArgs (sZ x q st kV doc pm an cdv ct) ⟨[a1,a2,a3,a4],[]⟩=pure [(p1,a1),(p2,a2),(p3,a3),(p4,a4)]):MethAt K C x q st [p1,p2,p3,p4] f (fd st x q pm c):=⟨e.fn.1,e.fn.2,OY e.fn.1 b⟩
theorem fc(e:(K.lookup f,codeIn K (.ref c) q)=(some (fq st x q pm c),true)):Jf K x q st f (fd st x q pm c) c:=by
 obtain⟨e1,e2⟩:_∧_:=by simpa only[Prod.mk.injEq]using e
 exact⟨_,_,_,_,_,_,_,_,rfl,e1,e2⟩
theorem na{a:Str}(e:findIn K (.ref C) a=some none):fQ K C a:=e
end
end Hd
namespace L3
open PySem L2
open PySem.Spec hiding items?
open PyProof.Rows hiding St
section
variable {X:Cx}{pos:Pos}
end
end L3
namespace Mx
noncomputable def S:Nat→(Nat→Int)→Int
 |0,_=>0
 |n+1,f=>S n f+f n
theorem aF{n:Nat}{f g:Nat→Int}(h:∀i,i<n→f i=g i):S n f=S n g:=by
 induction n with
 |zero=>rfl
 |succ n ih=>unfold S;rw[ih fun i hi=>h i (by omega),h n (by omega)]
theorem nk{n:Nat}{f:Nat→Int}(h:∀i,i<n→f i=0):S n f=0:=by
 induction n with
 |zero=>rfl
 |succ n ih=>unfold S;rw[ih fun i hi=>h i (by omega),h n (by omega)];rfl
theorem h8(n:Nat)(f g:Nat→Int):S n (fun i=>f i+g i)=S n f+S n g:=by
 induction n with
 |zero=>rfl
 |succ n ih=>unfold S;rw[ih];dsimp only;omega
theorem eV(n:Nat)(c:Int)(f:Nat→Int):S n (fun i=>c*f i)=c*S n f:=by
 induction n with
 |zero=>unfold S;rw[Int.mul_zero]
 |succ n ih=>unfold S;rw[ih,Int.mul_add]
theorem o9(n:Nat)(c:Int)(f:Nat→Int):S n (fun i=>f i*c)=S n f*c:=by
 induction n with
 |zero=>unfold S;rw[Int.zero_mul]
 |succ n ih=>unfold S;rw[ih,Int.add_mul]
theorem u6(n:Nat)(f:Nat→Int):S n (fun i=> -f i)= -S n f:=by
 induction n with
 |zero=>rfl
 |succ n ih=>unfold S;rw[ih];dsimp only;omega
theorem nN(m n:Nat)(f:Nat→Nat→Int):S m (fun i=>S n fun j=>f i j)=S n fun j=>S m fun i=>f i j:=by
 induction m with
 |zero=>exact(nk (n:=n) (fun i _=>rfl)).symm
 |succ m ih=>
  have:S n (fun j=>S (m+1) fun i=>f i j)=S n fun j=>(S m fun i=>f i j)+f m j:=aF fun j _=>rfl
  rw[this,h8,←ih]
  rfl
theorem mP{n:Nat}{k:Nat}(hk:k<n){f:Nat→Int}(h:∀i,i<n→i≠k→f i=0):S n f=f k:=by
 induction n with
 |zero=>omega
 |succ n ih=>
  unfold S
  by_cases e:k=n
  · subst e
    rw[nk fun i hi=>h i (by omega) (by omega),Int.zero_add]
  · rw[ih (by omega) fun i hi hn=>h i (by omega) hn,h n (by omega) (by omega),Int.add_zero]
theorem CS(n:Nat)(f:Nat→Int):S (n+1) f=f 0+S n fun i=>f (i+1):=by
 induction n with
 |zero=>unfold S S;omega
 |succ n ih=>
  have:S (n+1+1) f=S (n+1) f+f (n+1):=rfl
  rw[this,ih]
  have:S (n+1) (fun i=>f (i+1))=S n (fun i=>f (i+1))+f (n+1):=rfl
  rw[this]
  omega
noncomputable def dl(i j:Nat):Int:=if i=j then 1 else 0
theorem eG(i:Nat):dl i i=1:=if_pos rfl
theorem e7{i j:Nat}(h:i≠j):dl i j=0:=if_neg h
theorem nq{n k:Nat}(hk:k<n)(f:Nat→Int):S n (fun i=>dl k i*f i)=f k:=by
 rw[mP hk (fun i _ h=>by rw[e7 (Ne.symm h),Int.zero_mul]),eG,Int.one_mul]
theorem oZ{n k:Nat}(hk:k<n)(f:Nat→Int):S n (fun i=>f i*dl i k)=f k:=by
 rw[mP hk (fun i _ h=>by rw[e7 h,Int.mul_zero]),eG,Int.mul_one]
noncomputable abbrev Row:=List Int
noncomputable abbrev Rows:=List (List Int)
noncomputable def g(A:Rows)(i j:Nat):Int:=(A.getD i []).getD j 0
structure bY(m n:Nat)(A:Rows):Prop where
 len:A.length=m
 iV:∀r∈A,r.length=n
theorem bf{α:Type}{l:List α}{i:Nat}{d:α}(h:i<l.length):l.getD i d=l[i]:=by
 rw[List.getD_eq_getElem?_getD,List.getElem?_eq_getElem h];rfl
theorem kl{α:Type}{l:List α}{i:Nat}{d:α}(h:l.length≤i):l.getD i d=d:=by
 rw[List.getD_eq_getElem?_getD,List.getElem?_eq_none h];rfl
theorem wa{a b:Row}{n:Nat}(ha:a.length=n)(hb:b.length=n)(h:∀j,j<n→a.getD j 0=b.getD j 0):a=b:=by
 refine List.ext_getElem (by omega) fun i h1 h2=>?_
 have:=h i (by omega)
 rwa [bf h1,bf h2]at this
theorem bY.row{m n:Nat}{A:Rows}(h:bY m n A){i:Nat}(hi:i<m):(A.getD i []).length=n:=by
 have hl:=h.len
 rw[bf (by omega)]
 exact h.iV _ (List.getElem_mem _)
theorem bY.ext{m n:Nat}{A B:Rows}(ha:bY m n A)(hb:bY m n B)(h:∀i j,i<m→j<n→g A i j=g B i j):A=B:=by
 have h1:=ha.len
 have h2:=hb.len
 refine List.ext_getElem (by omega) fun i hi hj=>?_
 have e1:=ha.row (i:=i) (by omega)
 have e2:=hb.row (i:=i) (by omega)
 have:=wa e1 e2 fun j hj=>h i j (by omega) hj
 rwa [bf hi,bf hj]at this
noncomputable def fm(r:Row)(t:Int)(s:Row):Row:=List.zipWith (fun a b=>a+t*b) r s
theorem jr{r s:Row}{t:Int}(h:r.length=s.length):(fm r t s).length=r.length:=by unfold fm;simp[h]
theorem pD{r s:Row}{t:Int}(h:r.length=s.length)(j:Nat):(fm r t s).getD j 0=r.getD j 0+t*s.getD j 0:=by
 unfold fm
 by_cases hj:j<r.length
 · rw[bf (by simp;omega),bf hj,bf (by omega)];simp
 · rw[kl (by simp;omega),kl (by omega),kl (by omega)];simp
noncomputable def cN:Row→Rows→Row→Row
 |w::ws,r::rs,acc=>cN ws rs (fm acc w r)
 |_,_,acc=>acc
theorem oi{n:Nat}:∀ {ws:Row} {rs:Rows} {acc:Row},acc.length=n→(∀r∈rs,r.length=n)→(cN ws rs acc).length=n
 | [],_,acc,h,_=>by unfold cN;exact h
 |_::_,[],acc,h,_=>by unfold cN;exact h
 |w::ws,r::rs,acc,h,hr=>by
  unfold cN
  refine oi ?_ fun r hr'=>hr r (List.mem_cons_of_mem _ hr')
  rw[jr (by rw[h,hr r List.mem_cons_self]),h]
theorem pV{n:Nat}:∀ {ws:Row} {rs:Rows} {acc:Row} (j:Nat),acc.length=n→(∀r∈rs,r.length=n)→ws.length=rs.length→(cN ws rs acc).getD j 0=acc.getD j 0+S rs.length fun k=>ws.getD k 0*g rs k j
 | [],[],acc,j,h,_,_=>by unfold cN;show _=_+(0:Int);rw[Int.add_zero]
 | [],_::_,acc,j,h,_,hl=>by cases hl
 |_::_,[],acc,j,h,_,hl=>by cases hl
 |w::ws,r::rs,acc,j,h,hr,hl=>by
  have e1:acc.length=r.length:=by rw[h,hr r List.mem_cons_self]
  unfold cN
  rw[pV j (by rw[jr e1,h]) (fun r hr'=>hr r (List.mem_cons_of_mem _ hr')) (by simpa using hl),pD e1,List.length_cons,CS]
  have:(fun k=>(w::ws).getD (k+1) 0*g (r::rs) (k+1) j)=fun k=>ws.getD k 0*g rs k j:=by
   funext k;unfold g;simp
  rw[this]
  unfold g
  simp
  omega
noncomputable def mulM(A B:Rows)(n:Nat):Rows:=A.map fun w=>cN w B (List.replicate n 0)
theorem dQ(n j:Nat):(List.replicate n (0:Int)).getD j 0=0:=by
 by_cases h:j<n
 · rw[bf (by simpa using h)];simp
 · rw[kl (by simp;omega)]
theorem gj{m p n:Nat}{A B:Rows}(ha:bY m p A)(hb:bY p n B):bY m n (mulM A B n):=by
 refine⟨by unfold mulM;rw[List.length_map];exact ha.len,fun r hr=>?_⟩
 unfold mulM at hr
 obtain⟨w,_,rfl⟩:=List.mem_map.mp hr
 exact oi (by simp) hb.iV
theorem map_getD{α:Type}{f:Row→List α}{A:Rows}{i:Nat}(h:i<A.length):(A.map f).getD i []=f (A.getD i []):=by
 rw[bf (by simpa using h),bf h];simp
theorem jw{m p n:Nat}{A B:Rows}(ha:bY m p A)(hb:bY p n B){i:Nat}(hi:i<m)(j:Nat):g (mulM A B n) i j=S p fun k=>g A i k*g B k j:=by
 have hl:=ha.len
 show((mulM A B n).getD i []).getD j 0=_
 unfold mulM
 rw[map_getD (by omega),pV (n:=n) j (by simp) hb.iV (by rw[ha.row hi,hb.len]),dQ,Int.zero_add,hb.len]
 rfl
theorem By{m p q n:Nat}{A B C:Rows}(ha:bY m p A)(hb:bY p q B)(hc:bY q n C):mulM (mulM A B q) C n=mulM A (mulM B C n) n:=by
 refine(gj (gj ha hb) hc).ext (gj ha (gj hb hc)) fun i j hi hj=>?_
 rw[jw (gj ha hb) hc hi,jw ha (gj hb hc) hi]
 have e1:S q (fun k=>g (mulM A B q) i k*g C k j)=S q fun k=>S p fun l=>g A i l*g B l k*g C k j:=aF fun k _=>by rw[jw ha hb hi,o9]
 have e2:S p (fun l=>g A i l*g (mulM B C n) l j)=S p fun l=>S q fun k=>g A i l*g B l k*g C k j:=aF fun l hl=>by
  rw[jw hb hc hl,←eV]
  exact aF fun k _=>by rw[Int.mul_assoc]
 rw[e1,e2,nN]
noncomputable def fw(n i:Nat):Row:=(List.range n).map fun k=>dl k i
noncomputable def units(n:Nat):Rows:=(List.range n).map fun i=>fw n i
theorem range_getD{α:Type}{f:Nat→α}{n i:Nat}{d:α}(h:i<n):((List.range n).map f).getD i d=f i:=by
 rw[bf (by simpa using h)];simp
theorem kF(n:Nat):bY n n (units n):=⟨by simp[units],fun r hr=>by unfold units at hr;obtain⟨i,_,rfl⟩:=List.mem_map.mp hr;simp[fw]⟩
theorem jq{n i j:Nat}(hi:i<n)(hj:j<n):g (units n) i j=dl i j:=by
 unfold g units fw
 rw[range_getD hi,range_getD hj]
 unfold dl
 by_cases h:i=j
 · subst h;rfl
 · rw[if_neg (Ne.symm h),if_neg h]
theorem zU{m n:Nat}{A:Rows}(ha:bY m n A):mulM A (units n) n=A:=
 (gj ha (kF n)).ext ha fun i j hi hj=>by
   rw[jw ha (kF n) hi]
   have:S n (fun k=>g A i k*g (units n) k j)=S n fun k=>g A i k*dl k j:=aF fun k hk=>by rw[jq hk hj]
   rw[this,oZ hj]
noncomputable def vt(A:Rows)(j:Nat):Row:=A.map fun r=>r.getD j 0
noncomputable def GR(A:Rows)(n:Nat):Rows:=(List.range n).map fun j=>vt A j
noncomputable def Kd:Row→Row→Int
 |a::as,b::bs=>a*b+Kd as bs
 |_,_=>0
end Mx
namespace Mx
theorem vL(i j:Nat):dl i j=dl j i:=by
 unfold dl
 by_cases h:i=j
 · rw[if_pos h,if_pos h.symm]
 · rw[if_neg h,if_neg (Ne.symm h)]
noncomputable def sw(i j k:Nat):Nat:=if k=i then j else if k=j then i else k
theorem Ox{n i j:Nat}(hi:i<n)(hj:j<n)(hij:i≠j)(f:Nat→Int):S n (fun k=>f (sw i j k))=S n f:=by
 have:S n (fun k=>f (sw i j k))=S n fun k=>f k+(f j-f i)*dl k i+(f i-f j)*dl k j:=aF fun k _=>by
  unfold sw
  by_cases h1:k=i
  · subst h1;rw[if_pos rfl,eG,e7 hij];omega
  · rw[if_neg h1,e7 h1]
    by_cases h2:k=j
    · subst h2;rw[if_pos rfl,eG];omega
    · rw[if_neg h2,e7 h2];omega
 rw[this,h8,h8,oZ (f:=fun _=>f j-f i) hi,oZ (f:=fun _=>f i-f j) hj]
 omega
end Mx
namespace Mx
noncomputable abbrev Fn:=Nat→Nat→Int
noncomputable def sk(j c:Nat):Nat:=if c<j then c else c+1
noncomputable def sg(j:Nat):Int:=if j%2=0 then 1 else-1
theorem vF(j:Nat):sg (j+1)= -sg j:=by unfold sg;split<;>split<;>omega
theorem v8:sg 0=1:=rfl
theorem j7{j c n:Nat}(h:c<n):sk j c<n+1:=by unfold sk;split<;>omega
theorem M_{j k c:Nat}(h:k<j):sk j (sk k c)=sk k (sk (j-1) c):=by unfold sk;grind
noncomputable def D:Nat→Fn→Int
 |0,_=>1
 |n+1,M=>S (n+1) fun j=>sg j*M 0 j*D n fun r c=>M (r+1) (sk j c)
theorem CM(M:Fn):D 0 M=1:=rfl
theorem dz(n:Nat)(M:Fn):D (n+1) M=S (n+1) fun j=>sg j*M 0 j*D n fun r c=>M (r+1) (sk j c):=rfl
theorem c8:∀ {n:Nat} {M M':Fn},(∀r c,r<n→c<n→M r c=M' r c)→D n M=D n M'
 |0,_,_,_=>rfl
 |n+1,M,M',h=>by
  rw[dz,dz]
  refine aF fun j hj=>?_
  have e:D n (fun r c=>M (r+1) (sk j c))=D n (fun r c=>M' (r+1) (sk j c)):=c8 fun r c hr hc=>h (r+1) (sk j c) (by omega) (j7 hc)
  rw[h 0 j (by omega) hj,e]
theorem GA:∀ {n:Nat} {M P Q:Fn} {a b:Int} {i:Nat},i<n→(∀c,c<n→M i c=a*P i c+b*Q i c)→(∀r c,r<n→c<n→r≠i→M r c=P r c∧M r c=Q r c)→D n M=a*D n P+b*D n Q
 |0,_,_,_,_,_,_,h,_,_=>by omega
 |n+1,M,P,Q,a,b,0,_,h0,h=>by
  rw[dz,dz,dz,←eV,←eV,←h8]
  refine aF fun j hj=>?_
  have e1:D n (fun r c=>M (r+1) (sk j c))=D n (fun r c=>P (r+1) (sk j c)):=c8 fun r c hr hc=>(h (r+1) (sk j c) (by omega) (j7 hc) (by omega)).1
  have e2:D n (fun r c=>M (r+1) (sk j c))=D n (fun r c=>Q (r+1) (sk j c)):=c8 fun r c hr hc=>(h (r+1) (sk j c) (by omega) (j7 hc) (by omega)).2
  rw[h0 j hj,←e1,←e2]
  grind
 |n+1,M,P,Q,a,b,i+1,hi,h0,h=>by
  rw[dz,dz,dz,←eV,←eV,←h8]
  refine aF fun j hj=>?_
  have e:=GA (n:=n) (M:=fun r c=>M (r+1) (sk j c)) (P:=fun r c=>P (r+1) (sk j c)) (Q:=fun r c=>Q (r+1) (sk j c)) (a:=a) (b:=b) (i:=i) (by omega) (fun c hc=>h0 (sk j c) (j7 hc)) fun r c hr hc hne=>h (r+1) (sk j c) (by omega) (j7 hc) (by omega)
  have p:=h 0 j (by omega) hj (by omega)
  rw[e,←p.1,←p.2]
  grind
theorem NV{n:Nat}{M:Fn}(h:∀c,c<n+2→M 0 c=M 1 c):D (n+2) M=0:=by
 let T:Nat→Nat→Int:=fun j k=>sg j*M 0 j*(sg k*M 1 (sk j k)*D n fun r c=>M (r+2) (sk j (sk k c)))
 have e1:∀j,j<n+2→sg j*M 0 j*D (n+1) (fun r c=>M (r+1) (sk j c))=S (n+1) fun k=>T j k:=fun j hj=>by
  rw[dz,←eV]
 rw[dz,aF e1]
 have e2:∀j,j<n+2→S (n+1) (fun k=>T j k)=S (n+1) (fun k=>if k<j then T j k else 0)+S (n+1) (fun k=>if k<j then 0 else T j k):=fun j _=>by
  rw[←h8]
  refine aF fun k _=>?_
  split<;>omega
 rw[aF e2,h8]
 have e3:∀j k,j<n+2→k<n+1→¬k<j→T j k= -T (k+1) j:=fun j k hj hk hjk=>by
  have s1:sk (k+1) j=j:=by unfold sk;rw[if_pos (by omega)]
  have s2:sk j k=k+1:=by unfold sk;rw[if_neg hjk]
  have s3:(fun r c=>M (r+2) (sk (k+1) (sk j c)))=fun r c=>M (r+2) (sk j (sk k c)):=by
   funext r c
   rw[M_ (show j<k+1 by omega)];rfl
  show sg j*M 0 j*(sg k*M 1 (sk j k)*D n fun r c=>M (r+2) (sk j (sk k c)))= -(sg (k+1)*M 0 (k+1)*(sg j*M 1 (sk (k+1) j)*D n fun r c=>M (r+2) (sk (k+1) (sk j c))))
  rw[s1,s2,s3,vF,←h j hj,←h (k+1) (by omega)]
  grind
 have e4:S (n+2) (fun j=>S (n+1) fun k=>if k<j then 0 else T j k)= -S (n+2) (fun j=>S (n+1) fun k=>if k<j then T j k else 0):=by
  rw[nN,CS (n+1) (fun j=>S (n+1) fun k=>if k<j then T j k else 0)]
  have z:S (n+1) (fun k=>if k<0 then T 0 k else 0)=0:=nk fun k _=>if_neg (by omega)
  rw[z,Int.zero_add,←u6]
  refine aF fun k hk=>?_
  have:S (n+2) (fun j=>if k<j then 0 else T j k)=S (n+1) (fun j=>if k<j then 0 else T j k)+(if k<n+1 then 0 else T (n+1) k):=rfl
  rw[this,if_pos hk,Int.add_zero,←u6]
  refine aF fun j hj=>?_
  by_cases hkj:k<j
  · rw[if_pos hkj,if_neg (by omega)];rfl
  · rw[if_neg hkj,if_pos (by omega)]
    exact e3 j k (by omega) hk hkj
 rw[e4]
 omega
theorem GP:∀ {n:Nat} {M:Fn} {i:Nat},i+1<n→(∀c,c<n→M i c=M (i+1) c)→D n M=0
 |0,_,_,h,_=>by omega
 |1,_,_,h,_=>by omega
 |n+2,M,0,_,h=>NV h
 |n+2,M,i+1,hi,h=>by
  rw[dz]
  refine nk fun j hj=>?_
  rw[GP (n:=n+1) (M:=fun r c=>M (r+1) (sk j c)) (i:=i) (by omega) fun c hc=>h (sk j c) (j7 hc),Int.mul_zero]
structure Alt(n:Nat)(φ:Fn→Int):Prop where
 cg:∀M M':Fn,(∀r c,r<n→c<n→M r c=M' r c)→φ M=φ M'
 pf:∀(i:Nat) (M P Q:Fn) (a b:Int),i<n→(∀c,c<n→M i c=a*P i c+b*Q i c)→(∀r c,r<n→c<n→r≠i→M r c=P r c∧M r c=Q r c)→φ M=a*φ P+b*φ Q
 alt:∀(i j:Nat) (M:Fn),i<n→j<n→i≠j→(∀c,c<n→M i c=M j c)→φ M=0
noncomputable def upd(M:Fn)(i:Nat)(x:Nat→Int):Fn:=fun r c=>if r=i then x c else M r c
theorem cf(M:Fn)(i:Nat)(x:Nat→Int)(c:Nat):upd M i x i c=x c:=if_pos rfl
theorem az{M:Fn}{i r:Nat}{x:Nat→Int}(h:r≠i)(c:Nat):upd M i x r c=M r c:=if_neg h
theorem Nn{n i j:Nat}{φ:Fn→Int}(cg:∀M M':Fn,(∀r c,r<n→c<n→M r c=M' r c)→φ M=φ M')
 (pf:∀(i:Nat) (M P Q:Fn) (a b:Int),i<n→(∀c,c<n→M i c=a*P i c+b*Q i c)→(∀r c,r<n→c<n→r≠i→M r c=P r c∧M r c=Q r c)→φ M=a*φ P+b*φ Q)
 (hi:i<n) (hj:j<n) (hij:i≠j) (alt:∀N:Fn,(∀c,c<n→N i c=N j c)→φ N=0) (M:Fn):φ (fun r=>M (sw i j r))= -φ M:=by
 have l1:φ (upd (upd M i fun c=>M i c+M j c) j fun c=>M i c+M j c)=1*φ (upd (upd M i (M i)) j fun c=>M i c+M j c)+1*φ (upd (upd M i (M j)) j fun c=>M i c+M j c):=
  pf i _ _ _ 1 1 hi (fun c _=>by rw[az hij,az hij,az hij,cf,cf,cf];omega) fun r c _ _ hr=>by
   unfold upd
   grind
 have l2:∀x:Nat→Int,φ (upd (upd M i x) j fun c=>M i c+M j c)=1*φ (upd (upd M i x) j (M i))+1*φ (upd (upd M i x) j (M j)):=fun x=>
  pf j _ _ _ 1 1 hj (fun c _=>by rw[cf,cf,cf];omega) fun r c _ _ hr=>by
   rw[az hr,az hr,az hr];exact⟨rfl,rfl⟩
 have z0:φ (upd (upd M i fun c=>M i c+M j c) j fun c=>M i c+M j c)=0:=alt _ fun c _=>by rw[az hij,cf,cf]
 have z1:φ (upd (upd M i (M i)) j (M i))=0:=alt _ fun c _=>by rw[az hij,cf,cf]
 have z2:φ (upd (upd M i (M j)) j (M j))=0:=alt _ fun c _=>by rw[az hij,cf,cf]
 have s1:φ (upd (upd M i (M i)) j (M j))=φ M:=cg _ _ fun r c _ _=>by
  unfold upd
  split
  · rename_i e;rw[e]
  · split
    · rename_i e;rw[e]
    · rfl
 have s2:φ (upd (upd M i (M j)) j (M i))=φ (fun r=>M (sw i j r)):=cg _ _ fun r c _ _=>by
  unfold upd sw
  by_cases h1:r=j
  · rw[if_pos h1]
    by_cases h2:r=i
    · omega
    · rw[if_neg h2,if_pos h1]
  · rw[if_neg h1]
    by_cases h2:r=i
    · rw[if_pos h2,if_pos h2]
    · rw[if_neg h2,if_neg h2,if_neg h1]
 have a1:=l2 (M i)
 have a2:=l2 (M j)
 rw[z1,s1]at a1
 rw[z2,s2]at a2
 rw[z0,a1,a2]at l1
 omega
theorem Alt.swap{n i j:Nat}{φ:Fn→Int}(A:Alt n φ)(hi:i<n)(hj:j<n)(hij:i≠j)(M:Fn):φ (fun r=>M (sw i j r))= -φ M:=
 Nn A.cg A.pf hi hj hij (fun N h=>A.alt i j N hi hj hij h) M
theorem va{n:Nat}{φ:Fn→Int}(cg:∀M M':Fn,(∀r c,r<n→c<n→M r c=M' r c)→φ M=φ M')
 (pf:∀(i:Nat) (M P Q:Fn) (a b:Int),i<n→(∀c,c<n→M i c=a*P i c+b*Q i c)→(∀r c,r<n→c<n→r≠i→M r c=P r c∧M r c=Q r c)→φ M=a*φ P+b*φ Q)
 (adj:∀(i:Nat) (M:Fn),i+1<n→(∀c,c<n→M i c=M (i+1) c)→φ M=0):Alt n φ:=by
 have far:∀(d i:Nat) (M:Fn),i+d+1<n→(∀c,c<n→M i c=M (i+d+1) c)→φ M=0:=by
  intro d
  induction d with
  |zero=>exact fun i M h1 h2=>adj i M h1 h2
  |succ d ih=>
   intro i M h1 h2
   have hs:=Nn cg pf (i:=i+d+1) (j:=i+d+1+1) (by omega) (by omega) (by omega) (fun N h=>adj (i+d+1) N (by omega) h) M
   have:φ (fun r=>M (sw (i+d+1) (i+d+1+1) r))=0:=ih i _ (by omega) fun c hc=>by
    have e1:sw (i+d+1) (i+d+1+1) i=i:=by unfold sw;rw[if_neg (by omega),if_neg (by omega)]
    have e2:sw (i+d+1) (i+d+1+1) (i+d+1)=i+d+1+1:=by unfold sw;rw[if_pos rfl]
    rw[e1,e2]
    exact h2 c hc
   omega
 refine⟨cg,pf,fun i j M hi hj hij h=>?_⟩
 by_cases hlt:i<j
 · obtain⟨d,rfl⟩:∃d,j=i+d+1:=⟨j-i-1,by omega⟩
   exact far d i M hj h
 · obtain⟨d,rfl⟩:∃d,i=j+d+1:=⟨i-j-1,by omega⟩
   exact far d j M hi fun c hc=>(h c hc).symm
theorem r8(n:Nat):Alt n (D n):=va (fun _ _ h=>c8 h) (fun _ _ _ _ _ _ hi h0 h=>GA hi h0 h) fun _ _ h1 h2=>GP h1 h2
theorem Alt.Ji{n i:Nat}{φ:Fn→Int}(A:Alt n φ)(hi:i<n){M:Fn}(h:∀c,c<n→M i c=0):φ M=0:=by
 have:=A.pf i M M M 0 0 hi (fun c hc=>by rw[h c hc];rfl) fun _ _ _ _ _=>⟨rfl,rfl⟩
 omega
theorem Alt.DQ{n i:Nat}{φ:Fn→Int}(A:Alt n φ)(hi:i<n)(M:Fn)(t:Int)(x:Nat→Int):φ (upd M i fun c=>t*x c)=t*φ (upd M i x):=by
 have:=A.pf i (upd M i fun c=>t*x c) (upd M i x) (upd M i x) t 0 hi (fun c hc=>by rw[cf,cf];omega) fun r c _ _ hr=>by rw[az hr,az hr];exact⟨rfl,rfl⟩
 omega
theorem Alt.D4{n i:Nat}{φ:Fn→Int}(A:Alt n φ)(hi:i<n)(M:Fn)(x y:Nat→Int):φ (upd M i fun c=>x c+y c)=φ (upd M i x)+φ (upd M i y):=by
 have:=A.pf i (upd M i fun c=>x c+y c) (upd M i x) (upd M i y) 1 1 hi (fun c hc=>by rw[cf,cf,cf];omega) fun r c _ _ hr=>by rw[az hr,az hr,az hr];exact⟨rfl,rfl⟩
 omega
theorem Alt.uF{n i:Nat}{φ:Fn→Int}(A:Alt n φ)(hi:i<n)(M:Fn)(a:Nat→Int)(x:Nat→Nat→Int):∀m,φ (upd M i fun c=>S m fun j=>a j*x j c)=S m fun j=>a j*φ (upd M i (x j))
 |0=>A.Ji hi fun c _=>by rw[cf];rfl
 |m+1=>by
  have:(fun c=>S (m+1) fun j=>a j*x j c)=fun c=>(S m fun j=>a j*x j c)+a m*x m c:=rfl
  rw[this,A.D4 hi,A.uF hi M a x m,A.DQ hi]
  rfl
noncomputable def un(j c:Nat):Nat:=if c<j then c else c-1
noncomputable def grow(j:Nat)(B:Fn):Fn:=fun r c=>if r=0 then dl j c else if c=j then 0 else B (r-1) (un j c)
theorem uM{n j c:Nat}(hj:j<n+1)(hc:c<n+1)(h:c≠j):un j c<n:=by unfold un;split<;>omega
theorem BL{j c:Nat}(h:c≠j):sk j (un j c)=c:=by unfold sk un;grind
theorem Alt.grow{n j:Nat}{φ:Fn→Int}(A:Alt (n+1) φ)(hj:j<n+1):Alt n fun B=>φ (Mx.grow j B) where
 cg:=fun M M' h=>A.cg _ _ fun r c hr hc=>by
  have:=h (r-1) (un j c)
  have:=uM (c:=c) hj hc
  unfold Mx.grow
  grind
 pf:=fun i M P Q a b hi h0 h=>A.pf (i+1) _ _ _ a b (by omega) (fun c hc=>by
  have:=h0 (un j c)
  have:=uM (c:=c) hj hc
  have e:i+1-1=i:=by omega
  unfold Mx.grow
  rw[e]
  grind) fun r c hr hc hne=>by
  have:=h (r-1) (un j c)
  have:=uM (c:=c) hj hc
  unfold Mx.grow
  grind
 alt:=fun i k M hi hk hik h=>A.alt (i+1) (k+1) _ (by omega) (by omega) (by omega) fun c hc=>by
  have:=h (un j c)
  have:=uM (c:=c) hj hc
  have e:i+1-1=i:=by omega
  have e2:k+1-1=k:=by omega
  unfold Mx.grow
  rw[e,e2]
  grind
theorem Alt.units{n:Nat}{φ:Fn→Int}(A:Alt (n+1) φ):∀j,j<n+1→φ (Mx.grow j dl)=sg j*φ dl
 |0,_=>by
  rw[v8,Int.one_mul]
  refine A.cg _ _ fun r c hr hc=>?_
  unfold Mx.grow un dl
  grind
 |j+1,hj=>by
  have ih:=A.units j (by omega)
  have s:=A.swap (i:=0) (j:=j+1) (by omega) hj (by omega) (Mx.grow j dl)
  rw[vF,Int.neg_mul,←ih,←s]
  refine A.cg _ _ fun r c hr hc=>?_
  unfold Mx.grow un dl sw
  grind
theorem Alt.OA{n i k:Nat}{φ:Fn→Int}(A:Alt n φ)(hi:i<n)(hk:k<n)(hik:i≠k)(M:Fn)(x:Nat→Int)(t:Int):φ (upd M i fun c=>x c+t*M k c)=φ (upd M i x):=by
 rw[A.D4 hi,A.DQ hi M t (M k),A.alt i k (upd M i (M k)) hi hk hik fun c _=>by rw[cf,az (Ne.symm hik)],Int.mul_zero,Int.add_zero]
noncomputable def zr(j m:Nat)(M:Fn):Fn:=fun r c=>if r=0 then dl j c else if r≤m∧c=j then 0 else M r c
theorem Alt.zr{n j:Nat}{φ:Fn→Int}(A:Alt (n+1) φ)(M:Fn):∀m,m≤n→φ (Mx.zr j m M)=φ (upd M 0 (dl j))
 |0,_=>A.cg _ _ fun r c hr hc=>by unfold Mx.zr upd;grind
 |m+1,hm=>by
  rw[←A.zr M m (by omega)]
  have e:=A.OA (i:=m+1) (k:=0) (by omega) (by omega) (by omega) (Mx.zr j m M) (M (m+1)) (-M (m+1) j)
  have e1:φ (Mx.zr j (m+1) M)=φ (upd (Mx.zr j m M) (m+1) fun c=>M (m+1) c+ -M (m+1) j*Mx.zr j m M 0 c):=A.cg _ _ fun r c hr hc=>by
   unfold upd Mx.zr dl
   by_cases h0:r=m+1
   · subst h0
     by_cases h1:c=j
     · subst h1;simp;omega
     · have:¬j=c:=fun z=>h1 z.symm
       simp[h1,this]
   · rw[if_neg h0]
     grind
  have e2:φ (upd (Mx.zr j m M) (m+1) (M (m+1)))=φ (Mx.zr j m M):=A.cg _ _ fun r c hr hc=>by
   unfold upd Mx.zr
   grind
  rw[e1,e,e2]
theorem A9:∀ {n:Nat} {φ:Fn→Int},Alt n φ→∀M,φ M=φ dl*D n M
 |0,φ,A,M=>by rw[CM,Int.mul_one];exact A.cg _ _ fun r c hr=>by omega
 |n+1,φ,A,M=>by
  have h1:φ M=S (n+1) fun j=>M 0 j*φ (upd M 0 (dl j)):=by
   rw[←A.uF (by omega) M (M 0) dl (n+1)]
   refine A.cg _ _ fun r c hr hc=>?_
   by_cases h0:r=0
   · subst h0
     rw[cf,oZ hc]
   · rw[az h0]
  have h2:∀j,j<n+1→φ (upd M 0 (dl j))=φ (Mx.grow j fun r c=>M (r+1) (sk j c)):=fun j hj=>by
   rw[←A.zr M n (Nat.le_refl _)]
   refine A.cg _ _ fun r c hr hc=>?_
   unfold Mx.grow Mx.zr
   by_cases h0:r=0
   · rw[if_pos h0,if_pos h0]
   · rw[if_neg h0,if_neg h0]
     by_cases h3:c=j
     · rw[if_pos ⟨by omega,h3⟩,if_pos h3]
     · rw[if_neg (by omega),if_neg h3]
       dsimp only
       rw[BL h3,show r-1+1=r by omega]
  rw[h1,dz,←eV]
  refine aF fun j hj=>?_
  have h3:=A9 (A.grow hj) fun r c=>M (r+1) (sk j c)
  have h4:=A.units j hj
  have h5:φ (Mx.grow j fun r c=>M (r+1) (sk j c))=φ (Mx.grow j dl)*D n fun r c=>M (r+1) (sk j c):=h3
  rw[h2 j hj,h5,h4]
  grind
theorem vW:∀n,D n dl=1
 |0=>rfl
 |n+1=>by
  rw[dz,mP (k:=0) (by omega) fun j hj h0=>by rw[e7 (Ne.symm h0),Int.mul_zero,Int.zero_mul]]
  have:D n (fun r c=>dl (r+1) (sk 0 c))=D n dl:=c8 fun r c _ _=>by
   unfold dl sk
   grind
  rw[this,vW n,eG];rfl
theorem F_(n:Nat)(A B:Fn):D n (fun r c=>S n fun k=>A r k*B k c)=D n A*D n B:=by
 have al:Alt n fun A=>D n (fun r c=>S n fun k=>A r k*B k c):=by
  refine⟨fun M M' h=>c8 fun r c hr hc=>aF fun k hk=>by rw[h r k hr hk],fun i M P Q a b hi h0 h=>(r8 n).pf i _ _ _ a b hi (fun c hc=>?_) fun r c hr hc hne=>⟨aF fun k hk=>by rw[(h r k hr hk hne).1],aF fun k hk=>by rw[(h r k hr hk hne).2]⟩,fun i j M hi hj hij h=>(r8 n).alt i j _ hi hj hij fun c hc=>aF fun k hk=>by rw[h k hk]⟩
  show(S n fun k=>M i k*B k c)=a*(S n fun k=>P i k*B k c)+b*S n fun k=>Q i k*B k c
  rw[←eV,←eV,←h8]
  refine aF fun k hk=>?_
  rw[h0 k hk]
  grind
 have h:=A9 al A
 have e:D n (fun r c=>S n fun k=>dl r k*B k c)=D n B:=c8 fun r c hr hc=>nq hr fun k=>B k c
 rw[h,e,Int.mul_comm]
theorem DF:∀ {n:Nat} {M P Q:Fn} {a b:Int} {i:Nat},i<n→(∀r,r<n→M r i=a*P r i+b*Q r i)→(∀r c,r<n→c<n→c≠i→M r c=P r c∧M r c=Q r c)→D n M=a*D n P+b*D n Q
 |0,_,_,_,_,_,_,h,_,_=>by omega
 |n+1,M,P,Q,a,b,i,hi,h0,h=>by
  rw[dz,dz,dz,←eV,←eV,←h8]
  refine aF fun j hj=>?_
  by_cases hij:j=i
  · subst hij
    have hs:∀c,sk j c≠j:=fun c=>by unfold sk;split<;>omega
    have e1:D n (fun r c=>M (r+1) (sk j c))=D n (fun r c=>P (r+1) (sk j c)):=c8 fun r c hr hc=>(h (r+1) (sk j c) (by omega) (j7 hc) (hs c)).1
    have e2:D n (fun r c=>M (r+1) (sk j c))=D n (fun r c=>Q (r+1) (sk j c)):=c8 fun r c hr hc=>(h (r+1) (sk j c) (by omega) (j7 hc) (hs c)).2
    rw[h0 0 (by omega),←e1,←e2]
    grind
  · have p:=h 0 j (by omega) hj hij
    have hu:sk j (un j i)=i:=BL (Ne.symm hij)
    have hs:∀c,c≠un j i→sk j c≠i:=fun c hc=>by unfold sk;unfold un at hc;grind
    have hlt:un j i<n:=uM hj hi (Ne.symm hij)
    have e:=DF (n:=n) (M:=fun r c=>M (r+1) (sk j c)) (P:=fun r c=>P (r+1) (sk j c)) (Q:=fun r c=>Q (r+1) (sk j c)) (a:=a) (b:=b) (i:=un j i) hlt (fun r hr=>by
     rw[hu]
     exact h0 (r+1) (by omega)) fun r c hr hc hne=>h (r+1) (sk j c) (by omega) (j7 hc) (hs c hne)
    rw[e,←p.1,←p.2]
    grind
theorem C3:∀ {n:Nat} {M:Fn} {i:Nat},i+1<n→(∀r,r<n→M r i=M r (i+1))→D n M=0
 |0,_,_,h,_=>by omega
 |n+1,M,i,hi,h=>by
  rw[dz]
  have key:∀j,j<n+1→j≠i→j≠i+1→D n (fun r c=>M (r+1) (sk j c))=0:=fun j hj h1 h2=>by
   refine C3 (i:=un j i) (by unfold un;split<;>omega) fun r hr=>?_
   have e1:sk j (un j i)=i:=BL (Ne.symm h1)
   have e2:sk j (un j i+1)=i+1:=by unfold sk un;grind
   rw[e1,e2]
   exact h (r+1) (by omega)
  have e:D n (fun r c=>M (r+1) (sk i c))=D n (fun r c=>M (r+1) (sk (i+1) c)):=c8 fun r c hr hc=>by
   by_cases hc2:c=i
   · subst hc2
     have a1:sk c c=c+1:=by unfold sk;rw[if_neg (by omega)]
     have a2:sk (c+1) c=c:=by unfold sk;rw[if_pos (by omega)]
     rw[a1,a2]
     exact(h (r+1) (by omega)).symm
   · have a1:sk i c=sk (i+1) c:=by unfold sk;grind
     rw[a1]
  have two:∀(m:Nat) (f:Nat→Int),i+1<m→(∀j,j<m→j≠i→j≠i+1→f j=0)→S m f=f i+f (i+1):=fun m=>by
   induction m with
   |zero=>intro f h;omega
   |succ m ih=>
    intro f hm hf
    show S m f+f m=_
    by_cases hmi:m=i+1
    · subst hmi
      rw[mP (k:=i) (by omega) fun j hj hne=>hf j (by omega) hne (by omega)]
    · rw[ih f (by omega) fun j hj h1 h2=>hf j (by omega) h1 h2,hf m (by omega) (by omega) hmi,Int.add_zero]
  rw[two (n+1) _ hi fun j hj h1 h2=>by rw[key j hj h1 h2,Int.mul_zero],e,vF,h 0 (by omega)]
  grind
noncomputable def tr(M:Fn):Fn:=fun r c=>M c r
theorem yk(n:Nat)(M:Fn):D n (tr M)=D n M:=by
 have al:Alt n fun A=>D n (tr A):=va (fun M M' h=>c8 fun r c hr hc=>h c r hc hr)
  (fun i M P Q a b hi h0 h=>DF hi (fun r hr=>h0 r hr) fun r c hr hc hne=>h c r hc hr hne)
  fun i M hi h=>C3 hi fun r hr=>h r hr
 have h:=A9 al M
 have e:D n (tr dl)=D n dl:=c8 fun r c _ _=>vL c r
 have h2:D n (tr M)=D n (tr dl)*D n M:=h
 rw[h2,e,vW,Int.one_mul]
noncomputable def Pr:Nat→(Nat→Int)→Int
 |0,_=>1
 |n+1,f=>Pr n f*f n
theorem AB:∀(n:Nat) (f:Nat→Int),Pr (n+1) f=f 0*Pr n fun i=>f (i+1)
 |0,f=>by show 1*f 0=f 0*1;omega
 |n+1,f=>by
  have:Pr (n+1+1) f=Pr (n+1) f*f (n+1):=rfl
  rw[this,AB n f]
  have:Pr (n+1) (fun i=>f (i+1))=Pr n (fun i=>f (i+1))*f (n+1):=rfl
  rw[this,Int.mul_assoc]
theorem GO:∀ {n:Nat} {M:Fn},(∀r c,r<n→c<n→r<c→M r c=0)→D n M=Pr n fun i=>M i i
 |0,_,_=>rfl
 |n+1,M,h=>by
  rw[dz,mP (k:=0) (by omega) fun j hj h0=>by rw[h 0 j (by omega) hj (by omega),Int.mul_zero,Int.zero_mul],AB,v8,Int.one_mul]
  have s:∀c,sk 0 c=c+1:=fun c=>by unfold sk;rw[if_neg (by omega)]
  have e:D n (fun r c=>M (r+1) (sk 0 c))=Pr n fun i=>M (i+1) (i+1):=by
   rw[GO fun r c hr hc hrc=>by rw[s];exact h (r+1) (c+1) (by omega) (by omega) (by omega)]
   simp only[s]
  rw[e]
theorem NW{n:Nat}{M:Fn}(h:∀r c,r<n→c<n→c<r→M r c=0):D n M=Pr n fun i=>M i i:=by
 rw[←yk n M,GO (M:=tr M) fun r c hr hc hrc=>h c r hc hr hrc]
 rfl
theorem yU:∀ {n:Nat} {M:Fn},(∀c,c<n+1→M n c=dl n c)→D (n+1) M=D n M
 |0,M,h=>by
  rw[dz]
  show 0+sg 0*M 0 0*D 0 _=1
  rw[h 0 (by omega),eG,v8,CM];omega
 |n+1,M,h=>by
  have e1:∀j,j<n+1→D (n+1) (fun r c=>M (r+1) (sk j c))=D n (fun r c=>M (r+1) (sk j c)):=fun j hj=>yU fun c hc=>by
   rw[h (sk j c) (j7 hc)]
   unfold dl sk
   grind
  have e2:D (n+1) (fun r c=>M (r+1) (sk (n+1) c))=0:=(r8 (n+1)).Ji (i:=n) (by omega) fun c hc=>by
   have s:sk (n+1) c=c:=by unfold sk;rw[if_pos (by omega)]
   rw[s,h c (by omega),e7 (by omega)]
  have e3:D (n+1+1) M=(S (n+1) fun j=>sg j*M 0 j*D (n+1) fun r c=>M (r+1) (sk j c))+sg (n+1)*M 0 (n+1)*D (n+1) (fun r c=>M (r+1) (sk (n+1) c)):=dz (n+1) M
  rw[e3,e2,Int.mul_zero,Int.add_zero,dz]
  exact aF fun j hj=>by rw[e1 j hj]
end Mx
namespace Mx
noncomputable def gx(R:Fn)(p:Nat)(x:Nat→Int)(j:Nat):Int:=D (p+1) fun r c=>if r<p then R r (if c<p then c else j)else x (if c<p then c else j)
theorem J_{R:Fn}{p j:Nat}{x:Nat→Int}(h:j<p):gx R p x j=0:=by
 unfold gx
 rw[←yk]
 refine(r8 (p+1)).alt j p _ (by omega) (by omega) (by omega) fun c hc=>?_
 unfold tr
 dsimp only
 rw[if_pos h,if_neg (Nat.lt_irrefl p)]
noncomputable def bt(R:Fn)(p:Nat)(x:Nat→Int)(k:Nat):Int:=D (p+1) (upd (fun c r=>if r<p then R r c else x c) p (dl k))
theorem MW(R:Fn)(p:Nat)(x:Nat→Int)(j:Nat):gx R p x j=D p R*x j+S p fun k=>bt R p x k*R k j:=by
 have e1:gx R p x j=D (p+1) (upd (fun c r=>if r<p then R r c else x c) p fun r=>S (p+1) fun k=>(if k<p then R k j else x j)*dl k r):=by
  unfold gx
  rw[←yk]
  refine c8 fun c r hc hr=>?_
  unfold tr upd
  by_cases h:c=p
  · subst h
    rw[if_pos rfl]
    dsimp only
    rw[oZ hr,if_neg (Nat.lt_irrefl _)]
  · rw[if_neg h]
    dsimp only
    rw[if_pos (show c<p by omega)]
 rw[e1,(r8 (p+1)).uF (by omega)]
 have e2:D (p+1) (upd (fun c r=>if r<p then R r c else x c) p (dl p))=D p R:=by
  rw[yU fun c _=>cf _ _ _ _]
  rw[←yk]
  refine c8 fun r c hr hc=>?_
  unfold tr
  rw[az (by omega),if_pos (by omega)]
 have e3:(S (p+1) fun k=>(if k<p then R k j else x j)*D (p+1) (upd (fun c r=>if r<p then R r c else x c) p (dl k)))=(S p fun k=>(if k<p then R k j else x j)*D (p+1) (upd (fun c r=>if r<p then R r c else x c) p (dl k)))+(if p<p then R p j else x j)*D (p+1) (upd (fun c r=>if r<p then R r c else x c) p (dl p)):=rfl
 rw[e3,e2,if_neg (Nat.lt_irrefl p),Int.add_comm,Int.mul_comm]
 congr 1
 refine aF fun k hk=>?_
 rw[if_pos hk,Int.mul_comm]
 rfl
noncomputable def cl(p j1 j2 c:Nat):Nat:=if c<p then c else if c=p then j1 else j2
theorem AW{n:Nat}{f:Nat→Int}{m:Nat}(h:∀i,i<n→(f i).natAbs≤m):(S n f).natAbs≤n*m:=by
 induction n with
 |zero=>simp[S]
 |succ n ih=>
  have h1:=ih fun i hi=>h i (by omega)
  have h2:=h n (by omega)
  show(S n f+f n).natAbs≤_
  rw[Nat.succ_mul]
  omega
end Mx
namespace Mx
end Mx
namespace Mx
noncomputable def lam(G:Fn)(i j:Nat):Int:=gx G j (G i) j
noncomputable def Og(A:Rows):Fn:=fun i j=>Kd (A.getD i []) (A.getD j [])
end Mx
namespace Mx
noncomputable def Mb(G:Fn)(i:Nat):Row:=(List.range (i+1)).map fun j=>lam G i j
noncomputable def KS(G:Fn)(n:Nat):Rows:=(List.range n).map (Mb G)
end Mx
namespace Mx
noncomputable def RA(A:Rows)(N:Nat):Fn:=fun i j=>if j<N then Og A i j else(A.getD i []).getD (j-N) 0
noncomputable def ev(A:Rows)(N i k c:Nat):Int:=gx (RA A N) k (RA A N i) (N+c)
theorem B_(n:Nat)(a b:Int)(f g:Nat→Int):S n (fun c=>a*f c-b*g c)=a*S n f-b*S n g:=by
 induction n with
 |zero=>show(0:Int)=a*0-b*0;omega
 |succ n ih=>
  show S n (fun c=>a*f c-b*g c)+(a*f n-b*g n)=a*(S n f+f n)-b*(S n g+g n)
  rw[ih,Int.mul_add,Int.mul_add];omega
section
variable {A:Rows}{N w:Nat}
end
end Mx
namespace Mx
end Mx
namespace Mx
noncomputable def OK(M:Fn)(k j:Nat)(q:Int):Fn:=fun a b=>if a=k then M a b-q*M j b else M a b
noncomputable def OH(M:Fn)(k j:Nat)(q:Int):Fn:=fun a b=>if b=k then M a b-q*M a j else M a b
noncomputable def tk(G:Fn)(k j:Nat)(q:Int):Fn:=OH (OK G k j q) k j q
end Mx
namespace Mx
section
variable {G:Fn}{t:Nat}(sym:∀i j,G i j=G j i)
include sym
end
end Mx
namespace Mx
section
variable {A:Rows}{N w:Nat}
theorem cJ(hA:bY N w A){i:Nat}(hi:i<N):(A.getD i []).length=w:=hA.iV _ (by have:=hA.len;rw[bf (by omega)];exact List.getElem_mem _)
end
end Mx
namespace Mx
noncomputable def bN(A:Rows)(k:Nat)(q:Int)(j:Nat):Rows:=A.set k (fm (A.getD k []) (-q) (A.getD j []))
noncomputable def bH(A:Rows)(k o:Nat):Rows:=(A.set k (A.getD o [])).set o (A.getD k [])
theorem kH{A:Rows}{k i:Nat}{r:Row}(hk:k<A.length):(A.set k r).getD i []=if i=k then r else A.getD i []:=by
 rw[List.getD_eq_getElem?_getD,List.getElem?_set]
 by_cases h:k=i
 · rw[if_pos h,if_pos (by omega),if_pos h.symm];rfl
 · rw[if_neg h,if_neg (Ne.symm h),List.getD_eq_getElem?_getD]
theorem DL{A:Rows}{k j:Nat}{q:Int}:(bN A k q j).length=A.length:=by unfold bN;rw[List.length_set]
theorem tY{A:Rows}{N w k j:Nat}{q:Int}(hA:bY N w A)(hk:k<N)(hj:j<N):bY N w (bN A k q j):=by
 refine⟨DL.trans hA.len,fun r hr=>?_⟩
 unfold bN at hr
 rcases List.mem_or_eq_of_mem_set hr with h|rfl
 · exact hA.iV r h
 · rw[jr (by rw[cJ hA hk,cJ hA hj]),cJ hA hk]
end Mx
namespace Mx
structure Tn(A0 A U C:Rows)(N w:Nat):Prop where
 isA:bY N w A
 eQ:bY N N U
 f_:bY N N C
 ua:∀i c,i<N→c<w→g A i c=S N fun k=>g U i k*g A0 k c
 ub:∀i j,i<N→j<N→S N (fun k=>g U i k*g C j k)=dl i j
 bu:∀i j,i<N→j<N→S N (fun k=>g C k i*g U k j)=dl i j
theorem ff{A:Rows}{N w k j:Nat}{q:Int}(hA:bY N w A)(hk:k<N)(hj:j<N)(i c:Nat):g (bN A k q j) i c=if i=k then g A k c-q*g A j c else g A i c:=by
 unfold g bN
 have hl:=hA.len
 rw[kH (by omega)]
 by_cases h:i=k
 · rw[if_pos h,if_pos h,pD (by rw[cJ hA hk,cJ hA hj]),Int.neg_mul];omega
 · rw[if_neg h,if_neg h]
theorem uX(n:Nat)(a b:Int)(f h:Nat→Int):S n (fun c=>a*f c+b*h c)=a*S n f+b*S n h:=by
 rw[h8,eV,eV]
theorem Tn.take{A0 A U C:Rows}{N w k j:Nat}{q:Int}(T:Tn A0 A U C N w)(hk:k<N)(hj:j<N)(hkj:j≠k):Tn A0 (bN A k q j) (bN U k q j) (bN C j (-q) k) N w where
 isA:=tY T.isA hk hj
 eQ:=tY T.eQ hk hj
 f_:=tY T.f_ hj hk
 ua:=fun i c hi hc=>by
  rw[ff T.isA hk hj]
  have e:S N (fun m=>g (bN U k q j) i m*g A0 m c)=S N fun m=>(if i=k then g U k m-q*g U j m else g U i m)*g A0 m c:=aF fun m _=>by rw[ff T.eQ hk hj]
  rw[e]
  by_cases h:i=k
  · simp only[if_pos h]
    rw[T.ua k c hk hc,T.ua j c hj hc]
    have e2:S N (fun m=>(g U k m-q*g U j m)*g A0 m c)=S N fun m=>1*(g U k m*g A0 m c)-q*(g U j m*g A0 m c):=aF fun m _=>by grind
    rw[e2,B_];omega
  · simp only[if_neg h]
    exact T.ua i c hi hc
 ub:=fun i l hi hl=>by
  have e:S N (fun m=>g (bN U k q j) i m*g (bN C j (-q) k) l m)=S N fun m=>(if i=k then g U k m-q*g U j m else g U i m)*(if l=j then g C j m- -q*g C k m else g C l m):=aF fun m _=>by rw[ff T.eQ hk hj,ff T.f_ hj hk]
  rw[e]
  have djk:dl j k=0:=e7 hkj
  by_cases h:i=k
  · by_cases h2:l=j
    · simp only[if_pos h,if_pos h2]
      have e2:S N (fun m=>(g U k m-q*g U j m)*(g C j m- -q*g C k m))=S N fun m=>1*(1*(g U k m*g C j m)+q*(g U k m*g C k m))-q*(1*(g U j m*g C j m)+q*(g U j m*g C k m)):=aF fun m _=>by grind
      rw[e2,B_,uX,uX,T.ub k j hk hj,T.ub k k hk hk,T.ub j j hj hj,T.ub j k hj hk,h,h2,eG,eG,djk,vL k j,djk]
      omega
    · simp only[if_pos h,if_neg h2]
      have e2:S N (fun m=>(g U k m-q*g U j m)*g C l m)=S N fun m=>1*(g U k m*g C l m)-q*(g U j m*g C l m):=aF fun m _=>by grind
      rw[e2,B_,T.ub k l hk hl,T.ub j l hj hl,h,e7 (Ne.symm h2)]
      omega
  · by_cases h2:l=j
    · simp only[if_neg h,if_pos h2]
      have e2:S N (fun m=>g U i m*(g C j m- -q*g C k m))=S N fun m=>1*(g U i m*g C j m)+q*(g U i m*g C k m):=aF fun m _=>by grind
      rw[e2,uX,T.ub i j hi hj,T.ub i k hi hk,h2,e7 h]
      omega
    · simp only[if_neg h,if_neg h2]
      exact T.ub i l hi hl
 bu:=fun i l hi hl=>by
  have e:S N (fun m=>g (bN C j (-q) k) m i*g (bN U k q j) m l)=S N fun m=>g C m i*g U m l+((q*(g C k i*g U j l))*dl m j+(-(q*(g C k i*g U j l)))*dl m k):=aF fun m _=>by
   rw[ff T.eQ hk hj,ff T.f_ hj hk]
   by_cases h1:m=j
   · have h2:m≠k:=by omega
     rw[if_pos h1,if_neg h2,h1,eG,e7 hkj];grind
   · rw[if_neg h1,e7 h1]
     by_cases h2:m=k
     · rw[if_pos h2,h2,eG];grind
     · rw[if_neg h2,e7 h2];grind
  rw[e,h8,uX,T.bu i l hi hl]
  have e1:S N (fun c=>dl c j)=1:=by
   rw[mP hj fun i _ h=>e7 h,eG]
  have e2:S N (fun c=>dl c k)=1:=by
   rw[mP hk fun i _ h=>e7 h,eG]
  rw[e1,e2];omega
end Mx
namespace Mx
theorem yF{A:Rows}{k o i:Nat}(hk:k<A.length)(ho:o<A.length):(bH A k o).getD i []=A.getD (sw k o i) []:=by
 unfold bH
 rw[kH (by rw[List.length_set];exact ho),kH hk]
 unfold sw
 by_cases h1:i=k
 · rw[if_pos h1,if_pos h1]
   by_cases h2:i=o
   · rw[if_pos h2,←h1,←h2]
   · rw[if_neg h2]
 · rw[if_neg h1,if_neg h1]
   by_cases h2:i=o
   · rw[if_pos h2,if_pos h2]
   · rw[if_neg h2,if_neg h2]
theorem tT{A:Rows}{N w k o:Nat}(hA:bY N w A)(hk:k<N)(ho:o<N):bY N w (bH A k o):=by
 refine⟨by unfold bH;rw[List.length_set,List.length_set];exact hA.len,fun r hr=>?_⟩
 unfold bH at hr
 rcases List.mem_or_eq_of_mem_set hr with h|rfl
 · rcases List.mem_or_eq_of_mem_set h with h|rfl
   · exact hA.iV r h
   · exact cJ hA ho
 · exact cJ hA hk
theorem jG{A:Rows}{N w k o:Nat}(hA:bY N w A)(hk:k<N)(ho:o<N)(i c:Nat):g (bH A k o) i c=g A (sw k o i) c:=by
 unfold g
 rw[yF (by have:=hA.len;omega) (by have:=hA.len;omega)]
theorem qH{k o N i:Nat}(hk:k<N)(ho:o<N)(hi:i<N):sw k o i<N:=by unfold sw;split<;>(try split)<;>assumption
theorem Eb(k o x:Nat):sw k o (sw k o x)=x:=by
 unfold sw
 by_cases h1:x=k
 · subst h1
   rw[if_pos rfl]
   by_cases h2:o=x
   · rw[if_pos h2];exact h2
   · rw[if_neg h2,if_pos rfl]
 · rw[if_neg h1]
   by_cases h2:x=o
   · subst h2;rw[if_pos rfl,if_pos rfl]
   · rw[if_neg h2,if_neg h1,if_neg h2]
theorem LZ{k o a b:Nat}:dl (sw k o a) (sw k o b)=dl a b:=by
 by_cases h:a=b
 · rw[h,eG,eG]
 · rw[e7 h,e7 fun z=>h (by rw[←Eb k o a,←Eb k o b,z])]
theorem GX(k x:Nat):sw k k x=x:=by
 unfold sw
 by_cases h:x=k
 · rw[if_pos h,h]
 · rw[if_neg h,if_neg h]
theorem M9{n i j:Nat}(hi:i<n)(hj:j<n)(f:Nat→Int):S n (fun k=>f (sw i j k))=S n f:=by
 by_cases h:i=j
 · subst h;exact aF fun k _=>by rw[GX]
 · exact Ox hi hj h f
theorem Tn.Gu{A0 A U C:Rows}{N w k o:Nat}(T:Tn A0 A U C N w)(hk:k<N)(ho:o<N):Tn A0 (bH A k o) (bH U k o) (bH C k o) N w where
 isA:=tT T.isA hk ho
 eQ:=tT T.eQ hk ho
 f_:=tT T.f_ hk ho
 ua:=fun i c hi hc=>by
  rw[jG T.isA hk ho,T.ua _ c (qH hk ho hi) hc]
  exact aF fun m _=>by rw[jG T.eQ hk ho]
 ub:=fun i j hi hj=>by
  rw[←LZ (k:=k) (o:=o),←T.ub _ _ (qH hk ho hi) (qH hk ho hj)]
  exact aF fun m _=>by rw[jG T.eQ hk ho,jG T.f_ hk ho]
 bu:=fun i j hi hj=>by
  rw[←T.bu i j hi hj,←M9 hk ho fun m=>g C m i*g U m j]
  exact aF fun m _=>by rw[jG T.eQ hk ho,jG T.f_ hk ho]
noncomputable def gp(A:Rows)(k:Nat):Rows:=A.set k ((A.getD k []).map fun x=> -x)
theorem zg{A:Rows}{N w k:Nat}(hA:bY N w A)(hk:k<N):bY N w (gp A k):=by
 refine⟨by unfold gp;rw[List.length_set];exact hA.len,fun r hr=>?_⟩
 unfold gp at hr
 rcases List.mem_or_eq_of_mem_set hr with h|rfl
 · exact hA.iV r h
 · rw[List.length_map];exact cJ hA hk
theorem Fh(r:Row)(c:Nat):(r.map fun x=> -x).getD c 0= -r.getD c 0:=by
 rw[List.getD_eq_getElem?_getD,List.getD_eq_getElem?_getD,List.getElem?_map]
 cases r[c]?<;>rfl
theorem j_{A:Rows}{N w k:Nat}(hA:bY N w A)(hk:k<N)(i c:Nat):g (gp A k) i c=if i=k then-g A k c else g A i c:=by
 unfold g gp
 rw[kH (by have:=hA.len;omega)]
 by_cases h:i=k
 · rw[if_pos h,if_pos h,Fh]
 · rw[if_neg h,if_neg h]
theorem Tn.neg{A0 A U C:Rows}{N w k:Nat}(T:Tn A0 A U C N w)(hk:k<N):Tn A0 (gp A k) (gp U k) (gp C k) N w where
 isA:=zg T.isA hk
 eQ:=zg T.eQ hk
 f_:=zg T.f_ hk
 ua:=fun i c hi hc=>by
  rw[j_ T.isA hk]
  by_cases h:i=k
  · rw[if_pos h,T.ua k c hk hc,←u6]
    exact aF fun m _=>by rw[j_ T.eQ hk,if_pos h,Int.neg_mul]
  · rw[if_neg h,T.ua i c hi hc]
    exact aF fun m _=>by rw[j_ T.eQ hk,if_neg h]
 ub:=fun i j hi hj=>by
  have e:S N (fun m=>g (gp U k) i m*g (gp C k) j m)=S N fun m=>(if i=k then-1 else 1)*(if j=k then-1 else 1)*(g U i m*g C j m):=aF fun m _=>by
   rw[j_ T.eQ hk,j_ T.f_ hk]
   by_cases h1:i=k<;>by_cases h2:j=k<;>simp only[h1,h2,if_true,if_false]<;>grind
  rw[e,eV,T.ub i j hi hj]
  by_cases h1:i=k
  · by_cases h2:j=k
    · simp[h1,h2]
    · rw[e7 (by omega)];simp
  · by_cases h2:j=k
    · rw[e7 (by omega)];simp
    · simp[h1,h2]
 bu:=fun i j hi hj=>by
  rw[←T.bu i j hi hj]
  exact aF fun m _=>by
   rw[j_ T.eQ hk,j_ T.f_ hk]
   by_cases h:m=k
   · subst h;rw[if_pos rfl,if_pos rfl];grind
   · rw[if_neg h,if_neg h]
structure l8(A:Rows)(N top p:Nat)(L:List Nat):Prop where
 mem:∀k,k∈L↔top≤k∧k<N∧g A k p≠0
 ord:L.Pairwise fun i j=>(g A i p).natAbs<(g A j p).natAbs∨((g A i p).natAbs=(g A j p).natAbs∧i<j)
structure B3 where
 A:Rows
 U:Rows
 C:Rows
noncomputable def qn(x y:Int):Int:=(2*x+y).fdiv (2*y)
noncomputable def jR(b:B3)(p k j:Nat):B3:=⟨bN b.A k (qn (g b.A k p) (g b.A j p)) j,bN b.U k (qn (g b.A k p) (g b.A j p)) j,bN b.C j (-(qn (g b.A k p) (g b.A j p))) k⟩
noncomputable def GJ(N top p:Nat)(b c:B3):Prop:=∃(L:List Nat) (k j:Nat),l8 b.A N top p (L++[j,k])∧c=jR b p k j
inductive iZ(N top p:Nat):B3→B3→Prop
 |refl (b:B3):iZ N top p b b
 |head {b c d:B3} (h:GJ N top p b c) (t:iZ N top p c d):iZ N top p b d
theorem iZ.tail{N top p:Nat}{b c d:B3}(h:iZ N top p b c)(t:GJ N top p c d):iZ N top p b d:=by
 induction h with
 |refl b=>exact .head t (.refl _)
 |head x _ ih=>exact .head x (ih t)
noncomputable def gv(X:Rows)(N top m:Nat):Prop:=∀i c,top≤i→i<N→(g X i c).natAbs≤m
noncomputable def PR(f:Nat→Nat):Nat→Nat
 |0=>1
 |n+1=>PR f n*f n
theorem C7{f:Nat→Nat}(h:∀i,1≤f i):∀n,1≤PR f n
 |0=>Nat.le_refl _
 |n+1=>Nat.mul_le_mul (C7 h n) (h n)
theorem yN{f f':Nat→Nat}:∀ {n:Nat},(∀i,i<n→f i=f' i)→PR f n=PR f' n
 |0,_=>rfl
 |n+1,h=>by
  show PR f n*f n=PR f' n*f' n
  rw[yN fun i hi=>h i (Nat.lt_succ_of_lt hi),h n (Nat.lt_succ_self n)]
theorem Dc{f f':Nat→Nat}{k:Nat}:∀ {n:Nat},k<n→(∀i,i≠k→f i=f' i)→PR f n*f' k=PR f' n*f k
 |0,hk,_=>absurd hk (Nat.not_lt_zero _)
 |n+1,hk,h=>by
  show PR f n*f n*f' k=PR f' n*f' n*f k
  by_cases e:k=n
  · subst e
    rw[yN (n:=k) fun i hi=>h i (Nat.ne_of_lt hi),Nat.mul_assoc,Nat.mul_comm (f k),Nat.mul_assoc]
  · have:=Dc (n:=n) (by omega) h
    rw[h n (Ne.symm e),Nat.mul_right_comm,this,Nat.mul_right_comm]
theorem Gd{f:Nat→Nat}{m top:Nat}(hm:1≤m):∀ {n:Nat},(∀i,i<n→i<top→f i≤1)→(∀i,i<n→f i≤m)→PR f n≤m^(n-top)
 |0,_,_=>by simp[PR]
 |n+1,h1,h2=>by
  have ih:=Gd hm (n:=n) (fun i hi=>h1 i (Nat.lt_succ_of_lt hi)) fun i hi=>h2 i (Nat.lt_succ_of_lt hi)
  show PR f n*f n≤_
  by_cases ht:n<top
  · have z:n+1-top=n-top:=by omega
    rw[z]
    exact Nat.le_trans (Nat.mul_le_mul ih (h1 n (Nat.lt_succ_self n) ht)) (by rw[Nat.mul_one];exact Nat.le_refl _)
  · have z:n+1-top=(n-top)+1:=by omega
    rw[z,Nat.pow_succ]
    exact Nat.mul_le_mul ih (h2 n (Nat.lt_succ_self n))
noncomputable def wt(A:Rows)(top p i:Nat):Nat:=if top≤i∧g A i p≠0 then 2*(g A i p).natAbs else 1
theorem DY(A:Rows)(top p i:Nat):1≤wt A top p i:=by
 unfold wt
 split<;>omega
theorem AL{x y:Int}(hy:y≠0):2*(x-qn x y*y).natAbs≤y.natAbs:=by
 unfold qn
 have h1:=Int.mul_fdiv_add_fmod (2*x+y) (2*y)
 have h2:(2*x+y).fmod (2*y)=2*x+y-2*y*(2*x+y).fdiv (2*y):=by omega
 generalize(2*x+y).fdiv (2*y)=q at*
 have e:2*(x-q*y)=(2*x+y).fmod (2*y)-y:=by rw[h2];grind
 rcases Int.lt_or_gt_of_ne hy with h|h
 · have a0:=Int.neg_fmod_neg (2*x+y) (2*y)
   have a1:=Int.fmod_nonneg_of_pos (-(2*x+y)) (show 0< -(2*y) by omega)
   have a2:=Int.fmod_lt_of_pos (-(2*x+y)) (show 0< -(2*y) by omega)
   omega
 · have a1:=Int.fmod_nonneg_of_pos (2*x+y) (show 0<2*y by omega)
   have a2:=Int.fmod_lt_of_pos (2*x+y) (show 0<2*y by omega)
   omega
theorem HF{x y:Int}(hy:y≠0)(hxy:y.natAbs≤x.natAbs):(1+(qn x y).natAbs)*(if x-qn x y*y≠0 then 2*(x-qn x y*y).natAbs else 1)≤2*x.natAbs:=by
 have h2:=AL (x:=x) hy
 generalize qn x y=q at*
 generalize hr:x-q*y=r at*
 have hx:x=q*y+r:=by omega
 have hq:(q*y).natAbs=q.natAbs*y.natAbs:=Int.natAbs_mul ..
 by_cases h0:r=0
 · rw[if_neg (fun z=>z h0),Nat.mul_one]
   subst h0
   have hxa:x.natAbs=q.natAbs*y.natAbs:=by rw[←hq,hx];simp
   have hy1:1≤y.natAbs:=by omega
   have hq1:1≤q.natAbs:=by
    rcases Nat.eq_zero_or_pos q.natAbs with z|z
    · rw[z,Nat.zero_mul]at hxa;omega
    · exact z
   have:q.natAbs≤q.natAbs*y.natAbs:=Nat.le_mul_of_pos_right _ hy1
   omega
 · rw[if_pos h0]
   have hr1:1≤r.natAbs:=by omega
   have key:(1+q.natAbs)*r.natAbs≤x.natAbs:=by
    rcases Nat.lt_or_ge q.natAbs 2 with hlt|hge
    · rcases Nat.lt_or_ge q.natAbs 1 with h|h
      · have z:q.natAbs=0:=by omega
        have zq:q=0:=by omega
        subst zq
        simp at hx
        subst hx
        simp
      · have z:q.natAbs=1:=by omega
        rw[z]at hq⊢
        have:(q*y).natAbs=y.natAbs:=by omega
        have h3:x.natAbs=y.natAbs+r.natAbs∨x.natAbs+r.natAbs=y.natAbs∨x.natAbs+y.natAbs=r.natAbs:=by omega
        omega
    · have h3:(q*y).natAbs≤x.natAbs+r.natAbs:=by omega
      rw[hq]at h3
      have h4:q.natAbs*(2*r.natAbs)≤q.natAbs*y.natAbs:=Nat.mul_le_mul_left _ h2
      have h5:2*r.natAbs≤q.natAbs*r.natAbs:=Nat.mul_le_mul_right _ hge
      have h6:q.natAbs*(2*r.natAbs)=q.natAbs*r.natAbs+q.natAbs*r.natAbs:=by rw[Nat.mul_left_comm];omega
      rw[Nat.add_mul,Nat.one_mul]
      omega
   have:(1+q.natAbs)*(2*r.natAbs)=2*((1+q.natAbs)*r.natAbs):=by rw[Nat.mul_left_comm]
   omega
structure tj(A0:Rows)(N w top p m:Nat)(b0 b:B3)(gr:Nat):Prop where
 tn:Tn A0 b.A b.U b.C N w
 up:∀i,i<top→b.A.getD i []=b0.A.getD i []∧b.U.getD i []=b0.U.getD i []∧b.C.getD i []=b0.C.getD i []
 lA:gv b.A N top (m*gr)
 lU:gv b.U N top (m*gr)
 lC:gv b.C N top (m*gr)
 zs:∀i c,top≤i→i<N→c<p→g b.A i c=0
 Nq:gr*PR (wt b.A top p) N≤PR (wt b0.A top p) N
 pos:1≤gr
 L5:b=b0∨∃j,top≤j∧j<N∧g b.A j p≠0
theorem tJ{X:Rows}{N w top k j m gr:Nat}{q:Int}(hX:bY N w X)(hk:k<N)(hj:j<N)(hkt:top≤k)(hjt:top≤j)(h:gv X N top (m*gr)):gv (bN X k q j) N top (m*(gr*(1+q.natAbs))):=fun i c hi hN=>by
 rw[ff hX hk hj]
 have e:m*(gr*(1+q.natAbs))=m*gr+q.natAbs*(m*gr):=by rw[←Nat.mul_assoc,Nat.mul_add,Nat.mul_one,Nat.mul_comm (m*gr) q.natAbs]
 rw[e]
 by_cases hik:i=k
 · rw[if_pos hik]
   have h1:=h k c hkt hk
   have h2:=h j c hjt hj
   have h3:(q*g X j c).natAbs≤q.natAbs*(m*gr):=by rw[Int.natAbs_mul];exact Nat.mul_le_mul_left _ h2
   omega
 · rw[if_neg hik]
   have:=h i c hi hN
   omega
theorem jD{X:Rows}{k j i:Nat}{q:Int}(hk:k<X.length)(h:i≠k):(bN X k q j).getD i []=X.getD i []:=by
 unfold bN
 rw[kH hk,if_neg h]
theorem tj.step{A0:Rows}{N w top p m gr:Nat}{b0 b:B3}{L:List Nat}{k j:Nat}(G:tj A0 N w top p m b0 b gr)(hp:p<w)(hL:l8 b.A N top p (L++[j,k])):
 tj A0 N w top p m b0 (jR b p k j) (gr*(1+(qn (g b.A k p) (g b.A j p)).natAbs))∧(g (jR b p k j).A k p).natAbs<(g b.A k p).natAbs∧(∀i,i≠k→g (jR b p k j).A i p=g b.A i p)∧top≤k∧k<N∧top≤j∧j<N∧j≠k∧g b.A j p≠0:=by
 obtain⟨hk1,hk2,hk3⟩:=(hL.mem k).mp (by simp)
 obtain⟨hj1,hj2,hj3⟩:=(hL.mem j).mp (by simp)
 have hord:=hL.ord
 rw[List.pairwise_append]at hord
 have o2:=(List.pairwise_cons.mp hord.2.1).1 k (by simp)
 have hjk:j≠k:=by intro z;subst z;omega
 have hle:(g b.A j p).natAbs≤(g b.A k p).natAbs:=by omega
 have gk:g (jR b p k j).A k p=g b.A k p-qn (g b.A k p) (g b.A j p)*g b.A j p:=by
  show g (bN b.A k _ j) k p=_
  rw[ff G.tn.isA hk2 hj2,if_pos rfl]
 have gi:∀i,i≠k→g (jR b p k j).A i p=g b.A i p:=fun i hi=>by
  show g (bN b.A k _ j) i p=_
  rw[ff G.tn.isA hk2 hj2,if_neg hi]
 have hrest:=AL (x:=g b.A k p) hj3
 have hgrow:=HF (x:=g b.A k p) hj3 hle
 refine⟨⟨G.tn.take hk2 hj2 hjk,fun i hi=>?_,tJ G.tn.isA hk2 hj2 hk1 hj1 G.lA,tJ G.tn.eQ hk2 hj2 hk1 hj1 G.lU,?_,fun i c hi hN hc=>?_,?_,?_,.inr ⟨j,hj1,hj2,by rw[gi j hjk];exact hj3⟩⟩,?_,gi,hk1,hk2,hj1,hj2,hjk,hj3⟩
 · obtain⟨a1,a2,a3⟩:=G.up i hi
   refine⟨(jD (by rw[G.tn.isA.len];exact hk2) (by omega)).trans a1,(jD (by rw[G.tn.eQ.len];exact hk2) (by omega)).trans a2,(jD (by rw[G.tn.f_.len];exact hj2) (by omega)).trans a3⟩
 · have:=tJ (q:= -(qn (g b.A k p) (g b.A j p))) G.tn.f_ hj2 hk2 hj1 hk1 G.lC
   rw[Int.natAbs_neg]at this
   exact this
 · show g (bN b.A k _ j) i c=0
   rw[ff G.tn.isA hk2 hj2]
   by_cases h:i=k
   · rw[if_pos h,G.zs k c hk1 hk2 hc,G.zs j c hj1 hj2 hc,Int.mul_zero];rfl
   · rw[if_neg h];exact G.zs i c hi hN hc
 · have e:=Dc (f:=wt (jR b p k j).A top p) (f':=wt b.A top p) (k:=k) hk2 fun i hi=>by unfold wt;rw[gi i hi]
   have w1:wt b.A top p k=2*(g b.A k p).natAbs:=by unfold wt;rw[if_pos ⟨hk1,hk3⟩]
   have w2:(1+(qn (g b.A k p) (g b.A j p)).natAbs)*wt (jR b p k j).A top p k≤wt b.A top p k:=by
    rw[w1]
    unfold wt
    rw[gk]
    by_cases h0:g b.A k p-qn (g b.A k p) (g b.A j p)*g b.A j p=0
    · rw[if_neg (fun z=>z.2 h0)]
      rw[if_neg (fun z=>z h0)]at hgrow
      exact hgrow
    · rw[if_pos ⟨hk1,h0⟩]
      rw[if_pos h0]at hgrow
      exact hgrow
   have hw:0<wt b.A top p k:=DY _ _ _ _
   refine Nat.le_of_mul_le_mul_right (c:=wt b.A top p k) ?_ hw
   have s1:gr*(1+(qn (g b.A k p) (g b.A j p)).natAbs)*PR (wt (jR b p k j).A top p) N*wt b.A top p k=gr*PR (wt b.A top p) N*((1+(qn (g b.A k p) (g b.A j p)).natAbs)*wt (jR b p k j).A top p k):=by
    rw[Nat.mul_assoc _ (PR _ N),e]
    simp only[Nat.mul_assoc,Nat.mul_left_comm]
   rw[s1]
   exact Nat.mul_le_mul G.Nq w2
 · exact Nat.mul_pos G.pos (by omega)
 · rw[gk];omega
end Mx
namespace Mx
theorem tj.low{A0:Rows}{N w top p e gr:Nat}{b0 b:B3}(G:tj A0 N w top p (2^e) b0 b gr)(h0:gv b0.A N top (2^e)):2^e*gr≤2^((N-top+1)*(e+1)):=by
 have h1:gr≤PR (wt b0.A top p) N:=Nat.le_trans (Nat.le_mul_of_pos_right _ (C7 (DY _ _ _) N)) G.Nq
 have h2:PR (wt b0.A top p) N≤(2^(e+1))^(N-top):=Gd Nat.one_le_two_pow (fun i _ ht=>by unfold wt;rw[if_neg (by omega)];exact Nat.le_refl _) fun i hi=>by
  unfold wt
  split
  · rename_i h
    have:=h0 i p h.1 hi
    rw[Nat.pow_succ];omega
  · exact Nat.one_le_two_pow
 refine Nat.le_trans (Nat.mul_le_mul_left _ (Nat.le_trans h1 h2)) ?_
 rw[←Nat.pow_mul,←Nat.pow_add]
 refine Nat.pow_le_pow_right (by decide) ?_
 have e1:(N-top+1)*(e+1)=(e+1)*(N-top)+(e+1):=by rw[Nat.add_mul,Nat.one_mul,Nat.mul_comm]
 rw[e1]
 omega
structure uL(A0:Rows)(N w:Nat)(b:B3)(top p:Nat)(ld:Nat→Nat)(e u:Nat):Prop where
 tn:Tn A0 b.A b.U b.C N w
 le:top≤N
 lo:gv b.A N top (2^e)∧gv b.U N top (2^e)∧gv b.C N top (2^e)
 hi:∀i c,i<top→(g b.A i c).natAbs≤2^u∧(g b.U i c).natAbs≤2^u∧(g b.C i c).natAbs≤2^u
 zs:∀i c,top≤i→i<N→c<p→g b.A i c=0
 lead:∀i,i<top→ld i<p∧0<g b.A i (ld i)∧∀c,c<ld i→g b.A i c=0
 mono:∀i j,i<j→j<top→ld i<ld j
 red:∀i j,i<j→j<top→0≤g b.A i (ld j)∧g b.A i (ld j)<g b.A j (ld j)
noncomputable def setB(b:B3)(p top r:Nat):B3:=
 if g (bH b.A top r) top p<0 then⟨gp (bH b.A top r) top,gp (bH b.U top r) top,gp (bH b.C top r) top⟩else⟨bH b.A top r,bH b.U top r,bH b.C top r⟩
theorem ug{X:Rows}{N w top r m:Nat}(hX:bY N w X)(ht:top<N)(hr:r<N)(hrt:top≤r)(h:gv X N top m):gv (bH X top r) N top m:=fun i c hi hN=>by
 rw[jG hX ht hr]
 refine h _ c ?_ (qH ht hr hN)
 unfold sw
 split
 · exact hrt
 · split
   · exact Nat.le_refl _
   · exact hi
theorem zi{X:Rows}{N w top m:Nat}(hX:bY N w X)(ht:top<N)(h:gv X N top m):gv (gp X top) N top m:=fun i c hi hN=>by
 rw[j_ hX ht]
 split
 · rw[Int.natAbs_neg];exact h top c (Nat.le_refl _) ht
 · exact h i c hi hN
theorem tQ{X:Rows}{N w top r i:Nat}(hX:bY N w X)(ht:top<N)(hr:r<N)(hrt:top≤r)(hi:i<top):(bH X top r).getD i []=X.getD i []:=by
 rw[yF (by have:=hX.len;omega) (by have:=hX.len;omega)]
 unfold sw
 rw[if_neg (by omega),if_neg (by omega)]
theorem yu{X:Rows}{N w top i:Nat}(hX:bY N w X)(ht:top<N)(hi:i<top):(gp X top).getD i []=X.getD i []:=by
 unfold gp
 rw[kH (by have:=hX.len;omega),if_neg (by omega)]
structure vU(A0:Rows)(N w top p m:Nat)(b0 b:B3):Prop where
 tn:Tn A0 b.A b.U b.C N w
 up:∀i,i<top→b.A.getD i []=b0.A.getD i []∧b.U.getD i []=b0.U.getD i []∧b.C.getD i []=b0.C.getD i []
 lo:gv b.A N top m∧gv b.U N top m∧gv b.C N top m
 zs:∀i c,top≤i→i<N→c<p→g b.A i c=0
 tp:0<g b.A top p
 z1:∀i,top<i→i<N→g b.A i p=0
theorem tj.set{A0:Rows}{N w top p m gr r:Nat}{b0 b:B3}(G:tj A0 N w top p m b0 b gr)(hL:l8 b.A N top p [r]):vU A0 N w top p (m*gr) b0 (setB b p top r)∧top≤r∧r<N:=by
 obtain⟨hr1,hr2,hr3⟩:=(hL.mem r).mp (by simp)
 have ht:top<N:=by omega
 have z:∀i,top≤i→i<N→i≠r→g b.A i p=0:=fun i h1 h2 h3=>Classical.byContradiction fun y=>h3 (by simpa using(hL.mem i).mpr ⟨h1,h2,y⟩)
 have swg:∀i c,g (bH b.A top r) i c=g b.A (sw top r i) c:=fun i c=>jG G.tn.isA ht hr2 i c
 have gt:g (bH b.A top r) top p=g b.A r p:=by rw[swg];unfold sw;rw[if_pos rfl]
 have T1:=G.tn.Gu ht hr2
 have z1:∀i,top<i→i<N→g (bH b.A top r) i p=0:=fun i h1 h2=>by
  rw[swg]
  unfold sw
  rw[if_neg (by omega)]
  by_cases h:i=r
  · rw[if_pos h];exact z top (Nat.le_refl _) ht (by omega)
  · rw[if_neg h];exact z i (by omega) h2 h
 have zs:∀i c,top≤i→i<N→c<p→g (bH b.A top r) i c=0:=fun i c h1 h2 h3=>by
  rw[swg]
  refine G.zs _ c ?_ (qH ht hr2 h2) h3
  unfold sw
  split
  · exact hr1
  · split
    · exact Nat.le_refl _
    · exact h1
 have up:∀i,i<top→(bH b.A top r).getD i []=b0.A.getD i []∧(bH b.U top r).getD i []=b0.U.getD i []∧(bH b.C top r).getD i []=b0.C.getD i []:=fun i hi=>by
  obtain⟨a1,a2,a3⟩:=G.up i hi
  exact⟨(tQ G.tn.isA ht hr2 hr1 hi).trans a1,(tQ G.tn.eQ ht hr2 hr1 hi).trans a2,(tQ G.tn.f_ ht hr2 hr1 hi).trans a3⟩
 have lo:=And.intro (ug G.tn.isA ht hr2 hr1 G.lA) (And.intro (ug G.tn.eQ ht hr2 hr1 G.lU) (ug G.tn.f_ ht hr2 hr1 G.lC))
 refine⟨?_,hr1,hr2⟩
 unfold setB
 by_cases hs:g (bH b.A top r) top p<0
 · rw[if_pos hs]
   refine⟨T1.neg ht,fun i hi=>?_,⟨zi T1.isA ht lo.1,zi T1.eQ ht lo.2.1,zi T1.f_ ht lo.2.2⟩,fun i c h1 h2 h3=>?_,?_,fun i h1 h2=>?_⟩
   · obtain⟨a1,a2,a3⟩:=up i hi
     exact⟨(yu T1.isA ht hi).trans a1,(yu T1.eQ ht hi).trans a2,(yu T1.f_ ht hi).trans a3⟩
   · show g (gp (bH b.A top r) top) i c=0
     rw[j_ T1.isA ht]
     split
     · rw[zs top c (Nat.le_refl _) ht h3];rfl
     · exact zs i c h1 h2 h3
   · show 0<g (gp (bH b.A top r) top) top p
     rw[j_ T1.isA ht,if_pos rfl];omega
   · show g (gp (bH b.A top r) top) i p=0
     rw[j_ T1.isA ht,if_neg (by omega)];exact z1 i h1 h2
 · rw[if_neg hs]
   exact⟨T1,up,lo,zs,by show 0<g (bH b.A top r) top p;rw[gt]at hs⊢;omega,z1⟩
noncomputable def l6(p top:Nat):Nat→B3→B3
 |0,b=>b
 |k+1,b=>
  let c:=l6 p top k b
  ⟨bN c.A k ((g c.A k p).fdiv (g c.A top p)) top,bN c.U k ((g c.A k p).fdiv (g c.A top p)) top,bN c.C top (-((g c.A k p).fdiv (g c.A top p))) k⟩
theorem kr(a:Int){b:Int}(hb:0<b):(a.fdiv b).natAbs≤a.natAbs:=by
 have h1:=Int.mul_fdiv_add_fmod a b
 have h2:=Int.fmod_nonneg_of_pos a hb
 have h3:=Int.fmod_lt_of_pos a hb
 generalize a.fdiv b=q at*
 rcases Int.lt_trichotomy q 0 with h|h|h
 · have h4:0≤(b-1)*(-q-1):=Int.mul_nonneg (by omega) (by omega)
   have e:(b-1)*(-q-1)= -(b*q)-b+q+1:=by grind
   omega
 · subst h;simp
 · have:q≤b*q:=by
    have:0≤(b-1)*q:=Int.mul_nonneg (by omega) (by omega)
    grind
   omega
theorem Tn.start{A:Rows}{N w:Nat}(hA:bY N w A):Tn A A (units N) (units N) N w where
 isA:=hA
 eQ:=kF N
 f_:=kF N
 ua:=fun i c hi hc=>by
  rw[←nq hi fun k=>g A k c]
  exact aF fun m hm=>by rw[jq hi hm]
 ub:=fun i j hi hj=>by
  rw[vL i j,←nq hi fun k=>dl j k]
  · exact aF fun m hm=>by rw[jq hi hm,jq hj hm]
 bu:=fun i j hi hj=>by
  rw[←oZ hi fun k=>dl k j]
  exact aF fun m hm=>by rw[jq hm hi,jq hm hj,Int.mul_comm]
theorem uL.start{A:Rows}{N w e:Nat}(hA:bY N w A)(h:gv A N 0 (2^e)):uL A N w ⟨A,units N,units N⟩ 0 0 (fun _=>0) e 0:=by
 have hu:gv (units N) N 0 (2^e):=fun i c _ hi=>by
  by_cases hc:c<N
  · rw[jq hi hc]
    unfold dl
    split
    · exact Nat.one_le_two_pow
    · exact Nat.zero_le _
  · unfold g
    rw[kl (l:=(units N).getD i []) (by rw[cJ (kF N) hi];omega)]
    exact Nat.zero_le _
 exact⟨Tn.start hA,Nat.zero_le _,⟨h,hu,hu⟩,fun _ _ h=>absurd h (Nat.not_lt_zero _),fun _ _ _ _ h=>absurd h (Nat.not_lt_zero _),fun _ h=>absurd h (Nat.not_lt_zero _),fun _ _ _ h=>absurd h (Nat.not_lt_zero _),fun _ _ _ h=>absurd h (Nat.not_lt_zero _)⟩
end Mx
namespace Mx
noncomputable def SU(f:Nat→Nat):Nat→Nat
 |0=>0
 |n+1=>SU f n+f n
theorem FU{f f':Nat→Nat}:∀ {n:Nat},(∀i,i<n→f' i≤f i)→SU f' n≤SU f n
 |0,_=>Nat.le_refl _
 |n+1,h=>Nat.add_le_add (FU fun i hi=>h i (Nat.lt_succ_of_lt hi)) (h n (Nat.lt_succ_self n))
theorem FW{f f':Nat→Nat}{k:Nat}(hlt:f' k<f k):∀ {n:Nat},k<n→(∀i,i<n→f' i≤f i)→SU f' n<SU f n
 |0,hk,_=>absurd hk (Nat.not_lt_zero _)
 |n+1,hk,h=>by
  by_cases e:k=n
  · subst e
    exact Nat.add_lt_add_of_le_of_lt (FU fun i hi=>h i (Nat.lt_succ_of_lt hi)) hlt
  · exact Nat.add_lt_add_of_lt_of_le (FW hlt (by omega) fun i hi=>h i (Nat.lt_succ_of_lt hi)) (h n (Nat.lt_succ_self n))
noncomputable def mu(A:Rows)(N p:Nat):Nat:=SU (fun i=>(g A i p).natAbs) N
inductive Kf(N p:Nat):Nat→B3→Nat→B3→Prop
 |none {top:Nat} {b:B3} (h:l8 b.A N top p []):Kf N p top b top b
 |one {top r:Nat} {b c:B3} (h:iZ N top p b c) (l:l8 c.A N top p [r]):Kf N p top b (top+1) (l6 p top top (setB c p top r))
inductive vV(A:Rows)(N:Nat):Nat→Nat→B3→Prop
 |start:vV A N 0 0 ⟨A,units N,units N⟩
 |next {p t t':Nat} {b b':B3} (h:vV A N p t b) (c:Kf N p t b t' b'):vV A N (p+1) t' b'
noncomputable def Ez(N e0:Nat):Nat→Nat
 |0=>e0
 |t+1=>(N-t+1)*(Ez N e0 t+1)
end Mx
namespace Mx
noncomputable def c5(X:Rows)(n w:Nat)(v:Nat→Int):Prop:=∃z:Nat→Int,∀c,c<w→v c=S n fun k=>z k*g X k c
theorem c5.row{X:Rows}{n w k:Nat}(hk:k<n):c5 X n w (g X k):=⟨fun i=>dl k i,fun c _=>(nq hk fun i=>g X i c).symm⟩
theorem c5.sub{X:Rows}{n w:Nat}{u v:Nat→Int}(hu:c5 X n w u)(hv:c5 X n w v):c5 X n w fun c=>u c-v c:=by
 obtain⟨y,hy⟩:=hu
 obtain⟨z,hz⟩:=hv
 refine⟨fun k=>y k-z k,fun c hc=>?_⟩
 show u c-v c=S n fun k=>(y k-z k)*g X k c
 rw[hy c hc,hz c hc,Int.sub_eq_add_neg,←u6,←h8]
 exact aF fun k _=>by rw[Int.sub_mul,Int.sub_eq_add_neg]
theorem c5.trans{X Y:Rows}{m n w:Nat}{v:Nat→Int}(h:∀k,k<m→c5 Y n w (g X k))(hv:c5 X m w v):c5 Y n w v:=by
 obtain⟨z,hz⟩:=hv
 have h':∀k,∃y:Nat→Int,k<m→∀c,c<w→g X k c=S n fun i=>y i*g Y i c:=fun k=>by
  by_cases hk:k<m
  · obtain⟨y,hy⟩:=h k hk
    exact⟨y,fun _=>hy⟩
  · exact⟨fun _=>0,fun h=>absurd h hk⟩
 refine⟨fun i=>S m fun k=>z k*Classical.choose (h' k) i,fun c hc=>?_⟩
 rw[hz c hc]
 have e1:S m (fun k=>z k*g X k c)=S m fun k=>S n fun i=>z k*Classical.choose (h' k) i*g Y i c:=aF fun k hk=>by
  rw[Classical.choose_spec (h' k) hk c hc,←eV]
  exact aF fun i _=>(Int.mul_assoc _ _ _).symm
 rw[e1,nN]
 exact aF fun i _=>o9 _ _ _
structure cD(X:Rows)(n w:Nat)(ld:Nat→Nat):Prop where
 lead:∀i,i<n→ld i<w∧0<g X i (ld i)∧∀c,c<ld i→g X i c=0
 mono:∀i j,i<j→j<n→ld i<ld j
theorem cD.inj{X:Rows}{n w:Nat}{ld:Nat→Nat}(s:cD X n w ld){i j:Nat}(hi:i<n)(hj:j<n)(h:ld i=ld j):i=j:=by
 rcases Nat.lt_trichotomy i j with q|q|q
 · exact absurd h (Nat.ne_of_lt (s.mono i j q hj))
 · exact q
 · exact absurd h.symm (Nat.ne_of_lt (s.mono j i q hi))
theorem cD.lt{X:Rows}{n w:Nat}{ld:Nat→Nat}(s:cD X n w ld){i j:Nat}(hi:i<n)(hj:j<n)(h:ld i<ld j):i<j:=by
 rcases Nat.lt_trichotomy i j with q|q|q
 · exact q
 · rw[q]at h;exact absurd h (Nat.lt_irrefl _)
 · exact absurd (Nat.lt_trans h (s.mono j i q hi)) (Nat.lt_irrefl _)
theorem cD.gone{X:Rows}{n w q:Nat}{ld:Nat→Nat}{v z:Nat→Int}(s:cD X n w ld)(hz:∀c,c<w→v c=S n fun k=>z k*g X k c)(h0:∀c,c<q→v c=0)(k:Nat):k<n→ld k<q→z k=0:=by
 induction k using Nat.strongRecOn with
 |ind k ih=>
  intro hk hq
  obtain⟨h1,h2,h3⟩:=s.lead k hk
  have e:=hz (ld k) h1
  rw[h0 _ hq,mP hk fun i hi ne=>?_]at e
  · exact(Int.mul_eq_zero.mp e.symm).resolve_right (Int.ne_of_gt h2)
  · rcases Nat.lt_or_gt_of_ne ne with l|l
    · rw[ih i l hi (Nat.lt_trans (s.mono i k l hk) hq),Int.zero_mul]
    · rw[(s.lead i hi).2.2 _ (s.mono k i l hi),Int.mul_zero]
theorem cD.at{X:Rows}{n w q:Nat}{ld:Nat→Nat}{v:Nat→Int}(s:cD X n w ld)(hv:c5 X n w v)(hq:q<w)(h0:∀c,c<q→v c=0):(∃i,i<n∧ld i=q∧g X i q∣v q)∨v q=0:=by
 obtain⟨z,hz⟩:=hv
 have go:∀k,k<n→ld k≠q→z k*g X k q=0:=fun k hk ne=>by
  rcases Nat.lt_or_gt_of_ne ne with l|l
  · rw[s.gone hz h0 k hk l,Int.zero_mul]
  · rw[(s.lead k hk).2.2 _ l,Int.mul_zero]
 by_cases h:∃i,i<n∧ld i=q
 · obtain⟨i,hi,e⟩:=h
   refine .inl ⟨i,hi,e,z i,?_⟩
   rw[hz q hq,mP hi fun k hk ne=>go k hk fun z=>ne (s.inj hk hi (z.trans e.symm)),Int.mul_comm]
 · refine .inr ?_
   rw[hz q hq]
   exact nk fun k hk=>go k hk fun e=>h ⟨k,hk,e⟩
theorem cD.sees{X Y:Rows}{n m w:Nat}{ld ld':Nat→Nat}(sX:cD X n w ld)(sY:cD Y m w ld')(h:∀k,k<n→c5 Y m w (g X k))(i:Nat)(hi:i<n):∃j,j<m∧ld' j=ld i∧g Y j (ld i)∣g X i (ld i):=by
 obtain⟨h1,h2,h3⟩:=sX.lead i hi
 rcases sY.at (h i hi) h1 h3 with q|q
 · exact q
 · rw[q]at h2;exact absurd h2 (by decide)
theorem cD.same{X Y:Rows}{n m w:Nat}{ld ld':Nat→Nat}(sX:cD X n w ld)(sY:cD Y m w ld')(h1:∀k,k<n→c5 Y m w (g X k))(h2:∀k,k<m→c5 X n w (g Y k))(i:Nat):i<n→i<m∧ld' i=ld i∧g Y i (ld i)=g X i (ld i):=by
 induction i using Nat.strongRecOn with
 |ind i ih=>
  intro hi
  obtain⟨j,hj,ej,dj⟩:=sX.sees sY h1 i hi
  have e:j=i:=by
   rcases Nat.lt_trichotomy j i with l|l|l
   · have:=(ih j l (Nat.lt_trans l hi)).2.1
     exact absurd (this.symm.trans ej) (Nat.ne_of_lt (sX.mono j i l hi))
   · exact l
   · obtain⟨k,hk,ek,_⟩:=sY.sees sX h2 i (Nat.lt_trans l hj)
     have lk:k<i:=sX.lt hk hi (by rw[ek,←ej];exact sY.mono i j l hj)
     have:=(ih k lk hk).2.1
     exact absurd (this.trans ek) (Nat.ne_of_lt (sY.mono k i lk (Nat.lt_trans l hj)))
  subst e
  refine⟨hj,ej,?_⟩
  obtain⟨k,hk,ek,dk⟩:=sY.sees sX h2 j hj
  have:=sX.inj hk hi (ek.trans ej)
  subst this
  rw[ej]at dk
  exact Int.dvd_antisymm (by rw[←ej];exact Int.le_of_lt (sY.lead k hj).2.1) (Int.le_of_lt (sX.lead k hi).2.1) dj dk
noncomputable def vm(X:Rows)(n:Nat)(ld:Nat→Nat):Prop:=∀i j,i<j→j<n→0≤g X i (ld j)∧g X i (ld j)<g X j (ld j)
theorem cD.only{X Y:Rows}{n m w:Nat}{ld ld':Nat→Nat}(sX:cD X n w ld)(sY:cD Y m w ld')(h1:∀k,k<n→c5 Y m w (g X k))(h2:∀k,k<m→c5 X n w (g Y k))(rX:vm X n ld)(rY:vm Y m ld'){i:Nat}(hi:i<n)(c:Nat):c<w→g X i c=g Y i c:=by
 induction c using Nat.strongRecOn with
 |ind c ih=>
  intro hc
  obtain⟨im,il,ig⟩:=sX.same sY h1 h2 i hi
  have hv:c5 X n w fun c=>g X i c-g Y i c:=(c5.row hi).sub (h2 i im)
  rcases sX.at hv hc fun d hd=>by rw[ih d hd (Nat.lt_trans hd hc),Int.sub_self]with⟨j,hj,rfl,d⟩|q
  · obtain⟨jm,jl,jg⟩:=sX.same sY h1 h2 j hj
    rcases Nat.lt_trichotomy i j with l|l|l
    · have a:=rX i j l hj
      have b:=rY i j l jm
      rw[jl,jg]at b
      exact Int.eq_of_sub_eq_zero (Int.eq_zero_of_dvd_of_natAbs_lt_natAbs d (by omega))
    · subst l
      exact ig.symm
    · rw[(sX.lead i hi).2.2 _ (sX.mono j i l hi),(sY.lead i im).2.2 _ (by rw[il];exact sX.mono j i l hi)]
  · exact Int.eq_of_sub_eq_zero q
end Mx
namespace Mx
end Mx
namespace Mx
noncomputable def nl(A:Rows)(N t p:Nat):Nat:=SU (fun i=>if t≤i∧g A i p≠0 then 1 else 0) N
end Mx
namespace Mx
end Mx
namespace Mx
end Mx
namespace Mx
theorem GH{n:Nat}{f:Nat→Int}:∀ {N:Nat},n≤N→(∀i,n≤i→i<N→f i=0)→S N f=S n f
 |0,h,_=>by rw[Nat.le_zero.mp h]
 |N+1,h,z=>by
  by_cases e:n=N+1
  · rw[e]
  · have hn:n≤N:=by omega
    show S N f+f N=_
    rw[z N hn (Nat.lt_succ_self N),Int.add_zero]
    exact GH hn fun i h1 h2=>z i h1 (Nat.lt_succ_of_lt h2)
theorem uL.in{A:Rows}{N w top e u:Nat}{c:B3}{ld:Nat→Nat}(s:uL A N w c top w ld e u)(k:Nat)(hk:k<top):c5 A N w (g c.A k):=
 ⟨g c.U k,fun q hq=>s.tn.ua k q (Nat.lt_of_lt_of_le hk s.le) hq⟩
theorem uL.out{A:Rows}{N w top e u:Nat}{c:B3}{ld:Nat→Nat}(s:uL A N w c top w ld e u)(k:Nat)(hk:k<N):c5 c.A top w (g A k):=by
 refine⟨fun i=>g c.C i k,fun q hq=>?_⟩
 have e1:S N (fun i=>g c.C i k*g c.A i q)=g A k q:=by
  have:S N (fun i=>g c.C i k*g c.A i q)=S N fun i=>S N fun j=>g c.C i k*g c.U i j*g A j q:=aF fun i hi=>by
   rw[s.tn.ua i q hi hq,←eV]
   exact aF fun j _=>(Int.mul_assoc _ _ _).symm
  rw[this,nN]
  have e2:S N (fun j=>S N fun i=>g c.C i k*g c.U i j*g A j q)=S N fun j=>dl k j*g A j q:=aF fun j hj=>by
   rw[o9,s.tn.bu k j hk hj]
  rw[e2,nq hk fun j=>g A j q]
 rw[←e1]
 exact GH s.le fun i h1 h2=>by rw[s.zs i q h1 h2 hq,Int.mul_zero]
theorem jJ{X:Rows}{n i q:Nat}(h:i<n):g (X.take n) i q=g X i q:=by
 unfold g
 rw[List.getD_eq_getElem?_getD (l:=X.take n),List.getD_eq_getElem?_getD (l:=X),List.getElem?_take_of_lt h]
end Mx
namespace Mx
end Mx
namespace Mx
theorem c5.NU{X:Rows}{n w:Nat}{u v:Nat→Int}(x:Int)(hu:c5 X n w u)(hv:c5 X n w v):c5 X n w fun c=>u c+x*v c:=by
 obtain⟨y,hy⟩:=hu
 obtain⟨z,hz⟩:=hv
 refine⟨fun k=>y k+x*z k,fun c hc=>?_⟩
 show u c+x*v c=S n fun k=>(y k+x*z k)*g X k c
 rw[hy c hc,hz c hc,←eV,←h8]
 exact aF fun k _=>by rw[Int.add_mul,Int.mul_assoc]
theorem c5.eq{X:Rows}{n w:Nat}{u v:Nat→Int}(hu:c5 X n w u)(h:∀c,c<w→v c=u c):c5 X n w v:=by
 obtain⟨y,hy⟩:=hu
 exact⟨y,fun c hc=>(h c hc).trans (hy c hc)⟩
structure fJ(X:Rows)(n:Nat)(Y:Rows)(m w:Nat):Prop where
 to:∀k,k<n→c5 Y m w (g X k)
 of:∀k,k<m→c5 X n w (g Y k)
theorem fJ.refl(X:Rows)(n w:Nat):fJ X n X n w:=⟨fun _ h=>c5.row h,fun _ h=>c5.row h⟩
theorem fJ.symm{X Y:Rows}{n m w:Nat}(h:fJ X n Y m w):fJ Y m X n w:=⟨h.of,h.to⟩
theorem fJ.trans{X Y Z:Rows}{n m l w:Nat}(h:fJ X n Y m w)(h':fJ Y m Z l w):fJ X n Z l w:=
 ⟨fun k hk=>c5.trans h'.to (h.to k hk),fun k hk=>c5.trans h.of (h'.of k hk)⟩
theorem c5.zero{X:Rows}{n w:Nat}{v:Nat→Int}(h:∀c,c<w→v c=0):c5 X n w v:=
 ⟨fun _=>0,fun c hc=>by rw[h c hc,nk fun k _=>Int.zero_mul _]⟩
end Mx
namespace Mx
theorem pv{X:Rows}{r:Row}{k:Nat}(hk:k≤X.length)(i:Nat):(X.take k++r::X.drop k).getD i []=if i<k then X.getD i []else if i=k then r else X.getD (i-1) []:=by
 have lt:(X.take k).length=k:=by rw[List.length_take];omega
 rw[List.getD_eq_getElem?_getD,List.getD_eq_getElem?_getD,List.getD_eq_getElem?_getD]
 by_cases h:i<k
 · rw[if_pos h,List.getElem?_append_left (by rw[lt];exact h),List.getElem?_take_of_lt h]
 · rw[if_neg h,List.getElem?_append_right (by rw[lt];omega),lt]
   by_cases h2:i=k
   · rw[if_pos h2,h2,Nat.sub_self];rfl
   · rw[if_neg h2]
     have:i-k=(i-1-k)+1:=by omega
     rw[this,List.getElem?_cons_succ,List.getElem?_drop]
     congr 2;omega
end Mx
namespace Mx
end Mx
namespace Mx
end Mx
namespace Mx
structure sP(F:Rows)(w:Nat)(ld:Nat→Nat)(row:Nat→Int)(i:Nat)(o:Int)(L:Nat→Int):Prop where
 pos:0<o
 sum:c5 F i w fun c=>o*row c-L c
 off:∀k,k<i→L (ld k)=0
 least:∀(m:Int) (v:Nat→Int),c5 F i w v→(∀k,k<i→m*row (ld k)=v (ld k))→o∣m
theorem cD.L9{F:Rows}{n w:Nat}{ld:Nat→Nat}{v:Nat→Int}(s:cD F n w ld)(hv:c5 F n w v)(h:∀k,k<n→0≤v (ld k)∧v (ld k)<g F k (ld k))(c:Nat):c<w→v c=0:=by
 induction c using Nat.strongRecOn with
 |ind c ih=>
  intro hc
  rcases s.at hv hc fun d hd=>ih d hd (Nat.lt_trans hd hc)with⟨k,hk,rfl,d⟩|q
  · have:=h k hk
    exact Int.eq_zero_of_dvd_of_natAbs_lt_natAbs d (by omega)
  · exact q
structure uS(F:Rows)(n w:Nat)(ld:Nat→Nat)(row:Nat→Int)(i:Nat)(L:Nat→Int):Prop where
 sum:c5 F n w fun c=>row c-L c
 red:∀k,k<i→0≤L (ld k)∧L (ld k)<g F k (ld k)
theorem uS.start{F:Rows}{n w:Nat}{ld:Nat→Nat}{row:Nat→Int}:uS F n w ld row 0 row:=⟨c5.zero fun c _=>Int.sub_self _,fun _ h=>absurd h (Nat.not_lt_zero _)⟩
theorem uS.step{F:Rows}{n w i:Nat}{ld:Nat→Nat}{row L:Nat→Int}(s:cD F n w ld)(hi:i<n)(f:uS F n w ld row i L):uS F n w ld row (i+1) fun c=>L c-(L (ld i)).fdiv (g F i (ld i))*g F i c:=by
 obtain⟨l1,l2,l3⟩:=s.lead i hi
 refine⟨(f.sum.NU ((L (ld i)).fdiv (g F i (ld i))) (c5.row hi)).eq fun c _=>by omega,fun k hk=>?_⟩
 show 0≤L (ld k)-_*g F i (ld k)∧L (ld k)-_*g F i (ld k)<_
 rcases Nat.lt_or_ge k i with h|h
 · rw[l3 _ (s.mono k i h hi),Int.mul_zero,Int.sub_zero]
   exact f.red k h
 · have:k=i:=Nat.le_antisymm (Nat.le_of_lt_succ hk) h
   subst this
   have e:=Int.fmod_add_mul_fdiv (L (ld k)) (g F k (ld k))
   have a:=Int.fmod_nonneg_of_pos (L (ld k)) l2
   have b:=Int.fmod_lt_of_pos (L (ld k)) l2
   rw[Int.mul_comm]at e
   omega
theorem uS.zero{F:Rows}{n w:Nat}{ld:Nat→Nat}{row L:Nat→Int}(s:cD F n w ld)(f:uS F n w ld row n L):(∀c,c<w→L c=0)↔c5 F n w row:=by
 constructor
 · exact fun h=>f.sum.eq fun c hc=>by rw[h c hc,Int.sub_zero]
 · exact fun h=>s.L9 ((h.sub f.sum).eq fun c _=>by omega) f.red
end Mx
namespace Mx
theorem x3{K m:Nat}:∀ {n:Nat} {M:Fn},n≤K→(∀r c,r<n→c<n→(M r c).natAbs≤m)→(D n M).natAbs≤(K*m)^n
 |0,_,_,_=>by simp[D]
 |n+1,M,hn,h=>by
  rw[dz]
  have key:∀j,j<n+1→(sg j*M 0 j*D n fun r c=>M (r+1) (sk j c)).natAbs≤m*(K*m)^n:=fun j hj=>by
   have a:=x3 (K:=K) (m:=m) (n:=n) (M:=fun r c=>M (r+1) (sk j c)) (by omega) fun r c hr hc=>h (r+1) (sk j c) (by omega) (j7 hc)
   have b:=h 0 j (by omega) hj
   have s:(sg j).natAbs=1:=by unfold sg;split<;>rfl
   rw[Int.natAbs_mul,Int.natAbs_mul,s,Nat.one_mul]
   exact Nat.mul_le_mul b a
  refine Nat.le_trans (AW key) ?_
  rw[Nat.pow_succ,Nat.mul_comm ((K*m)^n),Nat.mul_assoc]
  exact Nat.mul_le_mul_right _ hn
theorem pick{t N:Nat}{U B:Fn}(h:∀k l,k<t→l<t→S N (fun i=>U k i*B i l)=dl k l):∃I:Nat→Nat,(∀k,k<t→I k<N)∧D t (fun k l=>B (I k) l)≠0:=by
 apply Classical.byContradiction
 intro no
 have go:∀s,s≤t→∀I:Nat→Nat,(∀k,k<t→s≤k→I k<N)→D t (fun k l=>if k<s then dl k l else B (I k) l)=0:=by
  intro s
  induction s with
  |zero=>
   intro _ I hI
   exact Classical.byContradiction fun z=>no ⟨I,fun k hk=>hI k hk (Nat.zero_le _),z⟩
  |succ s ih=>
   intro hs I hI
   have e:D t (fun k l=>if k<s+1 then dl k l else B (I k) l)=D t (upd (fun k l=>if k<s then dl k l else B (I k) l) s fun l=>S N fun j=>U s j*B j l):=c8 fun k l hk hl=>by
    unfold upd
    by_cases h1:k=s
    · subst h1
      rw[if_pos rfl,if_pos (Nat.lt_succ_self _)]
      exact(h k l hk hl).symm
    · rw[if_neg h1]
      show _=if k<s then dl k l else B (I k) l
      by_cases h2:k<s
      · rw[if_pos (by omega),if_pos h2]
      · rw[if_neg (by omega),if_neg h2]
   rw[e,(r8 t).uF (by omega)]
   refine nk fun j hj=>?_
   have e2:=ih (by omega) (fun k=>if k=s then j else I k) fun k hk hsk=>by
    by_cases h1:k=s
    · rw[if_pos h1];exact hj
    · rw[if_neg h1];exact hI k hk (by omega)
   have e3:D t (upd (fun k l=>if k<s then dl k l else B (I k) l) s (B j))=D t (fun k l=>if k<s then dl k l else B (if k=s then j else I k) l):=c8 fun k l hk hl=>by
    unfold upd
    by_cases h1:k=s
    · subst h1
      rw[if_pos rfl,if_neg (Nat.lt_irrefl _),if_pos rfl]
    · rw[if_neg h1,if_neg h1]
   rw[e3,e2,Int.mul_zero]
 have z:=go t (Nat.le_refl _) (fun _=>0) fun k h1 h2=>absurd h1 (Nat.not_lt.mpr h2)
 rw[c8 (M':=dl) fun r c hr hc=>if_pos hr,vW]at z
 exact absurd z (by decide)
theorem zA:∀ {n:Nat} {f:Nat→Int},(∀i,i<n→0<f i)→0<Pr n f
 |0,_,_=>show(0:Int)<1 by decide
 |n+1,f,h=>Int.mul_pos (zA fun i hi=>h i (Nat.lt_succ_of_lt hi)) (h n (Nat.lt_succ_self n))
theorem F1:∀ {n:Nat} {f:Nat→Int},(∀i,i<n→0<f i)→∀k,k<n→f k≤Pr n f
 |n+1,f,h,k,hk=>by
  have p:=zA fun i hi=>h i (Nat.lt_succ_of_lt hi)
  have q:=h n (Nat.lt_succ_self n)
  show f k≤Pr n f*f n
  by_cases e:k=n
  · subst e
    have:=Int.mul_le_mul_of_nonneg_right (show(1:Int)≤Pr k f from p) (Int.le_of_lt q)
    omega
  · have a:=F1 (fun i hi=>h i (Nat.lt_succ_of_lt hi)) k (by omega)
    have:=Int.mul_le_mul_of_nonneg_left (show(1:Int)≤f n from q) (Int.le_of_lt p)
    omega
theorem uB{w x:Int}{m:Nat}(hw:w≠0)(h:(w*x).natAbs≤m):x.natAbs≤m:=by
 rw[Int.natAbs_mul]at h
 exact Nat.le_trans (Nat.le_mul_of_pos_left _ (by omega)) h
end Mx
namespace Mx
noncomputable def dc(F:Rows)(i:Nat):Nat:=(F.getD i []).findIdx (fun x=>x != 0)
theorem uW:∀ {r:Row} {l:Nat},(∀c,c<l→r.getD c 0=0)→r.getD l 0≠0→r.findIdx (fun x=>x != 0)=l
 | [],l,_,h=>(h rfl).elim
 |x::r,0,_,h=>by
  have h':(x != 0)=true:=bne_iff_ne.mpr h
  rw[List.findIdx_cons,h'];rfl
 |x::r,l+1,hz,h=>by
  have x0:(x != 0)=false:=bne_eq_false_iff_eq.mpr (hz 0 (Nat.zero_lt_succ _))
  rw[List.findIdx_cons,x0,uW (r:=r) (l:=l) (fun c hc=>hz (c+1) (Nat.succ_lt_succ hc)) h];rfl
theorem cD.dc{F:Rows}{n w:Nat}{ld:Nat→Nat}(s:cD F n w ld){i:Nat}(hi:i<n):Mx.dc F i=ld i:=by
 obtain⟨_,h2,h3⟩:=s.lead i hi
 exact uW h3 (Int.ne_of_gt h2)
theorem cD.OZ{F:Rows}{n w:Nat}{ld:Nat→Nat}(s:cD F n w ld):cD F n w (Mx.dc F):=
 ⟨fun i hi=>by rw[s.dc hi];exact s.lead i hi,fun i j h hj=>by rw[s.dc hj,s.dc (Nat.lt_trans h hj)];exact s.mono i j h hj⟩
noncomputable def qu(F:Rows)(L:Row)(i:Nat):Int:=(L.getD (dc F i) 0).fdiv (g F i (dc F i))
noncomputable def cS(F:Rows)(r:Row):Nat→Row
 |0=>r
 |i+1=>fm (cS F r i) (-(qu F (cS F r i) i)) (F.getD i [])
noncomputable def qr(F:Rows)(r:Row)(n:Nat):Row:=(List.range n).map fun i=>qu F (cS F r i) i
section
variable {F:Rows}{r:Row}{m w:Nat}(isF:bY m w F)(lr:r.length=w)
include isF lr
theorem ku:∀ {i:Nat},i≤m→(cS F r i).length=w
 |0,_=>lr
 |i+1,h=>by
  unfold cS
  rw[jr (by rw[ku (by omega),isF.row (by omega)])]
  exact ku (by omega)
theorem u7{i:Nat}(hi:i<m)(c:Nat):(cS F r (i+1)).getD c 0=(cS F r i).getD c 0-qu F (cS F r i) i*g F i c:=by
 conv=>lhs;unfold cS
 rw[pD (by rw[ku isF lr (by omega),isF.row hi]),Int.neg_mul]
 rfl
theorem Au:∀ {i:Nat},i≤m→∀c,r.getD c 0=(cS F r i).getD c 0+S i fun j=>qu F (cS F r j) j*g F j c
 |0,_,c=>(Int.add_zero _).symm
 |i+1,h,c=>by
  have e:=Au (i:=i) (by omega) c
  rw[u7 isF lr (by omega)]
  show _=_+(S i _+qu F (cS F r i) i*g F i c)
  omega
theorem AK(s:cD F m w (dc F)):∀ {i:Nat},i≤m→uS F m w (dc F) (fun c=>r.getD c 0) i (fun c=>(cS F r i).getD c 0)
 |0,_=>uS.start
 |i+1,h=>by
  have:=(AK s (i:=i) (by omega)).step s h
  have e:(fun c=>(cS F r (i+1)).getD c 0)=fun c=>(cS F r i).getD c 0-((cS F r i).getD (dc F i) 0).fdiv (g F i (dc F i))*g F i c:=by
   funext c
   rw[u7 isF lr h]
   rfl
  rw[e]
  exact this
theorem sx{f e:Nat}(s:cD F m w (dc F))(hF:∀k c,k<m→c<w→(g F k c).natAbs≤2^f)(hr:∀c,c<w→(r.getD c 0).natAbs≤2^e):∀ {i:Nat},i≤m→∀c,c<w→((cS F r i).getD c 0).natAbs≤2^(e+i*(f+1))
 |0,_,c,hc=>by rw[Nat.zero_mul];exact hr c hc
 |i+1,h,c,hc=>by
  have ih:=sx s hF hr (i:=i) (by omega)
  obtain⟨l1,l2,_⟩:=s.lead i h
  have q:=Nat.le_trans (kr ((cS F r i).getD (dc F i) 0) l2) (ih _ l1)
  rw[u7 isF lr h]
  have p:(qu F (cS F r i) i*g F i c).natAbs≤2^(e+i*(f+1))*2^f:=by
   rw[Int.natAbs_mul]
   exact Nat.mul_le_mul q (hF i c h hc)
  have b:=ih c hc
  have e1:2^(e+(i+1)*(f+1))=2^(e+i*(f+1))*2^f*2:=by
   rw[show e+(i+1)*(f+1)=e+i*(f+1)+f+1 by rw[Nat.succ_mul];omega,Nat.pow_succ,Nat.pow_add]
  have e2:2^(e+i*(f+1))≤2^(e+i*(f+1))*2^f:=Nat.le_mul_of_pos_right _ (Nat.pow_pos (by decide))
  rw[e1]
  omega
end
theorem Fg{A0:Rows}{N w top e u:Nat}{c:B3}{ld:Nat→Nat}(H:uL A0 N w c top w ld e u){r ws:Row}(lw:ws.length=top)(hs:∀q,q<w→r.getD q 0=S top fun j=>ws.getD j 0*g c.A j q){q:Nat}(hq:q<w):(S N fun n=>(cN ws (c.U.take top) (List.replicate N 0)).getD n 0*g A0 n q)=r.getD q 0:=by
 have T:=H.tn
 have hl:(c.U.take top).length=top:=by rw[List.length_take,T.eQ.len];exact Nat.min_eq_left H.le
 have e1:∀n,(cN ws (c.U.take top) (List.replicate N 0)).getD n 0=S top fun j=>ws.getD j 0*g c.U j n:=fun n=>by
  rw[pV (n:=N) n (by simp) (fun r hr=>T.eQ.iV r (List.mem_of_mem_take hr)) (by rw[hl,lw]),dQ,Int.zero_add,hl]
  refine aF fun j hj=>?_
  unfold g
  rw[bf (l:=c.U.take top) (by omega),List.getElem_take,bf (l:=c.U) (by have:=T.eQ.len;have:=H.le;omega)]
 have e2:(S N fun n=>(cN ws (c.U.take top) (List.replicate N 0)).getD n 0*g A0 n q)=S N fun n=>S top fun j=>ws.getD j 0*(g c.U j n*g A0 n q):=aF fun n _=>by
  rw[e1,←o9]
  exact aF fun j _=>Int.mul_assoc _ _ _
 rw[e2,nN,hs q hq]
 refine aF fun j hj=>?_
 rw[eV,←T.ua j q (Nat.lt_of_lt_of_le hj H.le) hq]
end Mx
namespace Mx
noncomputable def l1:Row→Nat
 | []=>0
 |x::r=>x.natAbs+l1 r
end Mx
namespace Mx
structure gF(A0:Rows)(N w:Nat)(b:B3)(top p:Nat)(ld:Nat→Nat)(e u v:Nat):Prop where
 tn:Tn A0 b.A b.U b.C N w
 le:top≤N
 lo:gv b.A N top (2^e)∧gv b.U N top (2^e)∧gv b.C N top (2^e)
 hi:∀i c,i<top→(g b.A i c).natAbs≤2^u∧(g b.U i c).natAbs≤2^u∧(g b.C i c).natAbs≤2^v
 zs:∀i c,top≤i→i<N→c<p→g b.A i c=0
 lead:∀i,i<top→ld i<p∧0<g b.A i (ld i)∧∀c,c<ld i→g b.A i c=0
 mono:∀i j,i<j→j<top→ld i<ld j
 red:∀i j,i<j→j<top→0≤g b.A i (ld j)∧g b.A i (ld j)<g b.A j (ld j)
theorem gF.OM{A0:Rows}{N w top p e u v:Nat}{b:B3}{ld:Nat→Nat}(S:gF A0 N w b top p ld e u v):tj A0 N w top p (2^e) b b 1:=
 ⟨S.tn,fun _ _=>⟨rfl,rfl,rfl⟩,by rw[Nat.mul_one];exact S.lo.1,by rw[Nat.mul_one];exact S.lo.2.1,by rw[Nat.mul_one];exact S.lo.2.2,S.zs,by rw[Nat.one_mul];exact Nat.le_refl _,Nat.le_refl _,.inl rfl⟩
theorem gF.skip{A0:Rows}{N w top p e u v:Nat}{b:B3}{ld:Nat→Nat}(S:gF A0 N w b top p ld e u v)(h:l8 b.A N top p []):gF A0 N w b top (p+1) ld e u v:=
 ⟨S.tn,S.le,S.lo,S.hi,fun i c h1 h2 h3=>by
  by_cases hc:c=p
  · subst hc
    exact Classical.byContradiction fun z=>absurd ((h.mem i).mpr ⟨h1,h2,z⟩) (by simp)
  · exact S.zs i c h1 h2 (by omega),fun i hi=>⟨Nat.lt_succ_of_lt (S.lead i hi).1,(S.lead i hi).2⟩,S.mono,S.red⟩
structure my(A0:Rows)(N w top p e u v:Nat)(b:B3)(k:Nat)(c:B3):Prop where
 tn:Tn A0 c.A c.U c.C N w
 rA:∀i,k≤i→c.A.getD i []=b.A.getD i []∧c.U.getD i []=b.U.getD i []
 rC:∀i,i≠top→c.C.getD i []=b.C.getD i []
 ah:∀i q,i<k→q<p→g c.A i q=g b.A i q
 rd:∀i,i<k→0≤g c.A i p∧g c.A i p<g c.A top p
 sz:∀i q,i<k→(g c.A i q).natAbs≤2^(u+e+1)∧(g c.U i q).natAbs≤2^(u+e+1)
 sC:∀q,(g c.C top q).natAbs≤2^e+k*2^(u+v)
theorem my.step{A0:Rows}{N w top p e u v k:Nat}{b c:B3}(I:my A0 N w top p e u v b k c)(hk:k<top)(ht:top<N)(hp:p<w)(htp:0<g b.A top p)(hz:∀q,q<p→g b.A top q=0)
 (hlo:∀q,(g b.A top q).natAbs≤2^e∧(g b.U top q).natAbs≤2^e) (hhi:∀i q,i<top→(g b.A i q).natAbs≤2^u∧(g b.U i q).natAbs≤2^u∧(g b.C i q).natAbs≤2^v):
 my A0 N w top p e u v b (k+1) ⟨bN c.A k ((g c.A k p).fdiv (g c.A top p)) top,bN c.U k ((g c.A k p).fdiv (g c.A top p)) top,bN c.C top (-((g c.A k p).fdiv (g c.A top p))) k⟩:=by
 have hkN:k<N:=by omega
 have gA:∀i q,k≤i→g c.A i q=g b.A i q:=fun i q hi=>by unfold g;rw[(I.rA i hi).1]
 have gU:∀i q,k≤i→g c.U i q=g b.U i q:=fun i q hi=>by unfold g;rw[(I.rA i hi).2]
 have gC:∀i q,i≠top→g c.C i q=g b.C i q:=fun i q hi=>by unfold g;rw[I.rC i hi]
 have qe:((g c.A k p).fdiv (g c.A top p)).natAbs≤2^u:=by
  rw[gA k p (Nat.le_refl _),gA top p (by omega)]
  exact Nat.le_trans (kr _ htp) (hhi k p hk).1
 have hq:∀x:Int,x.natAbs≤2^e→((g c.A k p).fdiv (g c.A top p)*x).natAbs≤2^(u+e):=fun x hx=>by
  rw[Int.natAbs_mul,Nat.pow_add];exact Nat.mul_le_mul qe hx
 have le1:2^u≤2^(u+e):=Nat.pow_le_pow_right (by decide) (by omega)
 refine⟨I.tn.take hkN ht (by omega),fun i hi=>?_,fun i hi=>?_,fun i q hi hqp=>?_,fun i hi=>?_,fun i q hi=>?_,fun q=>?_⟩
 · exact⟨(jD (by rw[I.tn.isA.len];exact hkN) (by omega)).trans (I.rA i (by omega)).1,(jD (by rw[I.tn.eQ.len];exact hkN) (by omega)).trans (I.rA i (by omega)).2⟩
 · exact(jD (by rw[I.tn.f_.len];exact ht) hi).trans (I.rC i hi)
 · show g (bN c.A k _ top) i q=_
   rw[ff I.tn.isA hkN ht]
   split
   · rename_i h
     rw[gA top q (by omega),hz q hqp,Int.mul_zero,gA k q (Nat.le_refl _),h];omega
   · exact I.ah i q (by omega) hqp
 · show 0≤g (bN c.A k _ top) i p∧g (bN c.A k _ top) i p<g (bN c.A k _ top) top p
   rw[ff I.tn.isA hkN ht,ff I.tn.isA hkN ht,if_neg (show¬top=k by omega)]
   split
   · have h1:=Int.mul_fdiv_add_fmod (g c.A k p) (g c.A top p)
     have htp':0<g c.A top p:=by rw[gA top p (by omega)];exact htp
     have h2:=Int.fmod_nonneg_of_pos (g c.A k p) htp'
     have h3:=Int.fmod_lt_of_pos (g c.A k p) htp'
     rw[Int.mul_comm]at h1
     omega
   · exact I.rd i (by omega)
 · show(g (bN c.A k _ top) i q).natAbs≤_∧(g (bN c.U k _ top) i q).natAbs≤_
   rw[ff I.tn.isA hkN ht,ff I.tn.eQ hkN ht]
   split
   · have a1:=hq (g c.A top q) (by rw[gA top q (by omega)];exact(hlo q).1)
     have a2:=hq (g c.U top q) (by rw[gU top q (by omega)];exact(hlo q).2)
     rw[gA k q (Nat.le_refl _),gU k q (Nat.le_refl _)]
     have b1:=(hhi k q hk).1
     have b2:=(hhi k q hk).2.1
     rw[Nat.pow_succ]
     omega
   · exact I.sz i q (by omega)
 · show(g (bN c.C top _ k) top q).natAbs≤_
   rw[ff I.tn.f_ ht hkN,if_pos rfl,gC k q (by omega),Int.neg_mul]
   have a1:=I.sC q
   have a2:((g c.A k p).fdiv (g c.A top p)*g b.C k q).natAbs≤2^(u+v):=by
    rw[Int.natAbs_mul,Nat.pow_add];exact Nat.mul_le_mul qe (hhi k q hk).2.2
   rw[Nat.add_mul,Nat.one_mul]
   omega
theorem my.start{A0:Rows}{N w top p e u v:Nat}{b:B3}(T:Tn A0 b.A b.U b.C N w)(h:∀q,(g b.C top q).natAbs≤2^e):my A0 N w top p e u v b 0 b:=
 ⟨T,fun _ _=>⟨rfl,rfl⟩,fun _ _=>rfl,fun _ _ h=>absurd h (Nat.not_lt_zero _),fun _ h=>absurd h (Nat.not_lt_zero _),fun _ _ h=>absurd h (Nat.not_lt_zero _),fun q=>by rw[Nat.zero_mul];exact h q⟩
theorem vU.qi{A0:Rows}{N w top p e u v e' u' v':Nat}{b0 b c:B3}{ld:Nat→Nat}(S:gF A0 N w b0 top p ld e u v)(s:vU A0 N w top p (2^e') b0 b)(ht:top<N)(I:my A0 N w top p e' u v b top c)(hN:N≤8)
 (h1:u+e'+1≤u') (h2:u+v+4≤v') (h9:e'+1≤v'):gF A0 N w c (top+1) (p+1) (fun i=>if i=top then p else ld i) e' u' v':=by
 have hup:∀i q,i<top→g b.A i q=g b0.A i q:=fun i q hi=>by unfold g;rw[(s.up i hi).1]
 have hA:∀i q,top≤i→g c.A i q=g b.A i q:=fun i q hi=>by unfold g;rw[(I.rA i hi).1]
 have hU:∀i q,top≤i→g c.U i q=g b.U i q:=fun i q hi=>by unfold g;rw[(I.rA i hi).2]
 have hC:∀i q,i≠top→g c.C i q=g b.C i q:=fun i q hi=>by unfold g;rw[I.rC i hi]
 have le:∀ {a x:Nat},a≤2^x→x≤u'→a≤2^u':=fun h hx=>Nat.le_trans h (Nat.pow_le_pow_right (by decide) hx)
 refine⟨I.tn,ht,⟨fun i q hi hN=>?_,fun i q hi hN=>?_,fun i q hi hN=>?_⟩,fun i q hi=>?_,fun i q hi hN hq=>?_,fun i hi=>?_,fun i j hij hj=>?_,fun i j hij hj=>?_⟩
 · rw[hA i q (by omega)];exact s.lo.1 i q (by omega) hN
 · rw[hU i q (by omega)];exact s.lo.2.1 i q (by omega) hN
 · rw[hC i q (by omega)];exact s.lo.2.2 i q (by omega) hN
 · by_cases h:i=top
   · subst h
     refine⟨?_,?_,?_⟩
     · rw[hA i q (Nat.le_refl _)];exact le (s.lo.1 i q (Nat.le_refl _) ht) (by omega)
     · rw[hU i q (Nat.le_refl _)];exact le (s.lo.2.1 i q (Nat.le_refl _) ht) (by omega)
     · have h3:=I.sC q
       have h4:i*2^(u+v)≤2^(u+v+3):=by rw[Nat.pow_add _ _ 3,Nat.mul_comm];exact Nat.mul_le_mul_left _ (by omega)
       have h5:2^(u+v+3)*2≤2^v':=by rw[←Nat.pow_succ];exact Nat.pow_le_pow_right (by decide) h2
       have h6:2^e'*2≤2^v':=by rw[←Nat.pow_succ];exact Nat.pow_le_pow_right (by decide) h9
       omega
   · have hi':i<top:=by omega
     refine⟨le (I.sz i q hi').1 h1,le (I.sz i q hi').2 h1,?_⟩
     rw[hC i q h]
     have:g b.C i q=g b0.C i q:=by unfold g;rw[(s.up i hi').2.2]
     rw[this]
     exact Nat.le_trans (S.hi i q hi').2.2 (Nat.pow_le_pow_right (by decide) (by omega))
 · rw[hA i q (by omega)]
   by_cases h:q=p
   · rw[h];exact s.z1 i (by omega) hN
   · exact s.zs i q (by omega) hN (by omega)
 · by_cases h:i=top
   · subst h
     rw[if_pos rfl]
     refine⟨Nat.lt_succ_self p,?_,fun q hq=>?_⟩
     · rw[hA i p (Nat.le_refl _)];exact s.tp
     · rw[hA i q (Nat.le_refl _)];exact s.zs i q (Nat.le_refl _) ht hq
   · have hi':i<top:=by omega
     rw[if_neg h]
     obtain⟨a1,a2,a3⟩:=S.lead i hi'
     refine⟨Nat.lt_succ_of_lt a1,?_,fun q hq=>?_⟩
     · rw[I.ah i _ hi' a1,hup i _ hi'];exact a2
     · rw[I.ah i _ hi' (Nat.lt_trans hq a1),hup i _ hi'];exact a3 q hq
 · by_cases h:j=top
   · rw[if_pos h,if_neg (by omega)];exact(S.lead i (by omega)).1
   · rw[if_neg h,if_neg (by omega)];exact S.mono i j hij (by omega)
 · by_cases h:j=top
   · subst h
     rw[if_pos rfl]
     exact I.rd i hij
   · have hj':j<top:=by omega
     rw[if_neg h]
     have:=S.red i j hij hj'
     have hl:=(S.lead j hj').1
     rw[I.ah i _ (by omega) hl,I.ah j _ hj' hl,hup i _ (by omega),hup j _ hj']
     exact this
theorem gF.start{A:Rows}{N w e:Nat}(hA:bY N w A)(h:gv A N 0 (2^e)):gF A N w ⟨A,units N,units N⟩ 0 0 (fun _=>0) e 0 0:=by
 have S:=uL.start hA h
 exact⟨S.tn,S.le,S.lo,S.hi,S.zs,S.lead,S.mono,S.red⟩
theorem gF.NB{A0:Rows}{N w top p e u v:Nat}{b:B3}{ld:Nat→Nat}(S:gF A0 N w b top p ld e u v):uL A0 N w b top p ld e (u+v):=
 ⟨S.tn,S.le,S.lo,fun i c hi=>⟨Nat.le_trans (S.hi i c hi).1 (Nat.pow_le_pow_right (by decide) (by omega)),Nat.le_trans (S.hi i c hi).2.1 (Nat.pow_le_pow_right (by decide) (by omega)),Nat.le_trans (S.hi i c hi).2.2 (Nat.pow_le_pow_right (by decide) (by omega))⟩,S.zs,S.lead,S.mono,S.red⟩
theorem gF.yR{A0:Rows}{N w top p e u v:Nat}{b:B3}{ld:Nat→Nat}(S:gF A0 N w b top p ld e u v):top≤p:=by
 have go:∀i,i<top→i≤ld i:=fun i=>by
  induction i with
  |zero=>intro _;exact Nat.zero_le _
  |succ i ih=>
   intro h
   have:=ih (by omega)
   have:=S.mono i (i+1) (by omega) h
   omega
 rcases Nat.eq_zero_or_pos top with z|z
 · omega
 · have h1:=go (top-1) (by omega)
   have h2:=(S.lead (top-1) (by omega)).1
   omega
noncomputable def Uz(N e0:Nat):Nat→Nat
 |0=>0
 |t+1=>Uz N e0 t+Ez N e0 (t+1)+1
noncomputable def Cz(N e0:Nat):Nat→Nat
 |0=>0
 |t+1=>Uz N e0 t+Cz N e0 t+Ez N e0 (t+1)+4
noncomputable def Rm(N w e0:Nat):Prop:=∀t,t<N→t<w→Ez N e0 (t+1)<60000000∧Uz N e0 t+Ez N e0 (t+1)≤120000000∧Uz N e0 t+Cz N e0 t≤120000000
end Mx
namespace Mx
theorem Ds{A F U B:Fn}{N w t b:Nat}{ld:Nat→Nat}(t8:t≤8)(b1:1≤b)(hA:∀i c,i<N→c<w→(A i c).natAbs≤b)(hAF:∀i c,i<N→c<w→A i c=S t fun k=>B i k*F k c)(hUB:∀k l,k<t→l<t→S N (fun i=>U k i*B i l)=dl k l)(lead:∀i,i<t→ld i<w∧0<F i (ld i)∧∀c,c<ld i→F i c=0)(mono:∀i j,i<j→j<t→ld i<ld j)(red:∀i j,i<j→j<t→0≤F i (ld j)∧F i (ld j)<F j (ld j)):
 Pr t (fun i=>F i (ld i))≤((9*b)^t:Nat)∧∀k c,k<t→c<w→(F k c).natAbs≤8*((9*b)^(t+1)*(9*b)^t):=by
 obtain⟨I,hI,hw⟩:=pick hUB
 have eE:D t (fun k l=>F k (ld l))=Pr t fun i=>F i (ld i):=NW fun r c hr hc h=>(lead r hr).2.2 _ (mono c r h hr)
 have pos:0<Pr t fun i=>F i (ld i):=zA fun i hi=>(lead i hi).2.1
 have eM:D t (fun k l=>A (I k) (ld l))=D t (fun k l=>B (I k) l)*D t fun k l=>F k (ld l):=by
  rw[←F_]
  exact c8 fun k l hk hl=>hAF _ _ (hI k hk) (lead l hl).1
 have bM:(D t (fun k l=>A (I k) (ld l))).natAbs≤(9*b)^t:=x3 (K:=9) (by omega) fun r c hr hc=>hA _ _ (hI r hr) (lead c hc).1
 rw[eM,eE]at bM
 have bP:(Pr t fun i=>F i (ld i)).natAbs≤(9*b)^t:=uB hw bM
 refine⟨by omega,fun k c hk hc=>?_⟩
 have bF:∀l,l<t→(F k (ld l)).natAbs≤(9*b)^t:=fun l hl=>by
  have p:=F1 (f:=fun i=>F i (ld i)) (fun i hi=>(lead i hi).2.1) l hl
  rcases Nat.lt_trichotomy k l with h|h|h
  · have:=red k l h hl
    have p':F l (ld l)≤Pr t fun i=>F i (ld i):=p
    omega
  · subst h
    have q:=(lead k hk).2.1
    have p':F k (ld k)≤Pr t fun i=>F i (ld i):=p
    omega
  · rw[(lead k hk).2.2 _ (mono l k h hk)];exact Nat.zero_le _
 have e0:=MW (fun l k=>F k (ld l)) t (fun k=>F k c) k
 rw[J_ hk]at e0
 have eT:D t (fun l k=>F k (ld l))=Pr t fun i=>F i (ld i):=by rw[←eE];exact yk t fun k l=>F k (ld l)
 rw[eT]at e0
 have bB:∀l,l<t→(D t (fun k l=>B (I k) l)*bt (fun l k=>F k (ld l)) t (fun k=>F k c) l).natAbs≤(9*b)^(t+1):=fun l hl=>by
  have eW:D (t+1) (fun i k=>if i=t then dl t k else if k=t then 0 else B (I i) k)=D t fun k l=>B (I k) l:=by
   rw[yU fun c _=>if_pos rfl]
   exact c8 fun r c hr hc=>by rw[if_neg (by omega),if_neg (by omega)]
  have eX:D (t+1) (upd (fun i r=>if r<t then A (I i) (ld r)else A (I i) c) t (dl l))=D t (fun k l=>B (I k) l)*bt (fun l k=>F k (ld l)) t (fun k=>F k c) l:=by
   unfold bt
   rw[←eW,←F_]
   refine c8 fun i r hi hr=>?_
   by_cases h:i=t
   · subst h
     rw[cf]
     have:(S (i+1) fun k=>(if i=i then dl i k else if k=i then 0 else B (I i) k)*upd (fun c_1 r=>if r<i then F c_1 (ld r)else F c_1 c) i (dl l) k r)=S (i+1) fun k=>dl i k*upd (fun c_1 r=>if r<i then F c_1 (ld r)else F c_1 c) i (dl l) k r:=aF fun k _=>by rw[if_pos rfl]
     rw[this,nq (Nat.lt_succ_self i),cf]
   · have hi':i<t:=by omega
     rw[az h]
     show _=(S t fun k=>(if i=t then dl t k else if k=t then 0 else B (I i) k)*upd (fun c_1 r=>if r<t then F c_1 (ld r)else F c_1 c) t (dl l) k r)+(if i=t then dl t t else if t=t then 0 else B (I i) t)*upd (fun c_1 r=>if r<t then F c_1 (ld r)else F c_1 c) t (dl l) t r
     have z:(if i=t then dl t t else if t=t then 0 else B (I i) t)*upd (fun c_1 r=>if r<t then F c_1 (ld r)else F c_1 c) t (dl l) t r=0:=by rw[if_neg h,if_pos rfl,Int.zero_mul]
     rw[z,Int.add_zero]
     have e2:∀k,k<t→(if i=t then dl t k else if k=t then 0 else B (I i) k)*upd (fun c_1 r=>if r<t then F c_1 (ld r)else F c_1 c) t (dl l) k r=B (I i) k*(if r<t then F k (ld r)else F k c):=fun k hk=>by
      rw[if_neg h,if_neg (by omega),az (by omega)]
     rw[aF e2]
     by_cases hrt:r<t
     · rw[if_pos hrt,hAF _ _ (hI i hi') (lead r hrt).1]
       exact aF fun k _=>by rw[if_pos hrt]
     · rw[if_neg hrt,hAF _ _ (hI i hi') hc]
       exact aF fun k _=>by rw[if_neg hrt]
  rw[←eX]
  refine x3 (K:=9) (by omega) fun r q hr hq=>?_
  by_cases h:r=t
  · subst h
    rw[cf]
    unfold dl
    split<;>omega
  · rw[az h]
    have hr':r<t:=by omega
    split
    · rename_i hq'
      exact hA _ _ (hI r hr') (lead q hq').1
    · exact hA _ _ (hI r hr') hc
 have e1:D t (fun k l=>B (I k) l)*(Pr t fun i=>F i (ld i))*F k c= -S t fun l=>(D t (fun k l=>B (I k) l)*bt (fun l k=>F k (ld l)) t (fun k=>F k c) l)*F k (ld l):=by
  have:(S t fun l=>(D t (fun k l=>B (I k) l)*bt (fun l k=>F k (ld l)) t (fun k=>F k c) l)*F k (ld l))=D t (fun k l=>B (I k) l)*S t fun l=>bt (fun l k=>F k (ld l)) t (fun k=>F k c) l*F k (ld l):=by
   rw[←eV]
   exact aF fun l _=>Int.mul_assoc _ _ _
  rw[this,Int.mul_assoc,←Int.mul_neg]
  congr 1
  omega
 refine uB (w:=D t (fun k l=>B (I k) l)*(Pr t fun i=>F i (ld i))) (Int.mul_ne_zero hw (Int.ne_of_gt pos)) ?_
 rw[e1,Int.natAbs_neg]
 refine Nat.le_trans (AW fun l hl=>?_) (Nat.mul_le_mul_right _ t8)
 rw[Int.natAbs_mul]
 exact Nat.mul_le_mul (bB l hl) (bF l hl)
theorem yd{A F:Rows}{N m w b:Nat}{ld:Nat→Nat}(m8:m≤8)(b1:1≤b)(hA:∀i c,i<N→c<w→(g A i c).natAbs≤b)(st:cD F m w ld)(red:vm F m ld)(same:fJ A N F m w):∀k c,k<m→c<w→(g F k c).natAbs≤8*((9*b)^(m+1)*(9*b)^m):=by
 have hB:∀i,∃z:Nat→Int,i<N→∀c,c<w→g A i c=S m fun k=>z k*g F k c:=fun i=>by
  by_cases h:i<N
  · obtain⟨z,hz⟩:=same.to i h
    exact⟨z,fun _=>hz⟩
  · exact⟨fun _=>0,fun z=>absurd z h⟩
 have hU:∀k,∃z:Nat→Int,k<m→∀c,c<w→g F k c=S N fun i=>z i*g A i c:=fun k=>by
  by_cases h:k<m
  · obtain⟨z,hz⟩:=same.of k h
    exact⟨z,fun _=>hz⟩
  · exact⟨fun _=>0,fun z=>absurd z h⟩
 let B:Fn:=fun i=>Classical.choose (hB i)
 let U:Fn:=fun k=>Classical.choose (hU k)
 have eB:∀i,i<N→∀c,c<w→g A i c=S m fun k=>B i k*g F k c:=fun i=>Classical.choose_spec (hB i)
 have eU:∀k,k<m→∀c,c<w→g F k c=S N fun i=>U k i*g A i c:=fun k=>Classical.choose_spec (hU k)
 refine(Ds (A:=g A) (F:=g F) (U:=U) (B:=B) m8 b1 hA (fun i c hi hc=>eB i hi c hc) (fun k l hk hl=>?_) st.lead st.mono red).2
 have e1:∀c,c<w→S m (fun l=>(S N fun i=>U k i*B i l)*g F l c)=g F k c:=fun c hc=>by
  rw[eU k hk c hc]
  have:(S N fun i=>U k i*g A i c)=S N fun i=>S m fun l=>U k i*B i l*g F l c:=aF fun i hi=>by
   rw[eB i hi c hc,←eV]
   exact aF fun l _=>(Int.mul_assoc _ _ _).symm
  rw[this,nN]
  exact aF fun l _=>(o9 _ _ _).symm
 have e2:∀c,c<w→(0:Int)=S m fun l=>((S N fun i=>U k i*B i l)-dl k l)*g F l c:=fun c hc=>by
  have h1:(S m fun l=>((S N fun i=>U k i*B i l)-dl k l)*g F l c)=S m (fun l=>(S N fun i=>U k i*B i l)*g F l c)-S m fun l=>dl k l*g F l c:=by
   rw[Int.sub_eq_add_neg,←u6,←h8]
   exact aF fun l _=>by rw[Int.sub_mul,Int.sub_eq_add_neg]
  rw[h1,e1 c hc,nq hk,Int.sub_self]
 have e3:=st.gone (v:=fun _=>0) (z:=fun l=>(S N fun i=>U k i*B i l)-dl k l) (q:=w) e2 (fun _ _=>rfl) l hl (st.lead l hl).1
 have e4:(S N fun i=>U k i*B i l)-dl k l=0:=e3
 omega
theorem fJ.N0{X Y B:Rows}{n m w w':Nat}(hX:bY n w X)(hY:bY m w Y)(hB:bY w w' B)(h:fJ X n Y m w):fJ (mulM X B w') n (mulM Y B w') m w':=by
 have go:∀ {P Q:Rows} {a c:Nat},bY a w P→bY c w Q→(∀k,k<a→c5 Q c w (g P k))→∀k,k<a→c5 (mulM Q B w') c w' (g (mulM P B w') k):=fun{P Q a c} hP hQ hh k hk=>by
  obtain⟨z,hz⟩:=hh k hk
  refine⟨z,fun j hj=>?_⟩
  rw[jw hP hB hk]
  have e1:(S w fun i=>g P k i*g B i j)=S w fun i=>S c fun l=>z l*(g Q l i*g B i j):=aF fun i hi=>by
   rw[hz i hi,←o9]
   exact aF fun l _=>Int.mul_assoc _ _ _
  rw[e1,nN]
  exact aF fun l hl=>by rw[eV,jw hQ hB hl]
 exact⟨go hX hY h.to,go hY hX h.of⟩
theorem qk{X B:Rows}{n w w' a b:Nat}(hX:bY n w X)(hB:bY w w' B)(w8:w≤8)(bX:∀i c,i<n→c<w→(g X i c).natAbs≤2^a)(bB:∀i c,i<w→c<w'→(g B i c).natAbs≤2^b):∀i c,i<n→c<w'→(g (mulM X B w') i c).natAbs≤2^(a+b+3):=fun i c hi hc=>by
 rw[jw hX hB hi]
 have:=AW (n:=w) (f:=fun k=>g X i k*g B k c) (m:=2^a*2^b) fun k hk=>by
  rw[Int.natAbs_mul]
  exact Nat.mul_le_mul (bX i k hi hk) (bB k c hk hc)
 refine Nat.le_trans this ?_
 rw[show a+b+3=3+(a+b) by omega,Nat.pow_add _ 3,Nat.pow_add]
 exact Nat.mul_le_mul_right _ w8
end Mx
namespace Prog
open PySem L2 L3
open PySem.Spec hiding items?
open PyProof.Rows hiding St
theorem jK{i j:Int}(h1: -(2^64)<i)(h2:i<2^64):IntMulOk i j:= .of_left (intBits_le_64 h1 h2)
noncomputable def isInt:D→Bool
 | .int _=>true
 |_=>false
noncomputable abbrev aG(r:List Int):List D:=r.map D.int
noncomputable abbrev cu(r:List Int):D:= .tup (aG r)
noncomputable abbrev a9(r:List Int):D:= .lst (aG r)
noncomputable abbrev cz(A:List (List Int)):D:= .tup (A.map cu)
noncomputable abbrev FQ(A:List (List Int)):D:= .lst (A.map a9)
noncomputable def bT(st:ag):List D→List (List Int)→Prop
 | [],[]=>True
 |d::ds,r::rs=>items? st d=some (aG r)∧bT st ds rs
 |_,_=>False
structure fG(st:ag)(d:D)(A:List (List Int)):Prop where
 ex:∃ds,items? st d=some ds∧bT st ds A
theorem bT.len{st:ag}:∀ {ds:List D} {A:List (List Int)},bT st ds A→ds.length=A.length
 | [],[],_=>rfl
 |_::_,_::_,h=>by simp[bT.len h.2]
theorem bT.tup{st:ag}:∀ {A:List (List Int)},bT st (A.map cu) A
 | []=>trivial
 |_::_=>⟨rfl,bT.tup⟩
theorem bT.lst{st:ag}:∀ {A:List (List Int)},bT st (A.map a9) A
 | []=>trivial
 |_::_=>⟨rfl,bT.lst⟩
theorem bT.get{st:ag}:∀ {ds:List D} {A:List (List Int)} {i:Nat} {d:D},bT st ds A→ds[i]?=some d→∃r,A[i]?=some r∧items? st d=some (aG r)
 |_::_,r::_,0,_,h,e=>by simp at e;subst e;exact⟨r,rfl,h.1⟩
 |_::_,_::_,i+1,d,h,e=>by
  obtain⟨r,e1,e2⟩:=bT.get (i:=i) (d:=d) h.2 (by simpa using e)
  exact⟨r,by simpa using e1,e2⟩
theorem dM{st:ag}{A:List (List Int)}:fG st (cz A) A:=⟨_,rfl,bT.tup⟩
structure Ext(st st':ag):Prop where
 len:st.length≤st'.length
 same:∀m,m<st.length→st'[m]?=st[m]?
theorem Ext.refl{st:ag}:Ext st st:=⟨Nat.le_refl _,fun _ _=>rfl⟩
theorem Ext.trans{st st1 st2:ag}(a:Ext st st1)(b:Ext st1 st2):Ext st st2:=⟨Nat.le_trans a.len b.len,fun m h=>(b.same m (Nat.lt_of_lt_of_le h a.len)).trans (a.same m h)⟩
theorem Ext.push{st:ag}{c:List Cell}:Ext st (st++c):=⟨by simp,fun m h=>List.getElem?_append_left h⟩
theorem Ext.set{st:ag}{n:Nat}{c:Cell}{st0:ag}(a:Ext st0 st)(h:st0.length≤n):Ext st0 (st.set n c):=⟨by rw[List.length_set];exact a.len,fun m hm=>by rw[List.getElem?_set_ne (by omega)];exact a.same m hm⟩
theorem Ext.items{st st':ag}{d:D}{xs:List D}(x:Ext st st')(e:items? st d=some xs):items? st' d=some xs:=by
 cases d with
 |ref n=>
  unfold items? at e⊢
  simp only at e⊢
  cases q:st[n]? with
  |none=>rw[q]at e;cases e
  |some c=>
   have hn:=(List.getElem?_eq_some_iff.mp q).1
   rw[x.same n hn]
   exact e
 |_=>exact e
theorem fy{r:List Int}{k:Nat}(h:k<r.length):dZ (aG r) (k:Int)=some (.int (r.getD k 0)):=by
 refine iN ?_
 rw[List.getElem?_map,List.getElem?_eq_getElem h,Mx.bf h];rfl
theorem getD_mem{r:List Int}{k:Nat}(h:k<r.length):r.getD k 0∈r:=by rw[Mx.bf h];exact List.getElem_mem _
theorem bT.at{st:ag}{ds:List D}{A:List (List Int)}{k:Nat}(h:bT st ds A)(hk:k<A.length):∃d,dZ ds (k:Int)=some d∧items? st d=some (aG (A.getD k [])):=by
 have hl:=h.len
 have e:ds[k]?=some ds[k]:=List.getElem?_eq_getElem (by omega)
 obtain⟨r,er,hr⟩:=h.get e
 refine⟨ds[k],iN e,?_⟩
 rw[Mx.bf hk]
 rw[List.getElem?_eq_getElem hk]at er
 cases er
 exact hr
theorem ints_app{r:List Int}{x:Int}:aG r++[D.int x]=aG (r++[x]):=by simp[aG]
theorem Fd{A:List (List Int)}{r:List Int}:A.map cu++[cu r]=(A++[r]).map cu:=by simp
theorem EH{r s:List Int}{d:D}(h:d∈iE (aG r) (aG s)):∃a b,a∈r∧b∈s∧d= .tup [.int a,.int b]:=by
 obtain⟨n,hn,e⟩:=List.mem_iff_getElem.mp h
 have e':(iE (aG r) (aG s))[n]?=some d:=by rw[List.getElem?_eq_getElem hn,e]
 obtain⟨x,y,ex,ey,rfl⟩:=t_ e'
 rw[List.getElem?_map]at ex ey
 cases q1:r[n]? with
 |none=>rw[q1]at ex;cases ex
 |some a=>
  cases q2:s[n]? with
  |none=>rw[q2]at ey;cases ey
  |some b=>
   rw[q1]at ex
   rw[q2]at ey
   cases ex
   cases ey
   exact⟨a,b,List.mem_of_getElem? q1,List.mem_of_getElem? q2,rfl⟩
theorem zp(n:Nat):(List.replicate n [D.int 0]).flatten=aG (List.replicate n 0):=by
 induction n with
 |zero=>rfl
 |succ n ih=>rw[List.replicate_succ,List.flatten_cons,ih];rfl
theorem wK:∀r:List Int,(aG r).map (fun x=>match x with| .int i=>i|_=>0)=r
 | []=>rfl
 |a::r=>by rw[aG,List.map_cons,List.map_cons,wK r]
theorem Es{d:D}{ds:List D}:dZ (d::ds) 0=some d:=iN (j:=0) rfl
noncomputable def intsOf(st:ag)(d:D):List Int:=match items? st d with
 |some xs=>xs.map fun x=>match x with| .int i=>i|_=>0
 |none=>[]
theorem wG{st:ag}{d:D}{r:List Int}(h:items? st d=some (aG r)):intsOf st d=r:=by
 unfold intsOf
 rw[h]
 exact wK r
theorem D_{x y:D}{xs ys:List D}:iE (x::xs) (y::ys)= .tup [x,y]::iE xs ys:=rfl
theorem Aj{n:Nat}{r:List Int}:(aG r).all (pl n)=true:=by
 refine List.all_eq_true.mpr fun d hd=>?_
 obtain⟨i,_,rfl⟩:=List.mem_map.mp hd
 cases n<;>rfl
theorem Ff{n:Nat}{A:List (List Int)}:pl (n+2) (FQ A)=true:=by
 unfold pl
 refine List.all_eq_true.mpr fun d hd=>?_
 obtain⟨r,_,rfl⟩:=List.mem_map.mp hd
 unfold pl
 exact Aj
def aB:Addr:=186
noncomputable abbrev fk(b:Bool):Cell:=Cell.tab 166 ⟨85,32,85,66⟩ "Bench.live_rows.<locals>.<lambda>" b
noncomputable abbrev KS:List (Addr×Pos×Str):=[(166,⟨85,32,85,66⟩,"Bench.live_rows.<locals>.<lambda>")]
noncomputable def tX:cp:=fun _ _ _=>False
noncomputable def qc:List Str:=["one","other","great","small","rest"]
noncomputable def FD:DS:=(aH (bg 2 (bp nI (af (ae 0) ak)))
 (aH (bg 3 (bp nI (af (ae 1) ak)))
 (aH (pd (a5 (aq mh (ae 3) (dC (.int 0)))) (aH (bg 4 (aq g8 (ae 2) (ae 3)))
 (aH (bg 2 (ae 3))
 (bg 3 (ae 4)))))
 (ba (ae 2)))))
theorem FH{a:Int}{m:Nat}(h:a.natAbs<2^m):Builtin.Int.intBits a≤m:=by
 unfold Builtin.Int.intBits
 by_cases h0:a.natAbs=0
 · have:a=0:=by omega
   subst this
   simp
 · have:=(Nat.log2_lt h0).mpr h
   split<;>omega
theorem fO{a b:Int}{m n:Nat}(ha:a.natAbs≤2^m)(hb:b.natAbs≤2^n)(h:m+n≤130000000):IntMulOk a b:=by
 have q:∀ {x:Int} {k:Nat},x.natAbs≤2^k→Builtin.Int.intBits x≤k+1:=fun{x k} h=>FH (Nat.lt_of_le_of_lt h (Nat.pow_lt_pow_right (by decide) (Nat.lt_succ_self k)))
 have h1:=q ha
 have h2:=q hb
 have e:(2:Nat)^27=134217728:=by decide
 have z:Builtin.Int.intTooBig (Builtin.Int.intBits a+Builtin.Int.intBits b)=false:=by
  unfold Builtin.Int.intTooBig bitsLine
  exact decide_eq_false (by omega)
 unfold IntMulOk
 rw[z]
 simp
theorem Cm:∀ds st K,tX ds st K→ds.length=2∧FD {nx:=fun _ st'=>K .aK st',rt:=K} (aT qc ds) st:=fun _ _ _ h=>h.elim
noncomputable def nM:cp:=fun _ _ _=>False
noncomputable def uP:List Str:=["top","bottom","shrink"]
noncomputable def IW:DS:=(aH (bg 2 (aE tX (af (ae 0) (af (ae 1) ak))))
 (aH (d7 (a5 (aq pj (ae 1) (dC (.int 0)))) (bg 2 (lG gJ (ae 2))) cU)
 (ba (l7 (af (aq lH (ae 0) (ae 2)) (af (aq lH (ae 1) (ae 2)) ak))))))
theorem G7:∀ds st K,nM ds st K→ds.length=2∧IW {nx:=fun _ st'=>K .aK st',rt:=K} (aT uP ds) st:=fun _ _ _ h=>h.elim
noncomputable def zF:cp:=fun _ _ _=>False
noncomputable def uI:List Str:=["one","other"]
noncomputable def Km:DS:=(ba (aE nM (af (aq eh (aq du (aq aM (ae 0) (dC (.int 0))) (aq aM (ae 1) (dC (.int 1)))) (aq du (aq aM (ae 1) (dC (.int 0))) (aq aM (ae 0) (dC (.int 1))))) (af (aq du (aq aM (ae 0) (dC (.int 1))) (aq aM (ae 1) (dC (.int 1)))) ak))))
theorem Io:∀ds st K,zF ds st K→ds.length=2∧Km {nx:=fun _ st'=>K .aK st',rt:=K} (aT uI ds) st:=fun _ _ _ h=>h.elim
noncomputable def vN:cp:=fun _ _ _=>False
noncomputable def rQ:List Str:=["one","other"]
noncomputable def IF:DS:=(ba (aE nM (af (aq mf (aq du (aq aM (ae 0) (dC (.int 0))) (aq aM (ae 1) (dC (.int 1)))) (aq du (aq aM (ae 1) (dC (.int 0))) (aq aM (ae 0) (dC (.int 1))))) (af (aq du (aq aM (ae 0) (dC (.int 1))) (aq aM (ae 1) (dC (.int 1)))) ak))))
theorem EL:∀ds st K,vN ds st K→ds.length=2∧IF {nx:=fun _ st'=>K .aK st',rt:=K} (aT rQ ds) st:=fun _ _ _ h=>h.elim
noncomputable def vA:cp:=fun _ _ _=>False
noncomputable def rW:List Str:=["one","other"]
noncomputable def IH:DS:=(ba (aE nM (af (aq du (aq aM (ae 0) (dC (.int 0))) (aq aM (ae 1) (dC (.int 0)))) (af (aq du (aq aM (ae 0) (dC (.int 1))) (aq aM (ae 1) (dC (.int 1)))) ak))))
theorem Eu:∀ds st K,vA ds st K→ds.length=2∧IH {nx:=fun _ st'=>K .aK st',rt:=K} (aT rW ds) st:=fun _ _ _ h=>h.elim
noncomputable def ze:cp:=fun _ _ _=>False
noncomputable def uk:List Str:=["one","other"]
noncomputable def K8:DS:=(ba (aE nM (af (aq du (aq aM (ae 0) (dC (.int 0))) (aq aM (ae 1) (dC (.int 1)))) (af (aq du (aq aM (ae 0) (dC (.int 1))) (aq aM (ae 1) (dC (.int 0)))) ak))))
theorem Ho:∀ds st K,ze ds st K→ds.length=2∧K8 {nx:=fun _ st'=>K .aK st',rt:=K} (aT uk ds) st:=fun _ _ _ h=>h.elim
noncomputable def ky:cp:=fun _ _ _=>False
noncomputable def sr:List Str:=["n"]
noncomputable def HP:DS:=(ba (l7 (af (ae 0) (af (dC (.int 1)) ak))))
theorem ES:∀ds st K,ky ds st K→ds.length=1∧HP {nx:=fun _ st'=>K .aK st',rt:=K} (aT sr ds) st:=fun _ _ _ h=>h.elim
noncomputable def oy:cp:=fun ds st K=>∃(d:D) (A:List (List Int)),ds=[d]∧fG st d A∧A.length≤1000∧K (cz A) st
noncomputable def oj:List Str:=["rows"]
noncomputable def DM:DS:=(ba (bp dB (af (dG (eH (ae 0)) [none] (bJ 0) cQ (bp dB (af (ae 0) ak))) ak)))
theorem gH{tg:fL}{te:DE}{ok:ag→Prop}{σc:cj}{st:ag}{K:List D→ag→Prop}{ds:List D}{A:List (List Int)}(f:List Int→D)(aN:ok st)(hr:bT st ds A)(hx:∀d r,r∈A→items? st d=some (aG r)→∀K',K' (f r) st→∃σ2,tg d σc=some σ2∧te σ2 st K')(k:K (A.map f) st):dg tg cQ te ok σc ds [] st K:=by
 refine f6 (fun rest acc st'=>∃(A1 A2:List (List Int)),st=st'∧A1++A2=A∧bT st rest A2∧acc=A1.map f) ?_ ?_ _ _ _ ⟨[],A,rfl,rfl,hr,rfl⟩
 · rintro acc st' ⟨A1,A2,rfl,he,h,rfl⟩
   match A2,h with
   | [],_=>
     rw[List.append_nil]at he
     subst he
     exact⟨aN,k⟩
 · rintro d rest acc st' ⟨A1,A2,rfl,he,h,rfl⟩ next
   match A2,h with
   |r::A2,h=>
    obtain⟨σ2,e2,q⟩:=hx d r (by rw[←he];simp) h.1 (fun y st2=>dg tg cQ te ok σc rest (A1.map f++[y]) st2 K) (next _ _ ⟨A1++[r],A2,rfl,by rw[←he];simp,h.2,by simp⟩)
    exact⟨aN,σ2,e2,q⟩
theorem BU:∀ds st K,oy ds st K→ds.length=1∧DM {nx:=fun _ st'=>K .aK st',rt:=K} (aT oj ds) st:=by
 rintro ds st K ⟨d,A,rfl,⟨da,hd,ra⟩,hl,k⟩
 refine⟨rfl,?_⟩
 refine rh hd fun ok aN=>⟨cE (by rw[ra.len];exact hl),?_⟩
 refine gH cu aN ra (fun e r hr he K' q=>⟨_,rfl,de he q⟩) ?_
 exact de rfl k
noncomputable def kL:cp:=fun ds st K=>∃x y t r s,ds=[x,.int t,y]∧items? st x=some (aG r)∧items? st y=some (aG s)∧r.length≤1000∧(∀b∈s,IntMulOk t b)∧K (a9 (Mx.fm r t s)) st
noncomputable def si:List Str:=["row","times","other"]
noncomputable def Ir:DS:=(ba (dG (vQ (af (ae 0) (af (ae 2) ak))) [none,none,some 1] (je 0 1) cQ (aq eh (ae 0) (aq du (ae 2) (ae 1)))))
theorem wH{t:Int}:∀(r s:List Int),(iE (aG r) (aG s)).map (fun d=>match d with| .tup [.int a,.int b]=> .int (a+t*b)|_=> .aK)=aG (Mx.fm r t s)
 | [],_=>rfl
 |_::_,[]=>rfl
 |a::r,b::s=>by
  have:=wH (t:=t) r s
  unfold iE Mx.fm at this⊢
  simp only[aG,List.map_cons,List.zip_cons_cons,List.zipWith_cons_cons]at this⊢
  rw[this]
theorem EV:∀ds st K,kL ds st K→ds.length=3∧Ir {nx:=fun _ st'=>K .aK st',rt:=K} (aT si ds) st:=by
 rintro ds st K ⟨x,y,t,r,s,rfl,hx,hy,hl,hm,k⟩
 refine⟨rfl,?_⟩
 refine yO hx hy fun ok aN=>⟨cE (by rw[xY];simp;omega),?_⟩
 refine comp_map (g:=fun d=>match d with| .tup [.int a,.int b]=> .int (a+t*b)|_=> .aK) (aN st hx hy) _ (fun d hd K' q=>?_) ?_
 · obtain⟨a,b,ha,hb,rfl⟩:=EH hd
   exact⟨_,rfl,iq (hm b hb) (eJ q)⟩
 · rw[wH];exact k
noncomputable def p7:cp:=fun ds st K=>∃(x y:D) (n:Nat) (ws:List Int) (A:List (List Int)),ds=[x,y,.int n]∧items? st x=some (aG ws)∧fG st y A∧(∀r∈A,r.length=n)∧n≤1000∧(∀w∈ws,∀r∈A,∀b∈r,IntMulOk w b)∧K (cu (Mx.cN ws A (List.replicate n 0))) st
noncomputable def ql:List Str:=["weights","rows","wide","total","weight","row"]
noncomputable def FK:DS:=(aH (bg 3 (aq du (nG (af (dC (.int 0)) ak)) (ae 2)))
 (aH (hJ (vQ (af (ae 0) (af (ae 1) ak))) (je 4 5) (bg 3 (aE kL (af (ae 3) (af (ae 4) (af (ae 5) ak))))))
 (ba (bp dB (af (ae 3) ak)))))
theorem Dq:∀ds st K,p7 ds st K→ds.length=3∧FK {nx:=fun _ st'=>K .aK st',rt:=K} (aT ql ds) st:=by
 rintro ds st K ⟨x,y,n,ws,A,rfl,hx,⟨dr,hy,hr⟩,hw,hn,hm,k⟩
 refine⟨rfl,?_⟩
 refine OE (Nat.le_of_ble_eq_true rfl) (Hq ⟨by omega,by omega,cE (by simp;omega)⟩ ?_)
 rw[Int.toNat_natCast,zp]
 refine yO hx hy fun ok aN=>?_
 refine g5 (fun rest σ st'=>∃(v4 v5:Option D) (ws':List Int) (ds':List D) (A':List (List Int)) (acc:List Int),st=st'∧rest=iE (aG ws') ds'∧bT st ds' A'∧σ=[some x,some y,some (.int n),some (a9 acc),v4,v5]∧acc.length=n∧(∀r∈A',r∈A)∧(∀w∈ws',w∈ws)∧Mx.cN ws' A' acc=Mx.cN ws A (List.replicate n 0)) ?_ ?_ _ _ _
  ⟨none,none,ws,dr,A,List.replicate n 0,rfl,rfl,hr,rfl,by simp,fun _ h=>h,fun _ h=>h,rfl⟩
 · rintro σ st1 ⟨v4,v5,ws',ds',A',acc,rfl,he,hr',rfl,hl,_,_,hs⟩
   refine⟨aN _ hx hy,de rfl ?_⟩
   have:Mx.cN ws' A' acc=acc:=by
    match ws',ds',A',hr',he with
    | [],_,_,_,_=>unfold Mx.cN;rfl
    |_::_,[],[],_,_=>unfold Mx.cN;rfl
    |_::_,_::_,_::_,_,he=>cases he
   rw[this]at hs
   rw[hs];exact k
 · rintro d rest σ st1 ⟨v4,v5,ws',ds',A',acc,rfl,he,hr',rfl,hl,ha,hw',hs⟩ next
   match ws',ds',A',hr',he with
   |w::ws',e::ds',r::A',hr',he=>
    simp only[aG,List.map_cons,D_,List.cons.injEq]at he
    obtain⟨rfl,rfl⟩:=he
    refine⟨aN _ hx hy,_,rfl,?_⟩
    have hrl:=hw r (ha r List.mem_cons_self)
    refine⟨_,_,_,acc,r,rfl,rfl,hr'.1,by omega,fun b hb=>hm w (hw' w List.mem_cons_self) r (ha r List.mem_cons_self) b hb,?_⟩
    refine next _ _ ⟨_,_,ws',ds',A',Mx.fm acc w r,rfl,rfl,hr'.2,rfl,by rw[Mx.jr (by omega)];exact hl,fun q hq=>ha q (List.mem_cons_of_mem _ hq),fun q hq=>hw' q (List.mem_cons_of_mem _ hq),?_⟩
    rw[←hs];rfl
   | [],_,_,_,he=>cases he
   |_::_,[],[],_,he=>cases he
noncomputable def lV:cp:=fun ds st K=>∃(x y:D) (n:Nat) (A B:List (List Int)),ds=[x,y]∧fG st x A∧fG st y B∧B≠ []∧(∀r∈B,r.length=n)∧n≤1000∧A.length≤1000∧(∀w∈A,∀c∈w,∀r∈B,∀b∈r,IntMulOk c b)∧K (cz (Mx.mulM A B n)) st
noncomputable def nZ:List Str:=["one","other","wide"]
noncomputable def C_:DS:=(aH (bg 2 (bp d9 (af (aq aM (ae 1) (dC (.int 0))) ak)))
 (ba (bp dB (af (dG (eH (ae 0)) [none,some 1,some 2] (bJ 0) cQ (aE p7 (af (ae 0) (af (ae 1) (af (ae 2) ak))))) ak))))
theorem zH{st:ag}{n:Nat}{B:List (List Int)}{f:D→D}:∀ {ds:List D} {A:List (List Int)},bT st ds A→(∀d r,items? st d=some (aG r)→f d=cu (Mx.cN r B (List.replicate n 0)))→ds.map f=(Mx.mulM A B n).map cu
 | [],[],_,_=>rfl
 |d::ds,r::A,h,hf=>by
  rw[List.map_cons,hf d r h.1,zH h.2 hf];rfl
theorem BX:∀ds st K,lV ds st K→ds.length=2∧C_ {nx:=fun _ st'=>K .aK st',rt:=K} (aT nZ ds) st:=by
 rintro ds st K ⟨x,y,n,A,B,rfl,⟨da,hx,ra⟩,hy,hB,hw,hn,hl,hm,k⟩
 refine⟨rfl,?_⟩
 obtain⟨db,ey,rb⟩:=hy.ex
 match B,db,rb,hB,hw,hm,hy,k,ey with
 |r0::B,d0::db,rb,_,hw,hm,hy,k,ey=>
  have h0:r0.length=n:=hw r0 List.mem_cons_self
  refine aC ey Es (dA rb.1 ?_)
  rw[List.length_map,h0]
  refine rh hx fun ok aN=>⟨cE (by rw[ra.len];exact hl),?_⟩
  refine comp_map (g:=fun d=>cu (Mx.cN (intsOf st d) (r0::B) (List.replicate n 0))) aN da (fun d hd K' q=>?_) ?_
  · obtain⟨i,hi,ed⟩:=List.mem_iff_getElem.mp hd
    obtain⟨r,er,hr⟩:=ra.get (i:=i) (d:=d) (by rw[List.getElem?_eq_getElem hi,ed])
    refine⟨_,rfl,d,y,n,r,r0::B,rfl,hr,hy,hw,hn,fun c hc=>hm r (List.mem_of_getElem? er) c hc,?_⟩
    rw[wG hr]at q
    exact q
  · refine de rfl ?_
    rw[zH ra (n:=n) (B:=r0::B) fun d r h=>by rw[wG h]]
    exact k
 |_::_,[],rb,_,_,_,_,_,_=>exact rb.elim
noncomputable def tN:cp:=fun ds st K=>∃(d:D) (A:List (List Int)) (j:Nat),ds=[d,.int j]∧fG st d A∧(∀r∈A,j<r.length)∧A.length≤1000∧K (cu (Mx.vt A j)) st
noncomputable def pW:List Str:=["rows","place"]
noncomputable def FF:DS:=(ba (bp dB (af (dG (eH (ae 0)) [none,some 1] (bJ 0) cQ (aq aM (ae 0) (ae 1))) ak)))
theorem Cy{tg:fL}{te:DE}{ok:ag→Prop}{σc:cj}{st:ag}{K:List D→ag→Prop}{ds:List D}{A:List (List Int)}(f:List Int→D)(aN:ok st)(hr:bT st ds A)(hx:∀d r,r∈A→items? st d=some (aG r)→∀K',K' (f r) st→∃σ2,tg d σc=some σ2∧te σ2 st K')(k:K (A.map f) st):dg tg cQ te ok σc ds [] st K:=by
 refine f6 (fun rest acc st'=>∃(A1 A2:List (List Int)),st=st'∧A1++A2=A∧bT st rest A2∧acc=A1.map f) ?_ ?_ _ _ _ ⟨[],A,rfl,rfl,hr,rfl⟩
 · rintro acc st' ⟨A1,A2,rfl,he,h,rfl⟩
   match A2,h with
   | [],_=>
     rw[List.append_nil]at he
     subst he
     exact⟨aN,k⟩
 · rintro d rest acc st' ⟨A1,A2,rfl,he,h,rfl⟩ next
   match A2,h with
   |r::A2,h=>
    obtain⟨σ2,e2,q⟩:=hx d r (by rw[←he];simp) h.1 (fun y st2=>dg tg cQ te ok σc rest (A1.map f++[y]) st2 K) (next _ _ ⟨A1++[r],A2,rfl,by rw[←he];simp,h.2,by simp⟩)
    exact⟨aN,σ2,e2,q⟩
theorem CH(A:List (List Int))(j:Nat):A.map (fun r=>D.int (r.getD j 0))=aG (Mx.vt A j):=by unfold Mx.vt aG;rw[List.map_map];rfl
theorem Dp:∀ds st K,tN ds st K→ds.length=2∧FF {nx:=fun _ st'=>K .aK st',rt:=K} (aT pW ds) st:=by
 rintro ds st K ⟨d,A,j,rfl,⟨da,hd,ra⟩,hj,hl,k⟩
 refine⟨rfl,?_⟩
 refine rh hd fun ok aN=>⟨cE (by rw[ra.len];exact hl),?_⟩
 refine Cy (fun r=> .int (r.getD j 0)) aN ra (fun e r hr he K' q=>⟨_,rfl,aC he (fy (hj r hr)) q⟩) ?_
 rw[CH]
 exact de rfl k
noncomputable def lZ:cp:=fun ds st K=>∃(d:D) (A:List (List Int)) (n:Nat),ds=[d,.int n]∧fG st d A∧(∀r∈A,r.length=n)∧A.length≤1000∧n≤1000∧K (cz (Mx.GR A n)) st
noncomputable def i9:List Str:=["rows","wide"]
noncomputable def w_:DS:=(ba (bp dB (af (dG (eF (af (ae 1) ak)) [none,some 0] (bJ 0) cQ (aE tN (af (ae 1) (af (ae 0) ak)))) ak)))
theorem FC(A:List (List Int))(n:Nat):(List.range n).map (fun j=>cu (Mx.vt A j))=(Mx.GR A n).map cu:=by unfold Mx.GR;rw[List.map_map];rfl
theorem vI:∀ds st K,lZ ds st K→ds.length=2∧w_ {nx:=fun _ st'=>K .aK st',rt:=K} (aT i9 ds) st:=by
 rintro ds st K ⟨d,A,n,rfl,hd,hw,hl,hn,k⟩
 refine⟨rfl,?_⟩
 refine fx ⟨by omega,by omega⟩ ⟨cE (by rw[dR];omega),?_⟩
 rw[Int.toNat_natCast]
 refine jZ (fun j=>cu (Mx.vt A j)) n (fun i hi K' q=>⟨_,rfl,d,A,i,rfl,hd,fun r hr=>by rw[hw r hr];exact hi,hl,q⟩) ?_
 rw[FC]
 exact de rfl k
noncomputable def qd:cp:=fun ds st K=>∃(n i:Nat),ds=[.int n,.int i]∧n≤1000∧K (cu (Mx.fw n i)) st
noncomputable def mD:List Str:=["n","place"]
noncomputable def Bu:DS:=(ba (bp dB (af (dG (eF (af (ae 0) ak)) [none,some 1] (bJ 0) cQ (Gr (a5 (aq iW (ae 0) (ae 1))) (dC (.int 1)) (dC (.int 0)))) ak)))
theorem zR:∀ds st K,qd ds st K→ds.length=2∧Bu {nx:=fun _ st'=>K .aK st',rt:=K} (aT mD ds) st:=by
 rintro ds st K ⟨n,i,rfl,hn,k⟩
 refine⟨rfl,?_⟩
 refine fx ⟨by omega,by omega⟩ ⟨cE (by rw[dR];omega),?_⟩
 rw[Int.toNat_natCast]
 refine jZ (fun j=> .int (Mx.dl j i)) n (fun j hj K' q=>⟨_,rfl,?_⟩) ?_
 · refine eq2 (fun h=>fX ?_) fun h=>?_
   · have:j=i:=by omega
     subst this
     rw[Mx.eG]at q;exact q
   · rw[Mx.e7 (by omega)]at q;exact q
 · have:(List.range n).map (fun j=>D.int (Mx.dl j i))=aG (Mx.fw n i):=by unfold Mx.fw aG;rw[List.map_map];rfl
   rw[this]
   exact de rfl k
noncomputable def kW:cp:=fun ds st K=>∃(n:Nat),ds=[.int n]∧n≤1000∧K (cz (Mx.units n)) st
noncomputable def la:List Str:=["n"]
noncomputable def zV:DS:=(ba (bp dB (af (dG (eF (af (ae 0) ak)) [none,some 0] (bJ 0) cQ (aE qd (af (ae 1) (af (ae 0) ak)))) ak)))
theorem zu:∀ds st K,kW ds st K→ds.length=1∧zV {nx:=fun _ st'=>K .aK st',rt:=K} (aT la ds) st:=by
 rintro ds st K ⟨n,rfl,hn,k⟩
 refine⟨rfl,?_⟩
 refine fx ⟨by omega,by omega⟩ ⟨cE (by rw[dR];omega),?_⟩
 rw[Int.toNat_natCast]
 refine jZ (fun i=>cu (Mx.fw n i)) n (fun i hi K' q=>⟨_,rfl,n,i,rfl,hn,q⟩) ?_
 have:(List.range n).map (fun i=>cu (Mx.fw n i))=(Mx.units n).map cu:=by unfold Mx.units;rw[List.map_map];rfl
 rw[this]
 exact de rfl k
noncomputable def fK:List Int→Nat→Option Nat
 | [],_=>none
 |x::xs,i=>if x=0 then fK xs (i+1)else some i
noncomputable def h_(r:List Int):Option Nat:=fK r 0
noncomputable def mE(r:List Int):D:=match h_ r with
 |some k=> .int (k:Int)
 |none=> .aK
noncomputable def iw:cp:=fun ds st K=>∃(d:D) (r:List Int),ds=[d]∧items? st d=some (aG r)∧K (mE r) st
noncomputable def nW:List Str:=["row","place","number"]
noncomputable def D9:DS:=(aH (hJ (xy (af (ae 0) ak)) (je 1 2) (d7 (a5 (aq mh (ae 2) (dC (.int 0)))) (ba (ae 1)) cU))
 (ba (dC .aK)))
theorem BS:∀ds st K,iw ds st K→ds.length=1∧D9 {nx:=fun _ st'=>K .aK st',rt:=K} (aT nW ds) st:=by
 rintro ds st K ⟨d,r,rfl,hd,k⟩
 refine⟨rfl,?_⟩
 refine AD hd fun ok aN=>?_
 refine g5 (fun rest σ st'=>st'=st∧∃(v1 v2:Option D) (s:List Int) (i:Nat),σ=[some d,v1,v2]∧rest=gf i (aG s)∧fK r 0=fK s i) ?_ ?_ _ _ _ ⟨rfl,none,none,r,0,rfl,rfl,rfl⟩
 · rintro σ st' ⟨rfl,v1,v2,s,i,rfl,hr,hl⟩
   match s,hr with
   | [],_=>
     refine⟨aN _ hd,?_⟩
     have:mE r= .aK:=by unfold mE h_;rw[hl];rfl
     rw[this]at k;exact k
 · rintro x rest σ st' ⟨rfl,v1,v2,s,i,rfl,hr,hl⟩ next
   match s,hr,hl with
   |y::s,hr,hl=>
    simp only[aG,List.map_cons,gf,List.cons.injEq]at hr
    obtain⟨rfl,rfl⟩:=hr
    refine⟨aN _ hd,_,rfl,?_⟩
    refine ne2 (fun h=>fX ?_) fun h=>?_
    · have:mE r= .int (i:Int):=by unfold mE h_;rw[hl];unfold fK;rw[if_neg h]
      rw[this]at k;exact k
    · refine next _ _ ⟨rfl,_,_,s,i+1,rfl,rfl,?_⟩
      rw[hl];unfold fK;rw[if_pos h];cases s<;>rfl
   | [],hr,_=>cases hr
theorem yq:∀(r:List Int) (i l:Nat),(∀c,c<l→r.getD c 0=0)→r.getD l 0≠0→fK r i=some (i+l)
 | [],_,_,_,h=>(h rfl).elim
 |x::r,i,0,_,h=>by
  unfold fK
  rw[if_neg (show¬x=0 from h)];rfl
 |x::r,i,l+1,hz,h=>by
  unfold fK
  rw[if_pos (show x=0 from hz 0 (Nat.zero_lt_succ _)),yq r (i+1) l (fun c hc=>hz (c+1) (Nat.succ_lt_succ hc)) h,Nat.add_right_comm]
  rfl
theorem pQ:∀(r:List Int) (i:Nat),fK r i=none→∀c,r.getD c 0=0
 | [],_,_,_=>rfl
 |x::r,i,h,c=>by
  unfold fK at h
  split at h
  · cases c with
    |zero=>assumption
    |succ c=>exact pQ r (i+1) h c
  · cases h
theorem rJ{r:List Int}{l:Nat}(h:∀c,c<l→r.getD c 0=0)(h':r.getD l 0≠0):h_ r=some l:=by
 have:=yq r 0 l h h'
 rw[Nat.zero_add]at this
 exact this
noncomputable def ip:cp:=fun ds st K=>∃(t d:Int),ds=[.int t,.int d]∧d≠0∧K (.int (Mx.qn t d)) st
noncomputable def fW:List Str:=["top","bottom"]
noncomputable def qU:DS:=(ba (aq lH (aq eh (aq du (dC (.int 2)) (ae 0)) (ae 1)) (aq du (dC (.int 2)) (ae 1))))
theorem qx:∀ds st K,ip ds st K→ds.length=2∧qU {nx:=fun _ st'=>K .aK st',rt:=K} (aT fW ds) st:=by
 rintro ds st K ⟨t,d,rfl,hd,k⟩
 exact⟨rfl,iq (jK (by decide) (by decide)) (eJ (iq (jK (by decide) (by decide)) (yz (by omega) k)))⟩
noncomputable def i5:cp:=fun ds st K=>∃(n k o:Nat) (A:List (List Int)),ds=[.ref n,.int k,.int o]∧st[n]?=some (.lst (A.map a9))∧k<A.length∧o<A.length∧K (.ref st.length) (st++[.lst ((Mx.bH A k o).map a9)])
noncomputable def kY:List Str:=["rows","k","other","order"]
noncomputable def zS:DS:=(aH (bg 3 (bp o6 (af (ae 0) ak)))
 (aH (dX (ae 3) (ae 1) (aq aM (ae 0) (ae 2)))
 (aH (dX (ae 3) (ae 2) (aq aM (ae 0) (ae 1)))
 (ba (ae 3)))))
theorem dO{A:List (List Int)}{j:Nat}(h:j<A.length):dZ (A.map a9) (j:Int)=some (a9 (A.getD j [])):=by
 refine iN ?_
 rw[List.getElem?_map,List.getElem?_eq_getElem h,Mx.bf h];rfl
theorem lI{m k:Nat}(h:k<m):mi m (k:Int)=some k:=by
 have:=zC (i:=(k:Int)) (m:=m) (by omega) (by omega)
 rw[Int.toNat_natCast]at this
 exact this
theorem gY{A:List (List Int)}{k:Nat}{r:List Int}:(A.map a9).set k (a9 r)=(A.set k r).map a9:=by rw[List.map_set]
theorem yG:∀ds st K,i5 ds st K→ds.length=3∧zS {nx:=fun _ st'=>K .aK st',rt:=K} (aT kY ds) st:=by
 rintro ds st K ⟨n,k,o,A,rfl,e,hk,ho,kk⟩
 refine⟨rfl,?_⟩
 have hn:n<st.length:=(List.getElem?_eq_some_iff.mp e).1
 refine yp (aJ e) ?_
 have e1:(st++[Cell.lst (A.map a9)])[n]?=some (.lst (A.map a9)):=by rw[List.getElem?_append_left hn];exact e
 have e2:(st++[Cell.lst (A.map a9)])[st.length]?=some (.lst (A.map a9)):=by simp
 refine aC (aJ e1) (dO ho) (iD e2 (by rw[List.length_map];exact lI hk) ?_)
 rw[gY]
 have es:(st++[Cell.lst (A.map a9)]).set st.length (.lst ((A.set k (A.getD o [])).map a9))=st++[Cell.lst ((A.set k (A.getD o [])).map a9)]:=by
  rw[List.set_append_right _ _ (Nat.le_refl _),Nat.sub_self];rfl
 rw[es]
 have e3:(st++[Cell.lst ((A.set k (A.getD o [])).map a9)])[n]?=some (.lst (A.map a9)):=by rw[List.getElem?_append_left hn];exact e
 have e4:(st++[Cell.lst ((A.set k (A.getD o [])).map a9)])[st.length]?=some (.lst ((A.set k (A.getD o [])).map a9)):=by simp
 refine aC (aJ e3) (dO hk) (iD e4 (by rw[List.length_map,List.length_set];exact lI ho) ?_)
 rw[gY]
 have es2:(st++[Cell.lst ((A.set k (A.getD o [])).map a9)]).set st.length (.lst (((A.set k (A.getD o [])).set o (A.getD k [])).map a9))=st++[Cell.lst ((Mx.bH A k o).map a9)]:=by
  rw[List.set_append_right _ _ (Nat.le_refl _),Nat.sub_self];rfl
 rw[es2]
 exact kk
noncomputable def lO:cp:=fun ds st K=>∃(d:D) (r:List Int),ds=[d]∧items? st d=some (aG r)∧r.length≤1000∧K (a9 (r.map fun x=> -x)) st
noncomputable def nU:List Str:=["row"]
noncomputable def Dx:DS:=(ba (dG (eH (ae 0)) [none] (bJ 0) cQ (lG gJ (ae 0))))
theorem BW:∀ds st K,lO ds st K→ds.length=1∧Dx {nx:=fun _ st'=>K .aK st',rt:=K} (aT nU ds) st:=by
 rintro ds st K ⟨d,r,rfl,hd,hl,k⟩
 refine⟨rfl,?_⟩
 refine rh hd fun ok aN=>⟨cE (by unfold aG;rw[List.length_map];exact hl),?_⟩
 refine comp_map (g:=fun x=>match x with| .int a=> .int (-a)|_=> .aK) aN _ (fun x hx K' q=>?_) ?_
 · unfold aG at hx
   obtain⟨a,_,rfl⟩:=List.mem_map.mp hx
   exact⟨_,rfl,j5 q⟩
 · have e:(aG r).map (fun x=>match x with| .int a=> .int (-a)|_=> .aK)=aG (r.map fun x=> -x):=by unfold aG;rw[List.map_map,List.map_map];rfl
   rw[e];exact k
structure Bn(st:ag)(b xb xu xc:Nat)(A U C:List (List Int)):Prop where
 eb:st[b]?=some (Cell.ins aB [("body",.ref xb),("turn",.ref xu),("back_columns",.ref xc)])
 e1:st[xb]?=some (Cell.lst (A.map a9))
 e2:st[xu]?=some (Cell.lst (U.map a9))
 e3:st[xc]?=some (Cell.lst (C.map a9))
 n1:xb≠xu
 n2:xb≠xc
 n3:xu≠xc
theorem jW{st:ag}{b x:Nat}{C:Addr}{fs:List (Str×D)}{xs:List D}(h1:st[b]?=some (Cell.ins C fs))(h2:st[x]?=some (Cell.lst xs)):b≠x:=fun z=>by rw[z,h2]at h1;cases h1
noncomputable def jo:cp:=fun ds st K=>∃(b N:Nat) (d:D) (A:List (List Int)),ds=[.ref b,d]∧st[b]?=some (.ins aB [])∧fG st d A∧A.length=N∧N≤8∧∀st',Bn st' b st.length (st.length+1) (st.length+2) A (Mx.units N) (Mx.units N)→st'.length=st.length+3→(∀m,m<st.length→m≠b→st'[m]?=st[m]?)→K .aK st'
noncomputable def gE:List Str:=["self","rows"]
noncomputable def tS:DS:=(aH (ow aB "body" (ae 0) (qK (eH (ae 1)) [none] (bJ 0) cQ (bp i7 (af (ae 0) ak))))
 (aH (ow aB "turn" (ae 0) (qK (eH (aE kW (af (bp d9 (af (ae 1) ak)) ak))) [none] (bJ 0) cQ (bp i7 (af (ae 0) ak))))
 (ow aB "back_columns" (ae 0) (qK (eH (aE kW (af (bp d9 (af (ae 1) ak)) ak))) [none] (bJ 0) cQ (bp i7 (af (ae 0) ak))))))
theorem pY(f:Str)(v:D):∀fs:List (Str×D),(putD f v fs).length≤fs.length+1
 | []=>by simp[putD]
 |(g,x)::r=>by
  unfold putD
  split
  · simp
  · have:=pY f v r
    simp only[List.length_cons]
    omega
theorem xX{st:ag}{A:List (List Int)}:bT st (A.map cu) A:=bT.tup
theorem wJ(n:Nat):(Mx.units n).length=n:=by unfold Mx.units;simp
theorem sF:∀ds st K,jo ds st K→ds.length=2∧tS {nx:=fun _ st'=>K .aK st',rt:=K} (aT gE ds) st:=by
 rintro ds st K ⟨b,N,d,A,rfl,eb,hA,hl,hN,k⟩
 refine⟨rfl,?_⟩
 have hb:b<st.length:=(List.getElem?_eq_some_iff.mp eb).1
 obtain⟨da,hd,ra⟩:=hA.ex
 have hdl:=ra.len
 have lst:∀(e:D) (r:List Int),True:=fun _ _=>trivial
 refine rh hd fun ok aN=>⟨cE (by omega),?_⟩
 refine gH a9 aN ra (fun e r hr he K' q=>⟨_,rfl,jL he q⟩) ?_
 have eb1:(st++[Cell.lst (A.map a9)])[b]?=some (.ins aB []):=by rw[List.getElem?_append_left hb];exact eb
 refine mR eb1 (by decide) ?_
 generalize hs1:(st++[Cell.lst (A.map a9)]).set b (.ins aB (putD "body" (.ref st.length) []))=st1
 have l1:st1.length=st.length+1:=by rw[←hs1];simp
 have f1:∀m,m<st.length→m≠b→st1[m]?=st[m]?:=fun m hm hmb=>by rw[←hs1,List.getElem?_set_ne (Ne.symm hmb),List.getElem?_append_left hm]
 have b1:st1[b]?=some (.ins aB (putD "body" (.ref st.length) [])):=by rw[←hs1,List.getElem?_set_self (by simp;omega)]
 have x1:st1[st.length]?=some (.lst (A.map a9)):=by rw[←hs1,List.getElem?_set_ne (by omega)];simp
 clear hs1
 have itd:∃da',items? st1 d=some da'∧da'.length=N:=by
  cases d with
  |ref n=>
   by_cases hnb:n=b
   · subst hnb
     unfold items? at hd
     simp only[eb]at hd
     cases hd
   · have hn:n<st.length:=by
      unfold items? at hd
      simp only at hd
      cases q:st[n]? with
      |none=>rw[q]at hd;cases hd
      |some c=>exact(List.getElem?_eq_some_iff.mp q).1
     refine⟨da,?_,by omega⟩
     unfold items? at hd⊢
     simp only at hd⊢
     rw[f1 n hn hnb]
     exact hd
  |_=>exact⟨da,hd,by omega⟩
 obtain⟨da1,hd1,hdl1⟩:=itd
 refine dA hd1 ?_
 rw[hdl1]
 refine⟨N,rfl,by omega,?_⟩
 refine fu ⟨cE (by rw[List.length_map,wJ];omega),?_⟩
 refine gH a9 trivial xX (fun e r hr he K' q=>⟨_,rfl,jL he q⟩) ?_
 have b2:(st1++[Cell.lst ((Mx.units N).map a9)])[b]?=some (.ins aB (putD "body" (.ref st.length) [])):=by rw[List.getElem?_append_left (by omega)];exact b1
 refine mR b2 (by have:=pY "body" (.ref st.length) [];simp only[List.length_nil]at this;omega) ?_
 generalize hs2:(st1++[Cell.lst ((Mx.units N).map a9)]).set b (.ins aB (putD "turn" (.ref st1.length) (putD "body" (.ref st.length) [])))=st2
 have l2:st2.length=st.length+2:=by rw[←hs2];simp;omega
 have f2:∀m,m<st1.length→m≠b→st2[m]?=st1[m]?:=fun m hm hmb=>by rw[←hs2,List.getElem?_set_ne (Ne.symm hmb),List.getElem?_append_left hm]
 have b2':st2[b]?=some (.ins aB (putD "turn" (.ref st1.length) (putD "body" (.ref st.length) []))):=by rw[←hs2,List.getElem?_set_self (by simp;omega)]
 have x2:st2[st1.length]?=some (.lst ((Mx.units N).map a9)):=by rw[←hs2,List.getElem?_set_ne (by omega)];simp
 clear hs2
 have itd2:items? st2 d=some da1:=by
  cases d with
  |ref n=>
   by_cases hnb:n=b
   · subst hnb
     unfold items? at hd1
     simp only[b1]at hd1
     cases hd1
   · have hn:n<st1.length:=by
      unfold items? at hd1
      simp only at hd1
      cases q:st1[n]? with
      |none=>rw[q]at hd1;cases hd1
      |some c=>exact(List.getElem?_eq_some_iff.mp q).1
     unfold items? at hd1⊢
     simp only at hd1⊢
     rw[f2 n hn hnb]
     exact hd1
  |_=>exact hd1
 refine dA itd2 ?_
 rw[hdl1]
 refine⟨N,rfl,by omega,?_⟩
 refine fu ⟨cE (by rw[List.length_map,wJ];omega),?_⟩
 refine gH a9 trivial xX (fun e r hr he K' q=>⟨_,rfl,jL he q⟩) ?_
 have b3:(st2++[Cell.lst ((Mx.units N).map a9)])[b]?=some (.ins aB (putD "turn" (.ref st1.length) (putD "body" (.ref st.length) []))):=by rw[List.getElem?_append_left (by omega)];exact b2'
 refine mR b3 (by have h1:=pY "body" (.ref st.length) [];have h2:=pY "turn" (.ref st1.length) (putD "body" (.ref st.length) []);simp only[List.length_nil]at h1;omega) ?_
 refine k _ ⟨?_,?_,?_,?_,by omega,by omega,by omega⟩ (by simp;omega) fun m hm hmb=>?_
 · rw[List.getElem?_set_self (by simp;omega),l1,l2];rfl
 · rw[List.getElem?_set_ne (by omega),List.getElem?_append_left (by omega),f2 _ (by omega) (by omega)];exact x1
 · rw[List.getElem?_set_ne (by omega),List.getElem?_append_left (by omega)]
   rw[l1]at x2
   exact x2
 · rw[List.getElem?_set_ne (by omega)]
   rw[show st.length+2=st2.length by omega]
   simp
 · rw[List.getElem?_set_ne (Ne.symm hmb),List.getElem?_append_left (by omega),f2 m (by omega) hmb,f1 m hm hmb]
noncomputable def kc:cp:=fun ds st K=>∃(b xb xu xc N w k j:Nat) (A U C:List (List Int)) (q:Int),ds=[.ref b,.int k,.int q,.int j]∧Bn st b xb xu xc A U C∧Mx.bY N w A∧Mx.bY N N U∧Mx.bY N N C∧k<N∧j<N∧N≤8∧w≤9∧(∀x∈A.getD j [],IntMulOk (-q) x)∧(∀x∈U.getD j [],IntMulOk (-q) x)∧(∀x∈C.getD k [],IntMulOk q x)∧
 ∀st',Bn st' b xb xu xc (Mx.bN A k q j) (Mx.bN U k q j) (Mx.bN C j (-q) k)→st'.length=st.length→(∀m,m≠xb→m≠xu→m≠xc→st'[m]?=st[m]?)→K .aK st'
noncomputable def jX:List Str:=["self","k","times","other"]
noncomputable def y_:DS:=(aH (dX (dU aB "body" (ae 0)) (ae 1) (aE kL (af (aq aM (dU aB "body" (ae 0)) (ae 1)) (af (lG gJ (ae 2)) (af (aq aM (dU aB "body" (ae 0)) (ae 3)) ak)))))
 (aH (dX (dU aB "turn" (ae 0)) (ae 1) (aE kL (af (aq aM (dU aB "turn" (ae 0)) (ae 1)) (af (lG gJ (ae 2)) (af (aq aM (dU aB "turn" (ae 0)) (ae 3)) ak)))))
 (dX (dU aB "back_columns" (ae 0)) (ae 3) (aE kL (af (aq aM (dU aB "back_columns" (ae 0)) (ae 3)) (af (ae 2) (af (aq aM (dU aB "back_columns" (ae 0)) (ae 1)) ak)))))))
theorem xg:∀ds st K,kc ds st K→ds.length=4∧y_ {nx:=fun _ st'=>K .aK st',rt:=K} (aT jX ds) st:=by
 rintro ds st K ⟨b,xb,xu,xc,N,w,k,j,A,U,C,q,rfl,B,hA,hU,hC,hk,hj,hN,hw,mA,mU,mC,kk⟩
 refine⟨rfl,?_⟩
 have lA:=hA.len
 have lU:=hU.len
 have lC:=hC.len
 have rA:=Mx.cJ hA hk
 have rU:=Mx.cJ hU hk
 have rC:=Mx.cJ hC hj
 have bx1:=jW B.eb B.e1
 have bx2:=jW B.eb B.e2
 have bx3:=jW B.eb B.e3
 have n1:=B.n1
 have n2:=B.n2
 have n3:=B.n3
 refine cA B.eb rfl (aC (aJ B.e1) (dO (by omega)) (j5 (cA B.eb rfl (aC (aJ B.e1) (dO (by omega)) ?_))))
 refine⟨_,_,-q,A.getD k [],A.getD j [],rfl,rfl,rfl,by omega,mA,?_⟩
 refine cA B.eb rfl (iD B.e1 (by rw[List.length_map,lA];exact lI hk) ?_)
 rw[gY]
 have g1:∀m,m≠xb→(st.set xb (.lst ((A.set k (Mx.fm (A.getD k []) (-q) (A.getD j []))).map a9)))[m]?=st[m]?:=fun m hm=>List.getElem?_set_ne (Ne.symm hm)
 have h1:(st.set xb (.lst ((A.set k (Mx.fm (A.getD k []) (-q) (A.getD j []))).map a9)))[xb]?=some (.lst ((Mx.bN A k q j).map a9)):=List.getElem?_set_self (List.getElem?_eq_some_iff.mp B.e1).1
 have z1:(st.set xb (.lst ((A.set k (Mx.fm (A.getD k []) (-q) (A.getD j []))).map a9))).length=st.length:=List.length_set
 generalize st.set xb (.lst ((A.set k (Mx.fm (A.getD k []) (-q) (A.getD j []))).map a9))=st1 at g1 h1 z1⊢
 have eb1:=(g1 b bx1).trans B.eb
 have e21:=(g1 xu (Ne.symm n1)).trans B.e2
 have e31:=(g1 xc (Ne.symm n2)).trans B.e3
 refine cA eb1 rfl (aC (aJ e21) (dO (by omega)) (j5 (cA eb1 rfl (aC (aJ e21) (dO (by omega)) ?_))))
 refine⟨_,_,-q,U.getD k [],U.getD j [],rfl,rfl,rfl,by omega,mU,?_⟩
 refine cA eb1 rfl (iD e21 (by rw[List.length_map,lU];exact lI hk) ?_)
 rw[gY]
 have g2:∀m,m≠xu→(st1.set xu (.lst ((U.set k (Mx.fm (U.getD k []) (-q) (U.getD j []))).map a9)))[m]?=st1[m]?:=fun m hm=>List.getElem?_set_ne (Ne.symm hm)
 have h2:(st1.set xu (.lst ((U.set k (Mx.fm (U.getD k []) (-q) (U.getD j []))).map a9)))[xu]?=some (.lst ((Mx.bN U k q j).map a9)):=List.getElem?_set_self (List.getElem?_eq_some_iff.mp e21).1
 have z2:(st1.set xu (.lst ((U.set k (Mx.fm (U.getD k []) (-q) (U.getD j []))).map a9))).length=st1.length:=List.length_set
 generalize st1.set xu (.lst ((U.set k (Mx.fm (U.getD k []) (-q) (U.getD j []))).map a9))=st2 at g2 h2 z2⊢
 have eb2:=(g2 b bx2).trans eb1
 have e32:=(g2 xc (Ne.symm n3)).trans e31
 refine cA eb2 rfl (aC (aJ e32) (dO (by omega)) (cA eb2 rfl (aC (aJ e32) (dO (by omega)) ?_)))
 refine⟨_,_,q,C.getD j [],C.getD k [],rfl,rfl,rfl,by omega,mC,?_⟩
 refine cA eb2 rfl (iD e32 (by rw[List.length_map,lC];exact lI hj) ?_)
 rw[gY]
 have hc:C.set j (Mx.fm (C.getD j []) q (C.getD k []))=Mx.bN C j (-q) k:=by unfold Mx.bN;rw[Int.neg_neg]
 rw[hc]
 refine kk _ ⟨?_,?_,?_,?_,n1,n2,n3⟩ (by rw[List.length_set];omega) fun m m1 m2 m3=>?_
 · rw[List.getElem?_set_ne (Ne.symm bx3)];exact eb2
 · rw[List.getElem?_set_ne (Ne.symm n2),g2 _ n1];exact h1
 · rw[List.getElem?_set_ne (Ne.symm n3)];exact h2
 · exact List.getElem?_set_self (List.getElem?_eq_some_iff.mp e32).1
 · rw[List.getElem?_set_ne (Ne.symm m3),g2 m m2,g1 m m1]
noncomputable def jj:cp:=fun ds st K=>∃(b xb xu xc N w k o:Nat) (A U C:List (List Int)),ds=[.ref b,.int k,.int o]∧Bn st b xb xu xc A U C∧Mx.bY N w A∧Mx.bY N N U∧Mx.bY N N C∧k<N∧o<N∧
 ∀st',Bn st' b st.length (st.length+1) (st.length+2) (Mx.bH A k o) (Mx.bH U k o) (Mx.bH C k o)→st'.length=st.length+3→(∀m,m<st.length→m≠b→st'[m]?=st[m]?)→K .aK st'
noncomputable def gI:List Str:=["self","k","other"]
noncomputable def ud:DS:=(aH (ow aB "body" (ae 0) (aE i5 (af (dU aB "body" (ae 0)) (af (ae 1) (af (ae 2) ak)))))
 (aH (ow aB "turn" (ae 0) (aE i5 (af (dU aB "turn" (ae 0)) (af (ae 1) (af (ae 2) ak)))))
 (ow aB "back_columns" (ae 0) (aE i5 (af (dU aB "back_columns" (ae 0)) (af (ae 1) (af (ae 2) ak)))))))
theorem sD:∀ds st K,jj ds st K→ds.length=3∧ud {nx:=fun _ st'=>K .aK st',rt:=K} (aT gI ds) st:=by
 rintro ds st K ⟨b,xb,xu,xc,N,w,k,o,A,U,C,rfl,B,hA,hU,hC,hk,ho,kk⟩
 refine⟨rfl,?_⟩
 have lA:=hA.len
 have lU:=hU.len
 have lC:=hC.len
 have bx1:=jW B.eb B.e1
 have bx2:=jW B.eb B.e2
 have bx3:=jW B.eb B.e3
 have hb:b<st.length:=(List.getElem?_eq_some_iff.mp B.eb).1
 have hu:xu<st.length:=(List.getElem?_eq_some_iff.mp B.e2).1
 have hc:xc<st.length:=(List.getElem?_eq_some_iff.mp B.e3).1
 refine cA B.eb rfl ?_
 refine⟨xb,k,o,A,rfl,B.e1,by omega,by omega,?_⟩
 have eb1:(st++[Cell.lst ((Mx.bH A k o).map a9)])[b]?=some (.ins aB [("body",.ref xb),("turn",.ref xu),("back_columns",.ref xc)]):=by rw[List.getElem?_append_left hb];exact B.eb
 refine mR eb1 (by simp) ?_
 have pb:putD "body" (.ref st.length) [("body",.ref xb),("turn",.ref xu),("back_columns",.ref xc)]=([("body",.ref st.length),("turn",.ref xu),("back_columns",.ref xc)]:List (Str×D)):=rfl
 rw[pb]
 generalize hs1:(st++[Cell.lst ((Mx.bH A k o).map a9)]).set b (.ins aB [("body",.ref st.length),("turn",.ref xu),("back_columns",.ref xc)])=st1
 have l1:st1.length=st.length+1:=by rw[←hs1];simp
 have f1:∀m,m<st.length→m≠b→st1[m]?=st[m]?:=fun m hm hmb=>by rw[←hs1,List.getElem?_set_ne (Ne.symm hmb),List.getElem?_append_left hm]
 have b1:st1[b]?=some (.ins aB [("body",.ref st.length),("turn",.ref xu),("back_columns",.ref xc)]):=by rw[←hs1,List.getElem?_set_self (by simp;omega)]
 have x1:st1[st.length]?=some (.lst ((Mx.bH A k o).map a9)):=by rw[←hs1,List.getElem?_set_ne (by omega)];simp
 clear hs1 eb1
 refine cA b1 rfl ?_
 refine⟨xu,k,o,U,rfl,(f1 xu hu (Ne.symm bx2)).trans B.e2,by omega,by omega,?_⟩
 have eb1:(st1++[Cell.lst ((Mx.bH U k o).map a9)])[b]?=some (.ins aB [("body",.ref st.length),("turn",.ref xu),("back_columns",.ref xc)]):=by rw[List.getElem?_append_left (by omega)];exact b1
 refine mR eb1 (by simp) ?_
 have pb:putD "turn" (.ref st1.length) [("body",.ref st.length),("turn",.ref xu),("back_columns",.ref xc)]=([("body",.ref st.length),("turn",.ref st1.length),("back_columns",.ref xc)]:List (Str×D)):=rfl
 rw[pb]
 generalize hs2:(st1++[Cell.lst ((Mx.bH U k o).map a9)]).set b (.ins aB [("body",.ref st.length),("turn",.ref st1.length),("back_columns",.ref xc)])=st2
 have l2:st2.length=st.length+2:=by rw[←hs2];simp;omega
 have f2:∀m,m<st1.length→m≠b→st2[m]?=st1[m]?:=fun m hm hmb=>by rw[←hs2,List.getElem?_set_ne (Ne.symm hmb),List.getElem?_append_left hm]
 have b2:st2[b]?=some (.ins aB [("body",.ref st.length),("turn",.ref st1.length),("back_columns",.ref xc)]):=by rw[←hs2,List.getElem?_set_self (by simp;omega)]
 have x2:st2[st1.length]?=some (.lst ((Mx.bH U k o).map a9)):=by rw[←hs2,List.getElem?_set_ne (by omega)];simp
 clear hs2 eb1
 refine cA b2 rfl ?_
 refine⟨xc,k,o,C,rfl,((f2 xc (by omega) (Ne.symm bx3)).trans (f1 xc hc (Ne.symm bx3))).trans B.e3,by omega,by omega,?_⟩
 have eb1:(st2++[Cell.lst ((Mx.bH C k o).map a9)])[b]?=some (.ins aB [("body",.ref st.length),("turn",.ref st1.length),("back_columns",.ref xc)]):=by rw[List.getElem?_append_left (by omega)];exact b2
 refine mR eb1 (by simp) ?_
 have pb:putD "back_columns" (.ref st2.length) [("body",.ref st.length),("turn",.ref st1.length),("back_columns",.ref xc)]=([("body",.ref st.length),("turn",.ref st1.length),("back_columns",.ref st2.length)]:List (Str×D)):=rfl
 rw[pb]
 refine kk _ ⟨?_,?_,?_,?_,by omega,by omega,by omega⟩ (by simp;omega) fun m hm hmb=>?_
 · rw[List.getElem?_set_self (by simp;omega),l1,l2]
 · rw[List.getElem?_set_ne (by omega),List.getElem?_append_left (by omega),f2 _ (by omega) (by omega)];exact x1
 · rw[List.getElem?_set_ne (by omega),List.getElem?_append_left (by omega)]
   rw[l1]at x2
   exact x2
 · rw[List.getElem?_set_ne (by omega)]
   rw[show st.length+2=st2.length by omega]
   simp
 · rw[List.getElem?_set_ne (Ne.symm hmb),List.getElem?_append_left (by omega),f2 m (by omega) hmb,f1 m hm hmb]
noncomputable def g9:cp:=fun ds st K=>∃(b xb xu xc N w k:Nat) (A U C:List (List Int)),ds=[.ref b,.int k]∧Bn st b xb xu xc A U C∧Mx.bY N w A∧Mx.bY N N U∧Mx.bY N N C∧k<N∧N≤8∧w≤9∧
 ∀st',Bn st' b xb xu xc (Mx.gp A k) (Mx.gp U k) (Mx.gp C k)→st'.length=st.length→(∀m,m≠xb→m≠xu→m≠xc→st'[m]?=st[m]?)→K .aK st'
noncomputable def fI:List Str:=["self","k"]
noncomputable def qy:DS:=(aH (dX (dU aB "body" (ae 0)) (ae 1) (aE lO (af (aq aM (dU aB "body" (ae 0)) (ae 1)) ak)))
 (aH (dX (dU aB "turn" (ae 0)) (ae 1) (aE lO (af (aq aM (dU aB "turn" (ae 0)) (ae 1)) ak)))
 (dX (dU aB "back_columns" (ae 0)) (ae 1) (aE lO (af (aq aM (dU aB "back_columns" (ae 0)) (ae 1)) ak)))))
theorem qm:∀ds st K,g9 ds st K→ds.length=2∧qy {nx:=fun _ st'=>K .aK st',rt:=K} (aT fI ds) st:=by
 rintro ds st K ⟨b,xb,xu,xc,N,w,k,A,U,C,rfl,B,hA,hU,hC,hk,hN,hw,kk⟩
 refine⟨rfl,?_⟩
 have lA:=hA.len
 have lU:=hU.len
 have lC:=hC.len
 have rA:=Mx.cJ hA hk
 have rU:=Mx.cJ hU hk
 have rC:=Mx.cJ hC hk
 have bx1:=jW B.eb B.e1
 have bx2:=jW B.eb B.e2
 have bx3:=jW B.eb B.e3
 have n1:=B.n1
 have n2:=B.n2
 have n3:=B.n3
 refine cA B.eb rfl (aC (aJ B.e1) (dO (by omega)) ?_)
 refine⟨_,A.getD k [],rfl,rfl,by omega,?_⟩
 refine cA B.eb rfl (iD B.e1 (by rw[List.length_map,lA];exact lI hk) ?_)
 rw[gY]
 have g1:∀m,m≠xb→(st.set xb (.lst ((A.set k ((A.getD k []).map fun x=> -x)).map a9)))[m]?=st[m]?:=fun m hm=>List.getElem?_set_ne (Ne.symm hm)
 have h1:(st.set xb (.lst ((A.set k ((A.getD k []).map fun x=> -x)).map a9)))[xb]?=some (.lst ((Mx.gp A k).map a9)):=List.getElem?_set_self (List.getElem?_eq_some_iff.mp B.e1).1
 have z1:(st.set xb (.lst ((A.set k ((A.getD k []).map fun x=> -x)).map a9))).length=st.length:=List.length_set
 generalize st.set xb (.lst ((A.set k ((A.getD k []).map fun x=> -x)).map a9))=st1 at g1 h1 z1⊢
 have eb1:=(g1 b bx1).trans B.eb
 have e21:=(g1 xu (Ne.symm n1)).trans B.e2
 have e31:=(g1 xc (Ne.symm n2)).trans B.e3
 refine cA eb1 rfl (aC (aJ e21) (dO (by omega)) ?_)
 refine⟨_,U.getD k [],rfl,rfl,by omega,?_⟩
 refine cA eb1 rfl (iD e21 (by rw[List.length_map,lU];exact lI hk) ?_)
 rw[gY]
 have g2:∀m,m≠xu→(st1.set xu (.lst ((U.set k ((U.getD k []).map fun x=> -x)).map a9)))[m]?=st1[m]?:=fun m hm=>List.getElem?_set_ne (Ne.symm hm)
 have h2:(st1.set xu (.lst ((U.set k ((U.getD k []).map fun x=> -x)).map a9)))[xu]?=some (.lst ((Mx.gp U k).map a9)):=List.getElem?_set_self (List.getElem?_eq_some_iff.mp e21).1
 have z2:(st1.set xu (.lst ((U.set k ((U.getD k []).map fun x=> -x)).map a9))).length=st1.length:=List.length_set
 generalize st1.set xu (.lst ((U.set k ((U.getD k []).map fun x=> -x)).map a9))=st2 at g2 h2 z2⊢
 have eb2:=(g2 b bx2).trans eb1
 have e32:=(g2 xc (Ne.symm n3)).trans e31
 refine cA eb2 rfl (aC (aJ e32) (dO (by omega)) ?_)
 refine⟨_,C.getD k [],rfl,rfl,by omega,?_⟩
 refine cA eb2 rfl (iD e32 (by rw[List.length_map,lC];exact lI hk) ?_)
 rw[gY]
 refine kk _ ⟨?_,?_,?_,?_,n1,n2,n3⟩ (by rw[List.length_set];omega) fun m m1 m2 m3=>?_
 · rw[List.getElem?_set_ne (Ne.symm bx3)];exact eb2
 · rw[List.getElem?_set_ne (Ne.symm n2),g2 _ n1];exact h1
 · rw[List.getElem?_set_ne (Ne.symm n3)];exact h2
 · exact List.getElem?_set_self (List.getElem?_eq_some_iff.mp e32).1
 · rw[List.getElem?_set_ne (Ne.symm m3),g2 m m2,g1 m m1]
noncomputable def gc:cp:=fun ds st K=>∃(b xb xu xc N w top p:Nat) (A U C:List (List Int)) (f:Bool),ds=[.ref b,.int top,.int p]∧Bn st b xb xu xc A U C∧Mx.bY N w A∧top≤N∧N≤8∧p<w∧w≤9∧st[0]?=some (fk f)∧
 ∀L,Mx.l8 A N top p L→K (.lst (L.map fun(k:Nat)=> .int (k:Int))) (st.set 0 (fk true))
noncomputable def gg:List Str:=["self","top","place","live"]
noncomputable def sG:DS:=(aH (bg 3 (dG (sq (af (ae 1) (af (bp d9 (af (dU aB "body" (ae 0)) ak)) ak))) [none,some 0,some 2] (bJ 0) (a5 (aq mh (aq aM (aq aM (dU aB "body" (ae 1)) (ae 0)) (ae 2)) (dC (.int 0)))) (ae 0)))
 (ba (yl 0 166 ⟨85,32,85,66⟩ "Bench.live_rows.<locals>.<lambda>" [none,some 0,some 2] (bp nI (af (aq aM (aq aM (dU aB "body" (ae 1)) (ae 0)) (ae 2)) ak)) (ae 3))))
theorem vf{a b:Prop}(h:b):if false=true then a else b:=h
theorem HV{st:ag}{b:Nat}{C:Addr}{fs:List (Str×D)}{f:Bool}(h1:st[b]?=some (Cell.ins C fs))(h2:st[0]?=some (fk f)):b≠0:=fun z=>by rw[z,h2]at h1;cases h1
theorem r9{st:ag}{b:Nat}{xs:List D}{f:Bool}(h1:st[b]?=some (Cell.lst xs))(h2:st[0]?=some (fk f)):b≠0:=fun z=>by rw[z,h2]at h1;cases h1
theorem Bn.keep{st st':ag}{b xb xu xc:Nat}{A U C:List (List Int)}(B:Bn st b xb xu xc A U C)(h:∀m,m=b∨m=xb∨m=xu∨m=xc→st'[m]?=st[m]?):Bn st' b xb xu xc A U C:=
 ⟨(h b (.inl rfl)).trans B.eb,(h xb (.inr (.inl rfl))).trans B.e1,(h xu (.inr (.inr (.inl rfl)))).trans B.e2,(h xc (.inr (.inr (.inr rfl)))).trans B.e3,B.n1,B.n2,B.n3⟩
theorem Bn.tab{st:ag}{b xb xu xc:Nat}{A U C:List (List Int)}{f:Bool}(B:Bn st b xb xu xc A U C)(h:st[0]?=some (fk f))(c:Cell):Bn (st.set 0 c) b xb xu xc A U C:=
 B.keep fun m hm=>List.getElem?_set_ne fun z=>by
  subst z
  rcases hm with rfl|rfl|rfl|rfl
  · exact HV B.eb h rfl
  · exact r9 B.e1 h rfl
  · exact r9 B.e2 h rfl
  · exact r9 B.e3 h rfl
theorem nE{r:List Int}{k:Nat}(h:k<r.length):dZ (aG r) (k:Int)=some (.int (r.getD k 0)):=by
 refine iN ?_
 unfold aG
 rw[List.getElem?_map,List.getElem?_eq_getElem h,Mx.bf h];rfl
noncomputable def fS(A:List (List Int))(N top p:Nat):List Nat:=(List.range (N-top)).filterMap fun i=>if Mx.g A (top+i) p≠0 then some (top+i)else none
theorem wy{A:List (List Int)}{N top p k:Nat}:k∈fS A N top p↔top≤k∧k<N∧Mx.g A k p≠0:=by
 unfold fS
 rw[List.mem_filterMap]
 constructor
 · rintro⟨i,hi,e⟩
   rw[List.mem_range]at hi
   split at e
   · rename_i h;cases e;exact⟨by omega,by omega,h⟩
   · cases e
 · rintro⟨h1,h2,h3⟩
   refine⟨k-top,List.mem_range.mpr (by omega),?_⟩
   rw[show top+(k-top)=k by omega,if_pos h3]
theorem pw_filterMap{f:Nat→Option Nat}(h:∀i j a b,i<j→f i=some a→f j=some b→a<b):∀ {l:List Nat},l.Pairwise (· < ·)→(l.filterMap f).Pairwise (· < ·)
 | [],_=>by simp
 |x::l,hl=>by
  obtain⟨h1,h2⟩:=List.pairwise_cons.mp hl
  rw[List.filterMap_cons]
  split
  · exact pw_filterMap h h2
  · rename_i a e
    refine List.pairwise_cons.mpr ⟨fun b hb=>?_,pw_filterMap h h2⟩
    obtain⟨j,hj,ej⟩:=List.mem_filterMap.mp hb
    exact h x j a b (h1 j hj) e ej
theorem pw_liveR{A:List (List Int)}{N top p:Nat}:(fS A N top p).Pairwise (· < ·):=by
 unfold fS
 refine pw_filterMap (fun i j a b hij ha hb=>?_) List.pairwise_lt_range
 split at ha
 · split at hb
   · cases ha;cases hb;omega
   · cases hb
 · cases ha
theorem xj{f:Nat→Option Nat}(l:List Nat):(l.filterMap f).length≤l.length:=List.length_filterMap_le ..
theorem Il{A:List (List Int)}{N top p:Nat}{os:List (Int×Int)}(hp:os.Perm (((fS A N top p).map fun(k:Nat)=>(((Mx.g A k p).natAbs:Nat):Int)).zip ((fS A N top p).map fun(k:Nat)=>(k:Int))))(hs:os.Pairwise slt):
 Mx.l8 A N top p (os.map fun q=>q.2.toNat)∧os.map (fun q=>D.int q.2)=(os.map fun q=>q.2.toNat).map fun(k:Nat)=>D.int (k:Int):=by
 have hz:((fS A N top p).map fun(k:Nat)=>(((Mx.g A k p).natAbs:Nat):Int)).zip ((fS A N top p).map fun(k:Nat)=>(k:Int))=(fS A N top p).map fun k=>((((Mx.g A k p).natAbs:Nat):Int),(k:Int)):=by
  exact List.zip_map' ..
 rw[hz]at hp
 have hm:∀q∈os,∃k,k∈fS A N top p∧q=((((Mx.g A k p).natAbs:Nat):Int),(k:Int)):=fun q hq=>by
  obtain⟨k,h1,h2⟩:=List.mem_map.mp (hp.mem_iff.mp hq)
  exact⟨k,h1,h2.symm⟩
 refine⟨⟨fun k=>?_,?_⟩,?_⟩
 · rw[←wy]
   constructor
   · intro h
     obtain⟨q,hq,e⟩:=List.mem_map.mp h
     obtain⟨j,h1,rfl⟩:=hm q hq
     simp only[Int.toNat_natCast]at e
     rw[←e];exact h1
   · intro h
     exact List.mem_map.mpr ⟨((((Mx.g A k p).natAbs:Nat):Int),(k:Int)),hp.mem_iff.mpr (List.mem_map.mpr ⟨k,h,rfl⟩),by simp⟩
 · rw[List.pairwise_map]
   refine hs.imp_of_mem fun{x y} hx hy h=>?_
   obtain⟨j,_,rfl⟩:=hm x hx
   obtain⟨k,_,rfl⟩:=hm y hy
   unfold slt at h
   simp only[Int.toNat_natCast]
   omega
 · rw[List.map_map]
   refine List.map_congr_left fun q hq=>?_
   obtain⟨j,_,rfl⟩:=hm q hq
   simp
theorem rk:∀ds st K,gc ds st K→ds.length=3∧sG {nx:=fun _ st'=>K .aK st',rt:=K} (aT gg ds) st:=by
 rintro ds st K ⟨b,xb,xu,xc,N,w,top,p,A,U,C,f,rfl,B,hA,ht,hN,hp,hw,h0,k⟩
 refine⟨rfl,?_⟩
 have lA:=hA.len
 have rowA:∀i,i<N→(A.getD i []).length=w:=fun i hi=>Mx.cJ hA hi
 refine cA B.eb rfl (dA (aJ B.e1) ?_)
 rw[List.length_map,lA]
 refine IM ⟨by omega,by omega,by omega,by omega⟩ ⟨cE (by unfold dY;simp;omega),?_⟩
 have er:((N:Int)-(top:Int)).toNat=N-top:=by omega
 rw[er]
 refine f6 (fun rest acc st'=>∃i:Nat,i≤N-top∧st'=st∧rest=(List.range (N-top-i)).map (fun j=>D.int ((top+i+j:Nat):Int))∧acc=((List.range i).filterMap fun i=>if Mx.g A (top+i) p≠0 then some (top+i)else none).map fun(k:Nat)=>D.int (k:Int)) ?_ ?_ _ _ _ ⟨0,Nat.zero_le _,rfl,by unfold dY;simp,by simp⟩
 · rintro acc st' ⟨i,hi,rfl,hr,rfl⟩
   have hi':i=N-top:=by
    rcases Nat.lt_or_ge i (N-top)with z|z
    · rw[show N-top-i=(N-top-i-1)+1 by omega,List.range_succ_eq_map]at hr;cases hr
    · omega
   subst hi'
   refine⟨trivial,?_⟩
   have e1:((fS A N top p).map fun(k:Nat)=>D.int (k:Int))=((fS A N top p).map fun(k:Nat)=>(k:Int)).map D.int:=by rw[List.map_map];rfl
   refine⟨(fS A N top p).map fun(k:Nat)=>(k:Int),(fS A N top p).map fun(k:Nat)=>(((Mx.g A k p).natAbs:Nat):Int),f,congrArg D.lst e1,?_,?_,by rw[List.length_map,List.length_map],h0,fun i n q hn hq=>?_,fun os hp' hs=>?_⟩
   · rw[List.length_map]
     have:=xj (f:=fun i=>if Mx.g A (top+i) p≠0 then some (top+i)else none) (List.range (N-top))
     rw[List.length_range]at this
     show(fS A N top p).length<64
     unfold fS
     omega
   · rw[List.pairwise_map]
     exact pw_liveR.imp fun h=>by omega
   · rw[List.getElem?_map]at hn hq
     cases z:(fS A N top p)[i]? with
     |none=>rw[z]at hn;cases hn
     |some j=>
      rw[z]at hn hq
      cases hn;cases hq
      obtain⟨j1,j2,j3⟩:=wy.mp (List.mem_of_getElem? z)
      have B1:=B.tab h0 (fk true)
      refine cA B1.eb rfl (aC (aJ B1.e1) (dO (by omega)) (aC rfl (nE (by rw[rowA j j2];exact hp)) (um ⟨rfl,rfl⟩)))
   · obtain⟨h1,h2⟩:=Il hp' hs
     rw[h2]
     exact k _ h1
 · rintro d rest acc st' ⟨i,hi,rfl,hr,rfl⟩ next
   have hlt:i<N-top:=by
    rcases Nat.lt_or_ge i (N-top)with z|z
    · exact z
    · rw[show N-top-i=0 by omega]at hr;cases hr
   rw[show N-top-i=(N-top-i-1)+1 by omega,List.range_succ_eq_map,List.map_cons,List.map_map]at hr
   obtain⟨rfl,rfl⟩:=List.cons.inj hr
   refine⟨trivial,_,rfl,?_⟩
   refine cA B.eb rfl (aC (aJ B.e1) (dO (j:=top+i+0) (by omega)) (aC rfl (nE (by rw[rowA _ (by omega)];exact hp)) ?_))
   have e2:List.range (i+1)=List.range i++[i]:=List.range_succ
   have e3:((List.range (N-top-i-1)).map ((fun j=>D.int ((top+i+j:Nat):Int))∘Nat.succ))=(List.range (N-top-(i+1))).map fun j=>D.int ((top+(i+1)+j:Nat):Int):=by
    rw[show N-top-i-1=N-top-(i+1) by omega]
    refine List.map_congr_left fun j _=>?_
    show D.int ((top+i+(j+1):Nat):Int)=_
    rw[show top+i+(j+1)=top+(i+1)+j by omega]
   refine ne2 (fun h=>?_) fun h=>?_
   · refine(next _ _ ⟨i+1,by omega,rfl,e3,?_⟩)
     rw[e2,List.filterMap_append,List.map_append]
     have:Mx.g A (top+i) p≠0:=h
     simp[this]
   · refine(next _ _ ⟨i+1,by omega,rfl,e3,?_⟩)
     rw[e2,List.filterMap_append,List.map_append]
     have:Mx.g A (top+i) p=0:=h
     simp[this]
structure Bo(n0:Nat)(st st':ag)(b xb xu xc:Nat):Prop where
 lo:1≤n0∧n0≤b∧n0≤xb∧n0≤xu∧n0≤xc
 fr:∀m,m<n0→m≠0→st'[m]?=st[m]?
 tb:∃f,st'[0]?=some (fk f)
noncomputable def kD:cp:=fun ds st K=>∃(n0 b xb xu xc N w top p e u v:Nat) (A0 A U C:List (List Int)) (ld:Nat→Nat),ds=[.ref b,.int top,.int p]∧Bn st b xb xu xc A U C∧Bo n0 st st b xb xu xc∧Mx.gF A0 N w ⟨A,U,C⟩ top p ld e u v∧N≤8∧w≤9∧p<w∧(N-top+1)*(e+1)≤60000000∧
 (∀st',Bn st' b xb xu xc A U C→Bo n0 st st' b xb xu xc→Mx.l8 A N top p []→K (.bl false) st')∧
 ∀st' xb' xu' xc' (c:Mx.B3) (r:Nat),Bn st' b xb' xu' xc' (Mx.setB c p top r).A (Mx.setB c p top r).U (Mx.setB c p top r).C→Bo n0 st st' b xb' xu' xc'→Mx.iZ N top p ⟨A,U,C⟩ c→Mx.l8 c.A N top p [r]→top<N→
  Mx.vU A0 N w top p (2^((N-top+1)*(e+1))) ⟨A,U,C⟩ (Mx.setB c p top r)→K (.bl true) st'
noncomputable def iM:List Str:=["self","top","place","live","great","small"]
noncomputable def vz:DS:=(aH (bg 3 (i4 aB "live_rows" gc (ae 0) (af (ae 1) (af (ae 2) ak))))
 (aH (pd (a5 (aq nY (bp d9 (af (ae 3) ak)) (dC (.int 1)))) (aH (bg 4 (aq aM (ae 3) (lG gJ (dC (.int 1)))))
 (aH (bg 5 (aq aM (ae 3) (lG gJ (dC (.int 2)))))
 (aH (mI (i4 aB "take" kc (ae 0) (af (ae 4) (af (aE ip (af (aq aM (aq aM (dU aB "body" (ae 0)) (ae 4)) (ae 2)) (af (aq aM (aq aM (dU aB "body" (ae 0)) (ae 5)) (ae 2)) ak))) (af (ae 5) ak)))))
 (bg 3 (i4 aB "live_rows" gc (ae 0) (af (ae 1) (af (ae 2) ak))))))))
 (aH (d7 (a5 (aq iW (bp d9 (af (ae 3) ak)) (dC (.int 0)))) (ba (dC (.bl false))) cU)
 (aH (mI (i4 aB "exchange" jj (ae 0) (af (ae 1) (af (aq aM (ae 3) (dC (.int 0))) ak))))
 (aH (d7 (a5 (aq pj (aq aM (aq aM (dU aB "body" (ae 0)) (ae 1)) (ae 2)) (dC (.int 0)))) (mI (i4 aB "change_sign" g9 (ae 0) (af (ae 1) ak))) cU)
 (ba (dC (.bl true))))))))
theorem Bo.Le{n0:Nat}{st st':ag}{b xb xu xc:Nat}(h:Bo n0 st st' b xb xu xc):Bo n0 st (st'.set 0 (fk true)) b xb xu xc:=
 ⟨h.lo,fun m hm h0=>by rw[List.getElem?_set_ne (Ne.symm h0)];exact h.fr m hm h0,true,by
  obtain⟨f,e⟩:=h.tb
  exact List.getElem?_set_self (List.getElem?_eq_some_iff.mp e).1⟩
theorem Bo.low{n0:Nat}{st st1 st2:ag}{b xb xu xc:Nat}(h:Bo n0 st st1 b xb xu xc)(f:∀m,m≠xb→m≠xu→m≠xc→st2[m]?=st1[m]?):Bo n0 st st2 b xb xu xc:=by
 obtain⟨l1,l2,l3,l4,l5⟩:=h.lo
 refine⟨h.lo,fun m hm h0=>?_,?_⟩
 · rw[f m (by omega) (by omega) (by omega)];exact h.fr m hm h0
 · obtain⟨z,e⟩:=h.tb
   exact⟨z,by rw[f 0 (by omega) (by omega) (by omega)];exact e⟩
theorem vG{X:List (List Int)}{N w top m i:Nat}(hX:Mx.bY N w X)(h:Mx.gv X N top m)(hi:top≤i)(hN:i<N):∀x∈X.getD i [],x.natAbs≤m:=fun x hx=>by
 obtain⟨c,hc,rfl⟩:=List.mem_iff_getElem.mp hx
 have:=h i c hi hN
 unfold Mx.g at this
 rwa [Mx.bf hc]at this
theorem x5{n j:Nat}(h:1≤j)(h2:j≤n):mi n (-(j:Int))=some (n-j):=by
 unfold mi
 rw[if_neg (by omega),if_pos (by omega)]
 congr 1
 omega
theorem LX{L:List Nat}{j k:Nat}:dZ ((L++[j,k]).map fun(k:Nat)=>D.int (k:Int)) (-1)=some (.int (k:Int)):=by
 unfold dZ
 have:=x5 (n:=((L++[j,k]).map fun(k:Nat)=>D.int (k:Int)).length) (j:=1) (by decide) (by simp)
 rw[show(-((1:Nat):Int))= -1 from rfl]at this
 rw[this]
 simp
theorem MH{L:List Nat}{j k:Nat}:dZ ((L++[j,k]).map fun(k:Nat)=>D.int (k:Int)) (-2)=some (.int (j:Int)):=by
 unfold dZ
 have:=x5 (n:=((L++[j,k]).map fun(k:Nat)=>D.int (k:Int)).length) (j:=2) (by decide) (by simp)
 rw[show(-((2:Nat):Int))= -2 from rfl]at this
 rw[this]
 simp
theorem E4:∀ {L:List Nat},1<L.length→∃M j k,L=M++[j,k]:=fun{L} h=>by
 refine⟨L.take (L.length-2),L[L.length-2]'(by omega),L[L.length-1]'(by omega),?_⟩
 have e1:L=L.take (L.length-2)++L.drop (L.length-2):=(List.take_append_drop _ _).symm
 have e2:L.drop (L.length-2)=[L[L.length-2]'(by omega),L[L.length-1]'(by omega)]:=by
  rw[List.drop_eq_getElem_cons (by omega),List.drop_eq_getElem_cons (by omega),List.drop_eq_nil_of_le (by omega)]
  congr 2
  congr 1
  omega
 rw[←e2];exact e1
theorem u4:∀ds st K,kD ds st K→ds.length=3∧vz {nx:=fun _ st'=>K .aK st',rt:=K} (aT iM ds) st:=by
 rintro ds st K ⟨n0,b,xb,xu,xc,N,w,top,p,e,u,v,A0,A,U,C,ld,rfl,B,O,S,hN,hw,hp,hz,kf,kt⟩
 refine⟨rfl,?_⟩
 have hle:=S.le
 obtain⟨f,h0⟩:=O.tb
 refine jx B.eb rfl ?_
 refine⟨b,xb,xu,xc,N,w,top,p,A,U,C,f,rfl,B,S.tn.isA,hle,hN,hp,hw,h0,fun L hL=>?_⟩
 have B1:=B.tab h0 (fk true)
 have O1:=O.Le
 try dsimp only[ak]
 refine m7 (fun σ st'=>∃(L:List Nat) (v4 v5:Option D) (c:Mx.B3) (gr:Nat),σ=[some (.ref b),some (.int top),some (.int p),some (.lst (L.map fun(k:Nat)=> .int (k:Int))),v4,v5]∧L.length≤1∧Bn st' b xb xu xc c.A c.U c.C∧Bo n0 st st' b xb xu xc∧Mx.iZ N top p ⟨A,U,C⟩ c∧Mx.tj A0 N w top p (2^e) ⟨A,U,C⟩ c gr∧Mx.l8 c.A N top p L) (fun nx hnx=>?_) ?_
 · refine⟨fun m σ st'=>∃(L:List Nat) (v4 v5:Option D) (c:Mx.B3) (gr:Nat),σ=[some (.ref b),some (.int top),some (.int p),some (.lst (L.map fun(k:Nat)=> .int (k:Int))),v4,v5]∧Bn st' b xb xu xc c.A c.U c.C∧Bo n0 st st' b xb xu xc∧Mx.iZ N top p ⟨A,U,C⟩ c∧Mx.tj A0 N w top p (2^e) ⟨A,U,C⟩ c gr∧Mx.l8 c.A N top p L∧m=Mx.mu c.A N p,⟨_,L,none,none,⟨A,U,C⟩,1,rfl,B1,O1,.refl _,S.OM,hL,rfl⟩,?_⟩
   rintro m σ st1 ⟨L,v4,v5,c,gr,rfl,B,O,hR,hG,hL,rfl⟩
   refine dA rfl ?_
   rw[List.length_map]
   refine Av (fun h=>fX ?_) fun h=>vf (hnx _ _ ⟨L,v4,v5,c,gr,rfl,by omega,B,O,hR,hG,hL⟩)
   obtain⟨M,j,k,rfl⟩:=E4 (L:=L) (by omega)
   refine j5 (aC rfl LX (j5 (aC rfl MH ?_)))
   obtain⟨G2,hlt,hoth,k1,k2,j1,j2,hjk,hj0⟩:=hG.step hp hL
   have T:=hG.tn
   have lA:=T.isA.len
   have hlow:=G2.low S.lo.1
   refine jx B.eb rfl (cA B.eb rfl (aC (aJ B.e1) (dO (by omega)) (aC rfl (nE (by rw[Mx.cJ T.isA k2];exact hp)) (cA B.eb rfl (aC (aJ B.e1) (dO (by omega)) (aC rfl (nE (by rw[Mx.cJ T.isA j2];exact hp)) ?_))))))
   refine⟨_,_,rfl,hj0,?_⟩
   have hq:(Mx.qn (Mx.g c.A k p) (Mx.g c.A j p)).natAbs≤2^((N-top+1)*(e+1)):=by
    refine Nat.le_trans ?_ hlow
    have a1:=hG.pos
    have a2:1≤2^e:=Nat.one_le_two_pow
    have a3:1*(Mx.qn (Mx.g c.A k p) (Mx.g c.A j p)).natAbs≤gr*(1+(Mx.qn (Mx.g c.A k p) (Mx.g c.A j p)).natAbs):=Nat.mul_le_mul a1 (by omega)
    have a4:=Nat.mul_le_mul a2 a3
    omega
   have hx:2^e*gr≤2^((N-top+1)*(e+1)):=hG.low S.lo.1
   have hm:∀ {x:Int},x.natAbs≤2^e*gr→IntMulOk (Mx.qn (Mx.g c.A k p) (Mx.g c.A j p)) x∧IntMulOk (-(Mx.qn (Mx.g c.A k p) (Mx.g c.A j p))) x:=fun{x} h=>
    ⟨fO hq (Nat.le_trans h hx) (by omega),fO (by rw[Int.natAbs_neg];exact hq) (Nat.le_trans h hx) (by omega)⟩
   refine⟨b,xb,xu,xc,N,w,k,j,c.A,c.U,c.C,_,rfl,B,T.isA,T.eQ,T.f_,k2,j2,hN,hw,fun x hx=>(hm (vG T.isA hG.lA j1 j2 x hx)).2,fun x hx=>(hm (vG T.eQ hG.lU j1 j2 x hx)).2,fun x hx=>(hm (vG T.f_ hG.lC k1 k2 x hx)).1,fun st2 B2 l2 f2=>?_⟩
   have O2:=O.low f2
   obtain⟨f',h0'⟩:=O2.tb
   refine jx B2.eb rfl ?_
   refine⟨b,xb,xu,xc,N,w,top,p,_,_,_,f',rfl,B2,G2.tn.isA,hle,hN,hp,hw,h0',fun L2 hL2=>?_⟩
   refine⟨_,?_,L2,_,_,Mx.jR c p k j,_,rfl,B2.tab h0' (fk true),O2.Le,hR.tail ⟨M,k,j,hL,rfl⟩,G2,hL2,rfl⟩
   unfold Mx.mu
   refine Mx.FW (k:=k) hlt k2 fun i hi=>?_
   by_cases h:i=k
   · rw[h];exact Nat.le_of_lt hlt
   · rw[hoth i h];exact Nat.le_refl _
 · rintro σ st1 ⟨L,v4,v5,c,gr,rfl,hl,B,O,hR,hG,hL⟩
   refine dA rfl ?_
   rw[List.length_map]
   match L,hl,hL with
   | [],_,hL=>
     refine eq2 (fun h=>fX ?_) fun h=>absurd rfl h
     have e0:c=⟨A,U,C⟩:=by
      rcases hG.L5 with z|⟨j,h1,h2,h3⟩
      · exact z
      · exact absurd ((hL.mem j).mpr ⟨h1,h2,h3⟩) (by simp)
     subst e0
     exact kf st1 B O hL
   | [r],_,hL=>
     refine eq2 (fun h=>absurd h (by simp)) fun h=>vf ?_
     obtain⟨s1,hr1,hr2⟩:=hG.set hL
     have ht:top<N:=by omega
     have T:=hG.tn
     have s2:Mx.vU A0 N w top p (2^((N-top+1)*(e+1))) ⟨A,U,C⟩ (Mx.setB c p top r):=by
      have hlow:=hG.low S.lo.1
      exact⟨s1.tn,s1.up,⟨fun i q h1 h2=>Nat.le_trans (s1.lo.1 i q h1 h2) hlow,fun i q h1 h2=>Nat.le_trans (s1.lo.2.1 i q h1 h2) hlow,fun i q h1 h2=>Nat.le_trans (s1.lo.2.2 i q h1 h2) hlow⟩,s1.zs,s1.tp,s1.z1⟩
     refine jx B.eb rfl (aC rfl (show dZ ([r].map fun(k:Nat)=>D.int (k:Int)) 0=some (.int (r:Int))from rfl) ?_)
     refine⟨b,xb,xu,xc,N,w,top,r,c.A,c.U,c.C,rfl,B,T.isA,T.eQ,T.f_,ht,hr2,fun st2 B2 l2 f2=>?_⟩
     obtain⟨l1,l2',l3,l4,l5⟩:=O.lo
     have hst:n0≤st1.length:=by
      have:=(List.getElem?_eq_some_iff.mp B.eb).1
      omega
     have O2:Bo n0 st st2 b st1.length (st1.length+1) (st1.length+2):=by
      refine⟨⟨l1,l2',by omega,by omega,by omega⟩,fun m hm h0=>?_,?_⟩
      · rw[f2 m (by omega) (by omega)];exact O.fr m hm h0
      · obtain⟨z,e⟩:=O.tb
        exact⟨z,by rw[f2 0 (by omega) (by omega)];exact e⟩
     have T1:=T.Gu ht hr2
     refine cA B2.eb rfl (aC (aJ B2.e1) (dO (by have:=T1.isA.len;omega)) (aC rfl (nE (by rw[Mx.cJ T1.isA ht];exact hp)) ?_))
     refine Nz (fun h=>fX ?_) fun h=>vf ?_
     · have es:Mx.setB c p top r=⟨Mx.gp (Mx.bH c.A top r) top,Mx.gp (Mx.bH c.U top r) top,Mx.gp (Mx.bH c.C top r) top⟩:=if_pos h
       refine jx B2.eb rfl ?_
       refine⟨b,_,_,_,N,w,top,_,_,_,rfl,B2,T1.isA,T1.eQ,T1.f_,ht,hN,hw,fun st3 B3 l3 f3=>?_⟩
       exact kt st3 _ _ _ c r (by rw[es];exact B3) (O2.low f3) hR hL ht s2
     · have es:Mx.setB c p top r=⟨Mx.bH c.A top r,Mx.bH c.U top r,Mx.bH c.C top r⟩:=if_neg (fun z=>by unfold Mx.g at z;omega)
       exact kt st2 _ _ _ c r (by rw[es];exact B2) O2 hR hL ht s2
noncomputable def g_:cp:=fun ds st K=>∃(b xb xu xc N w top p e u v:Nat) (A0 A U C:List (List Int)),ds=[.ref b,.int top,.int p]∧Bn st b xb xu xc A U C∧Mx.Tn A0 A U C N w∧N≤8∧w≤9∧p<w∧top<N∧0<Mx.g A top p∧(∀q,q<p→Mx.g A top q=0)∧
 (∀q,(Mx.g A top q).natAbs≤2^e∧(Mx.g U top q).natAbs≤2^e∧(Mx.g C top q).natAbs≤2^e)∧(∀i q,i<top→(Mx.g A i q).natAbs≤2^u∧(Mx.g U i q).natAbs≤2^u∧(Mx.g C i q).natAbs≤2^v)∧u+e≤125000000∧u+v≤125000000∧
 ∀st',Bn st' b xb xu xc (Mx.l6 p top top ⟨A,U,C⟩).A (Mx.l6 p top top ⟨A,U,C⟩).U (Mx.l6 p top top ⟨A,U,C⟩).C→(∀m,m≠xb→m≠xu→m≠xc→st'[m]?=st[m]?)→Mx.my A0 N w top p e u v ⟨A,U,C⟩ top (Mx.l6 p top top ⟨A,U,C⟩)→K .aK st'
noncomputable def fH:List Str:=["self","top","place","k"]
noncomputable def qw:DS:=(hJ (eF (af (ae 1) ak)) (bJ 3) (mI (i4 aB "take" kc (ae 0) (af (ae 3) (af (aq lH (aq aM (aq aM (dU aB "body" (ae 0)) (ae 3)) (ae 2)) (aq aM (aq aM (dU aB "body" (ae 0)) (ae 1)) (ae 2))) (af (ae 1) ak))))))
theorem BB{X:List (List Int)}{i:Nat}{x:Int}(hx:x∈X.getD i []):∃q,x=Mx.g X i q:=by
 obtain⟨c,hc,rfl⟩:=List.mem_iff_getElem.mp hx
 exact⟨c,by unfold Mx.g;rw[Mx.bf hc]⟩
theorem p9:∀ds st K,g_ ds st K→ds.length=3∧qw {nx:=fun _ st'=>K .aK st',rt:=K} (aT fH ds) st:=by
 rintro ds st K ⟨b,xb,xu,xc,N,w,top,p,e,u,v,A0,A,U,C,rfl,B,T,hN,hw,hp,ht,htp,hz,hlo,hhi,he,hu,kk⟩
 refine⟨rfl,?_⟩
 refine fx ⟨by omega,by omega⟩ ?_
 rw[Int.toNat_natCast]
 refine lP top (fun k σ st'=>∃v3:Option D,σ=[some (.ref b),some (.int top),some (.int p),v3]∧Bn st' b xb xu xc (Mx.l6 p top k ⟨A,U,C⟩).A (Mx.l6 p top k ⟨A,U,C⟩).U (Mx.l6 p top k ⟨A,U,C⟩).C∧(∀m,m≠xb→m≠xu→m≠xc→st'[m]?=st[m]?)∧Mx.my A0 N w top p e u v ⟨A,U,C⟩ k (Mx.l6 p top k ⟨A,U,C⟩)) ?_ ?_ ⟨none,rfl,B,fun _ _ _ _=>rfl,Mx.my.start T fun q=>(hlo q).2.2⟩
 · rintro σ st' ⟨v3,rfl,B',f,I⟩
   exact kk st' B' f I
 · rintro k σ st' rest hk ⟨v3,rfl,B',f,I⟩ next
   refine⟨_,rfl,?_⟩
   have hs:=I.step hk ht hp htp hz (fun q=>⟨(hlo q).1,(hlo q).2.1⟩) hhi
   generalize hc:Mx.l6 p top k ⟨A,U,C⟩=c at*
   have lA:=I.tn.isA.len
   have kN:k<N:=by omega
   have gA:∀i q,k≤i→Mx.g c.A i q=Mx.g A i q:=fun i q hi=>by unfold Mx.g;rw[(I.rA i hi).1]
   have gU:∀i q,k≤i→Mx.g c.U i q=Mx.g U i q:=fun i q hi=>by unfold Mx.g;rw[(I.rA i hi).2]
   have gC:∀i q,i≠top→Mx.g c.C i q=Mx.g C i q:=fun i q hi=>by unfold Mx.g;rw[I.rC i hi]
   have hq:((Mx.g c.A k p).fdiv (Mx.g c.A top p)).natAbs≤2^u:=by
    rw[gA k p (Nat.le_refl _),gA top p (by omega)]
    exact Nat.le_trans (Mx.kr _ htp) (hhi k p hk).1
   have htp':Mx.g c.A top p≠0:=by rw[gA top p (by omega)];omega
   refine jx B'.eb rfl (cA B'.eb rfl (aC (aJ B'.e1) (dO (by omega)) (aC rfl (nE (by rw[Mx.cJ I.tn.isA kN];exact hp)) (cA B'.eb rfl (aC (aJ B'.e1) (dO (by omega)) (aC rfl (nE (by rw[Mx.cJ I.tn.isA ht];exact hp)) (yz htp' ?_)))))))
   refine⟨b,xb,xu,xc,N,w,k,top,c.A,c.U,c.C,_,rfl,B',I.tn.isA,I.tn.eQ,I.tn.f_,kN,ht,hN,hw,fun x hx=>?_,fun x hx=>?_,fun x hx=>?_,fun st2 B2 l2 f2=>?_⟩
   · obtain⟨q,rfl⟩:=BB hx
     rw[gA top q (by omega)]
     exact fO (by rw[Int.natAbs_neg];exact hq) (hlo q).1 (by omega)
   · obtain⟨q,rfl⟩:=BB hx
     rw[gU top q (by omega)]
     exact fO (by rw[Int.natAbs_neg];exact hq) (hlo q).2.1 (by omega)
   · obtain⟨q,rfl⟩:=BB hx
     rw[gC k q (by omega)]
     exact fO hq (hhi k q hk).2.2 (by omega)
   · have el:Mx.l6 p top (k+1) ⟨A,U,C⟩=⟨Mx.bN c.A k ((Mx.g c.A k p).fdiv (Mx.g c.A top p)) top,Mx.bN c.U k ((Mx.g c.A k p).fdiv (Mx.g c.A top p)) top,Mx.bN c.C top (-((Mx.g c.A k p).fdiv (Mx.g c.A top p))) k⟩:=by rw[←hc];rfl
     refine next _ _ ⟨_,rfl,?_,fun m h1 h2 h3=>(f2 m h1 h2 h3).trans (f m h1 h2 h3),?_⟩
     · rw[el];exact B2
     · rw[el];exact hs
structure Bk(st st':ag):Prop where
 le:st.length≤st'.length
 fr:∀m,m<st.length→m≠0→st'[m]?=st[m]?
 tb:∃f,st'[0]?=some (fk f)
noncomputable def mz:cp:=fun ds st K=>∃(d:D) (N w e0:Nat) (A:List (List Int)) (f:Bool),ds=[d]∧fG st d A∧Mx.bY N w A∧1≤N∧N≤8∧w≤9∧Mx.gv A N 0 (2^e0)∧e0<60000000∧Mx.Rm N w e0∧st[0]?=some (fk f)∧
 ∀st' (top:Nat) (c:Mx.B3) (ld:Nat→Nat),Mx.vV A N w top c→Mx.gF A N w c top w ld (Mx.Ez N e0 top) (Mx.Uz N e0 top) (Mx.Cz N e0 top)→Bk st st'→K (.tup [cz (c.A.take top),cz c.U,cz (Mx.GR c.C N)]) st'
noncomputable def mG:List Str:=["rows","bench","top","place","back"]
noncomputable def Bv:DS:=(aH (bg 1 (Bg aB jo (af (ae 0) ak)))
 (aH (bg 2 (dC (.int 0)))
 (aH (hJ (eF (af (bp d9 (af (aq aM (ae 0) (dC (.int 0))) ak)) ak)) (bJ 3) (d7 (a5 (i4 aB "gather" kD (ae 1) (af (ae 2) (af (ae 3) ak)))) (aH (mI (i4 aB "lower_above" g_ (ae 1) (af (ae 2) (af (ae 3) ak))))
 (BO 2 (zE (fun i j=>i+j)) (dC (.int 1)))) cU))
 (aH (bg 4 (aE lZ (af (dU aB "back_columns" (ae 1)) (af (bp d9 (af (ae 0) ak)) ak))))
 (ba (l7 (af (aE oy (af (iG (dU aB "body" (ae 1)) gm (jV (ae 2))) ak)) (af (aE oy (af (dU aB "turn" (ae 1)) ak)) (af (ae 4) ak)))))))))
theorem ou{st st':ag}{f:Bool}(h0:st[0]?=some (fk f))(fr:∀m,m<st.length→m≠0→st'[m]?=st[m]?){d:D}{xs:List D}(h:items? st d=some xs):items? st' d=some xs:=by
 cases d with
 |ref n=>
  have e:=Dw h
  have n0:n≠0:=r9 e h0
  rw[aJ ((fr n (List.getElem?_eq_some_iff.mp e).1 n0).trans e)]
 |_=>exact h
theorem wL{st st':ag}{f:Bool}(h0:st[0]?=some (fk f))(fr:∀m,m<st.length→m≠0→st'[m]?=st[m]?):∀ {ds:List D} {A:List (List Int)},bT st ds A→bT st' ds A
 | [],[],_=>trivial
 |_::_,_::_,h=>⟨ou h0 fr h.1,wL h0 fr h.2⟩
theorem uE{st st':ag}{f:Bool}(h0:st[0]?=some (fk f))(fr:∀m,m<st.length→m≠0→st'[m]?=st[m]?){d:D}{A:List (List Int)}(h:fG st d A):fG st' d A:=by
 obtain⟨ds,h1,h2⟩:=h.ex
 exact⟨ds,ou h0 fr h1,wL h0 fr h2⟩
theorem uH{xs:List D}{j:Nat}:L3.cutD xs none (some (j:Int))=xs.take j:=by
 unfold L3.cutD
 rw[HT.Aw,HT.yJ,List.drop_zero,Nat.sub_zero]
 by_cases h:j≤xs.length
 · rw[Nat.min_eq_left h]
 · rw[Nat.min_eq_right (by omega),List.take_length,List.take_of_length_le (by omega)]
theorem zT:∀ds st K,mz ds st K→ds.length=1∧Bv {nx:=fun _ st'=>K .aK st',rt:=K} (aT mG ds) st:=by
 rintro ds st K ⟨d,N,w,e0,A,f,rfl,hd,hA,hN1,hN,hw,hlo,he0,hsz,h0,kk⟩
 refine⟨rfl,?_⟩
 have lA:=hA.len
 have h0l:0<st.length:=(List.getElem?_eq_some_iff.mp h0).1
 have hd1:fG (st++[Cell.ins aB []]) d A:=uE h0 (fun m hm _=>List.getElem?_append_left hm) hd
 refine⟨st.length,N,d,A,rfl,by simp,hd1,lA,hN,fun st1 B1 l1 f1=>⟨rfl,?_⟩⟩
 have hl1:(st++[Cell.ins aB []]).length=st.length+1:=by simp
 have fr1:∀m,m<st.length→st1[m]?=st[m]?:=fun m hm=>by rw[f1 m (by omega) (by omega),List.getElem?_append_left hm]
 have O1:Bo st.length st st1 st.length (st.length+1) (st.length+1+1) (st.length+1+2):=⟨⟨h0l,by omega,by omega,by omega,by omega⟩,fun m hm _=>fr1 m hm,f,(fr1 0 h0l).trans h0⟩
 rw[hl1]at B1
 have hdk:∀ {st':ag},(∀m,m<st.length→m≠0→st'[m]?=st[m]?)→fG st' d A:=fun h=>uE h0 h hd
 obtain⟨da,hda,hra⟩:=(hdk O1.fr).ex
 have hdl:=hra.len
 have hrow0:∃d0,da[0]?=some d0∧items? st1 d0=some (aG (A.getD 0 [])):=by
  have hi:0<da.length:=by omega
  obtain⟨r,e1,e2⟩:=bT.get hra (List.getElem?_eq_getElem hi)
  refine⟨da[0],List.getElem?_eq_getElem hi,?_⟩
  have:A.getD 0 []=r:=by rw[List.getD_eq_getElem?_getD,e1];rfl
  rw[this];exact e2
 obtain⟨d0,hd0,hi0⟩:=hrow0
 have er:(aG (A.getD 0 [])).length=w:=by unfold aG;rw[List.length_map];exact Mx.cJ hA (by omega)
 try dsimp only[ak]
 refine m7 (A:=bg 2 _) (fun σ st'=>σ=[some d,some (.ref st.length),some (.int 0),none,none]∧st'=st1) (fun nx h=>h _ _ ⟨rfl,rfl⟩) ?_
 rintro _ _ ⟨rfl,rfl⟩
 refine m7 (A:=hJ _ _ _) (fun σ st'=>∃(top xb xu xc:Nat) (v3:Option D) (c:Mx.B3) (ld:Nat→Nat),σ=[some d,some (.ref st.length),some (.int top),v3,none]∧Bn st' st.length xb xu xc c.A c.U c.C∧Bo st.length st st' st.length xb xu xc∧Mx.vV A N w top c∧Mx.gF A N w c top w ld (Mx.Ez N e0 top) (Mx.Uz N e0 top) (Mx.Cz N e0 top)) (fun nx hnx=>?_) ?_
 · refine aC hda (show dZ da 0=some d0 from iN (j:=0) hd0) (dA hi0 ?_)
   rw[er]
   refine fx ⟨by omega,by omega⟩ ?_
   rw[Int.toNat_natCast]
   refine lP w (fun p σ st'=>∃(top xb xu xc:Nat) (v3:Option D) (c:Mx.B3) (ld:Nat→Nat),σ=[some d,some (.ref st.length),some (.int top),v3,none]∧Bn st' st.length xb xu xc c.A c.U c.C∧Bo st.length st st' st.length xb xu xc∧Mx.vV A N p top c∧Mx.gF A N w c top p ld (Mx.Ez N e0 top) (Mx.Uz N e0 top) (Mx.Cz N e0 top)) ?_ ?_ ⟨0,_,_,_,none,⟨A,Mx.units N,Mx.units N⟩,fun _=>0,rfl,B1,O1,.start,Mx.gF.start hA hlo⟩
   · rintro σ st' ⟨top,xb,xu,xc,v3,c,ld,rfl,B,O,hC,S⟩
     exact hnx _ _ ⟨top,xb,xu,xc,v3,c,ld,rfl,B,O,hC,S⟩
   · rintro p σ st' rest hp ⟨top,xb,xu,xc,v3,c,ld,rfl,B,O,hC,S⟩ next
     refine⟨_,rfl,?_⟩
     have hle:=S.le
     have hz1:(N-top+1)*(Mx.Ez N e0 top+1)≤60000000:=by
      have yR:=S.yR
      by_cases ht:top<N
      · exact Nat.le_of_lt (hsz top ht (by omega)).1
      · have e:N-top=0:=by omega
        rw[e]
        have:Mx.Ez N e0 top<60000000:=by
         cases top with
         |zero=>exact he0
         |succ t=>exact(hsz t (by omega) (by omega)).1
        omega
     refine jx B.eb rfl ?_
     refine⟨st.length,st.length,xb,xu,xc,N,w,top,p,_,_,_,A,c.A,c.U,c.C,ld,rfl,B,⟨O.lo,fun _ _ _=>rfl,O.tb⟩,S,hN,hw,hp,hz1,fun st2 B2 O2 hL=>?_,fun st2 xb2 xu2 xc2 c2 r B2 O2 hR hL ht s1=>?_⟩
     · exact vf (next _ _ ⟨top,xb,xu,xc,_,c,ld,rfl,B2,⟨O2.lo,fun m h1 h2=>(O2.fr m h1 h2).trans (O.fr m h1 h2),O2.tb⟩,.next hC (.none hL),S.skip hL⟩)
     · refine fX ?_
       have O2':Bo st.length st st2 st.length xb2 xu2 xc2:=⟨O2.lo,fun m h1 h2=>(O2.fr m h1 h2).trans (O.fr m h1 h2),O2.tb⟩
       have hup:∀i q,i<top→Mx.g (Mx.setB c2 p top r).A i q=Mx.g c.A i q∧Mx.g (Mx.setB c2 p top r).U i q=Mx.g c.U i q∧Mx.g (Mx.setB c2 p top r).C i q=Mx.g c.C i q:=fun i q hi=>by
        obtain⟨a1,a2,a3⟩:=s1.up i hi
        unfold Mx.g
        rw[a1,a2,a3]
        exact⟨rfl,rfl,rfl⟩
       refine jx B2.eb rfl ?_
       refine⟨st.length,xb2,xu2,xc2,N,w,top,p,Mx.Ez N e0 (top+1),Mx.Uz N e0 top,Mx.Cz N e0 top,A,_,_,_,rfl,B2,s1.tn,hN,hw,hp,ht,s1.tp,fun q hq=>s1.zs top q (Nat.le_refl _) ht hq,fun q=>⟨s1.lo.1 top q (Nat.le_refl _) ht,s1.lo.2.1 top q (Nat.le_refl _) ht,s1.lo.2.2 top q (Nat.le_refl _) ht⟩,fun i q hi=>?_,Nat.le_trans (hsz top ht (Nat.lt_of_le_of_lt S.yR hp)).2.1 (by decide),Nat.le_trans (hsz top ht (Nat.lt_of_le_of_lt S.yR hp)).2.2 (by decide),fun st3 B3 f3 I=>?_⟩
       · obtain⟨a1,a2,a3⟩:=hup i q hi
         rw[a1,a2,a3]
         exact S.hi i q hi
       · have hS:=Mx.vU.qi (e':=Mx.Ez N e0 (top+1)) (u':=Mx.Uz N e0 (top+1)) (v':=Mx.Cz N e0 (top+1)) S s1 ht I hN (Nat.le_refl _) (by show _≤Mx.Uz N e0 top+Mx.Cz N e0 top+Mx.Ez N e0 (top+1)+4;omega) (by show _≤Mx.Uz N e0 top+Mx.Cz N e0 top+Mx.Ez N e0 (top+1)+4;omega)
         exact next _ _ ⟨top+1,xb2,xu2,xc2,_,_,_,rfl,B3,O2'.low f3,.next hC (.one hR hL),hS⟩
 · rintro σ st2 ⟨top,xb,xu,xc,v3,c,ld,rfl,B,O,hC,S⟩
   have T:=S.tn
   have lN:=T.isA.len
   refine cA B.eb rfl ?_
   obtain⟨da2,hda2,hra2⟩:=(hdk O.fr).ex
   refine dA hda2 ?_
   rw[hra2.len,lA]
   refine⟨_,c.C,N,rfl,⟨_,aJ B.e3,bT.lst⟩,T.f_.iV,by rw[T.f_.len];omega,by omega,?_⟩
   refine cA B.eb rfl (De B.e1 ?_)
   rw[uH,←List.map_take]
   refine⟨_,c.A.take top,rfl,⟨_,rfl,bT.lst⟩,by rw[List.length_take];omega,?_⟩
   refine cA B.eb rfl ?_
   refine⟨_,c.U,rfl,⟨_,aJ B.e2,bT.lst⟩,by rw[T.eQ.len];omega,?_⟩
   refine⟨by show 3≤sizeLine;decide,?_⟩
   refine kk st2 top c ld hC S ⟨?_,O.fr,O.tb⟩
   have:=(List.getElem?_eq_some_iff.mp B.eb).1
   omega
structure Wf(F:List (List Int))(m w:Nat):Prop where
 is:Mx.bY m w F
 st:Mx.cD F m w (Mx.dc F)
 m8:m≤8
 w8:w≤8
 sm:∀k c,k<m→c<w→(Mx.g F k c).natAbs≤2^5000
theorem Wf.lead{F:List (List Int)}{m w i:Nat}(h:Wf F m w)(hi:i<m):Mx.dc F i<w∧0<Mx.g F i (Mx.dc F i)∧(F.getD i []).length=w∧mE (F.getD i [])= .int ((Mx.dc F i:Nat):Int):=by
 obtain⟨l1,l2,l3⟩:=h.st.lead i hi
 refine⟨l1,l2,h.is.row hi,?_⟩
 unfold mE
 rw[rJ l3 (Int.ne_of_gt l2)]
theorem Wf.row{F:List (List Int)}{m w i:Nat}(h:Wf F m w)(hi:i<m):∀x∈F.getD i [],x.natAbs≤2^5000:=fun x hx=>by
 obtain⟨c,hc,rfl⟩:=List.mem_iff_getElem.mp hx
 have hw:=h.is.row hi
 have:=h.sm i c hi (by omega)
 unfold Mx.g at this
 rwa [Mx.bf hc]at this
theorem yc{x:Int}(h:x.natAbs≤2^5000)(h0:x≠0):x.natAbs.log2<9000:=
 (Nat.log2_lt (by omega)).mpr (Nat.lt_of_le_of_lt h (Nat.pow_lt_pow_right (by decide) (by decide)))
theorem drop_cons{F:List (List Int)}{i:Nat}{d:D}{rest:List D}(hr:d::rest=(F.map cu).drop i):i<F.length∧d=cu (F.getD i [])∧rest=(F.map cu).drop (i+1):=by
 have hi:i<F.length:=by
  rcases Nat.lt_or_ge i F.length with h|h
  · exact h
  · rw[List.drop_eq_nil_of_le (by rw[List.length_map];exact h)]at hr;cases hr
 rw[List.drop_eq_getElem_cons (by rw[List.length_map];exact hi),List.getElem_map]at hr
 obtain⟨h1,h2⟩:=List.cons.inj hr
 exact⟨hi,by rw[Mx.bf hi];exact h1,h2⟩
theorem drop_nil{F:List (List Int)}{i:Nat}(hr: []=(F.map cu).drop i):F.length≤i:=by
 have:=congrArg List.length hr
 rw[List.length_drop,List.length_map,List.length_nil]at this
 omega
theorem JY{i:Nat}{σ:cj}{st:ag}{K:DK}{d:D}(h:σ[i]?=some (some d))(k:K d st):ae i σ st K:=by
 unfold ae
 simp only[h]
 exact k
noncomputable def rB:cp:=fun ds st K=>∃(dr:D) (F:List (List Int)) (r:List Int) (m w e:Nat),ds=[cz F,dr]∧Wf F m w∧items? st dr=some (aG r)∧r.length=w∧(∀c,c<w→(r.getD c 0).natAbs≤2^e)∧e≤10000∧∀st',Ext st st'→K (.tup [cu (Mx.qr F r m),cu (Mx.cS F r m)]) st'
noncomputable def oB:List Str:=["form","row","weights","left","each","lead","weight"]
noncomputable def C5:DS:=(aH (bg 2 (Bm ak))
 (aH (bg 3 (bp i7 (af (ae 1) ak)))
 (aH (hJ (eH (ae 0)) (bJ 4) (aH (bg 5 (aE iw (af (ae 4) ak)))
 (aH (bg 6 (aq k0 (aq aM (ae 3) (ae 5)) (aq aM (ae 4) (ae 5))))
 (aH (mI (pE (ae 2) (ae 6)))
 (bg 3 (aE kL (af (ae 3) (af (lG gJ (ae 6)) (af (ae 4) ak)))))))))
 (ba (l7 (af (bp dB (af (ae 2) ak)) (af (bp dB (af (ae 3) ak)) ak)))))))
theorem BR:∀ds st K,rB ds st K→ds.length=2∧C5 {nx:=fun _ st'=>K .aK st',rt:=K} (aT oB ds) st:=by
 rintro ds st K ⟨dr,F,r,m,w,e,rfl,hW,hr,lr,br,he,k⟩
 refine⟨rfl,?_⟩
 have lF:=hW.is.len
 have m8:=hW.m8
 have w8:=hW.w8
 refine⟨Nat.le_of_ble_eq_true rfl,?_⟩
 have X0:Ext st (st++[.lst []]):=Ext.push
 have e0:(st++[Cell.lst []])[st.length]?=some (.lst (aG [])):=by simp
 refine jL (X0.items hr) (fu ?_)
 refine g5 (fun rest σ st'=>∃(i:Nat) (v4 v5 v6:Option D),i≤m∧rest=(F.map cu).drop i∧σ=[some (cz F),some dr,some (.ref st.length),some (a9 (Mx.cS F r i)),v4,v5,v6]∧Ext st st'∧st'[st.length]?=some (.lst (aG (Mx.qr F r i)))) ?_ ?_ _ _ _ ⟨0,none,none,none,Nat.zero_le _,rfl,rfl,X0,e0⟩
 · rintro σ st' ⟨i,v4,v5,v6,hi,hrest,rfl,X,ew⟩
   have e1:i=m:=Nat.le_antisymm hi (by rw[←lF];exact drop_nil hrest)
   subst e1
   exact⟨trivial,de (aJ ew) (de rfl ⟨Nat.le_of_ble_eq_true rfl,k st' X⟩)⟩
 · rintro x rest σ st' ⟨i,v4,v5,v6,hi,hrest,rfl,X,ew⟩ next
   obtain⟨hiF,rfl,rfl⟩:=drop_cons hrest
   have him:i<m:=by rw[←lF];exact hiF
   obtain⟨l1,l2,wF,eld⟩:=hW.lead him
   have lL:=Mx.ku hW.is lr (i:=i) (Nat.le_of_lt him)
   refine⟨trivial,_,rfl,_,F.getD i [],rfl,rfl,?_⟩
   rw[eld]
   have at1:dZ (aG (F.getD i [])) ((Mx.dc F i:Nat):Int)=some (.int (Mx.g F i (Mx.dc F i))):=fy (by omega)
   have at2:dZ (aG (Mx.cS F r i)) ((Mx.dc F i:Nat):Int)=some (.int ((Mx.cS F r i).getD (Mx.dc F i) 0)):=fy (by omega)
   refine aC rfl at2 (aC rfl at1 (o8 (by omega) (yc (hW.sm i _ him l1) (by omega)) ?_))
   have bx:=Mx.sx hW.is lr hW.st hW.sm br (Nat.le_of_lt him) _ l1
   have bq:(Mx.qu F (Mx.cS F r i) i).natAbs≤2^(e+i*(5000+1)):=Nat.le_trans (Mx.kr _ l2) bx
   show aH _ _ _ [_,_,_,_,_,_,some (.int (Mx.qu F (Mx.cS F r i) i))] _
   have lW:(Mx.qr F r i).length=i:=by unfold Mx.qr;simp
   refine Lj (by rfl) ew (JY rfl (HS ew (by rw[sizeLine_eq,List.length_map,lW];omega) ?_))
   have hlt:=(List.getElem?_eq_some_iff.mp ew).1
   refine j5 ?_
   refine⟨_,_,_,Mx.cS F r i,F.getD i [],rfl,rfl,rfl,by omega,fun b hb=>fO (by rw[Int.natAbs_neg];exact bq) (hW.row him b hb) (by omega),?_⟩
   refine next _ _ ⟨i+1,_,_,_,him,rfl,rfl,X.set (Nat.le_refl _),?_⟩
   rw[List.getElem?_set_self hlt,ints_app]
   congr 3
   unfold Mx.qr
   rw[List.range_succ,List.map_append]
   rfl
noncomputable def oP:cp:=fun _ _ _=>False
noncomputable def kU:List Str:=["parts","row","total","one","number"]
noncomputable def Aa:DS:=(aH (bg 2 (aE ky (af (dC (.int 0)) ak)))
 (aH (hJ (vQ (af (ae 0) (af (ae 1) ak))) (je 3 4) (bg 2 (aE zF (af (ae 2) (af (aE vA (af (ae 3) (af (aE ky (af (ae 4) ak)) ak))) ak)))))
 (ba (ae 2))))
theorem zk:∀ds st K,oP ds st K→ds.length=2∧Aa {nx:=fun _ st'=>K .aK st',rt:=K} (aT kU ds) st:=fun _ _ _ h=>h.elim
noncomputable def oV:cp:=fun _ _ _=>False
noncomputable def lg:List Str:=["form","rest","place","row"]
noncomputable def z_:DS:=(aH (hJ (eH (ae 0)) (bJ 3) (d7 (a5 (aq iW (aE iw (af (ae 3) ak)) (ae 2))) (ba (aq aM (ae 3) (ae 2))) cU))
 (ba (aq du (dC (.int 2)) (bp nI (af (aq aM (ae 1) (ae 2)) ak)))))
theorem yt:∀ds st K,oV ds st K→ds.length=3∧z_ {nx:=fun _ st'=>K .aK st',rt:=K} (aT lg ds) st:=fun _ _ _ h=>h.elim
noncomputable def j0:cp:=fun _ _ _=>False
noncomputable def h7:List Str:=["form","rest","place","parts","k","lead","owed"]
noncomputable def u3:DS:=(aH (bg 2 (aE iw (af (ae 1) ak)))
 (aH (bg 3 (aq rZ (nG (af (aE ky (af (dC (.int 0)) ak)) ak)) (bp d9 (af (ae 1) ak))))
 (aH (dX (ae 3) (ae 2) (aE nM (af (dC (.int 1)) (af (aE oV (af (ae 0) (af (ae 1) (af (ae 2) ak)))) ak))))
 (aH (hJ (vq (af (aq mf (bp d9 (af (ae 0) ak)) (dC (.int 1))) (af (lG gJ (dC (.int 1))) (af (lG gJ (dC (.int 1))) ak)))) (bJ 4) (aH (bg 5 (aE iw (af (aq aM (ae 0) (ae 4)) ak)))
 (d7 (a5 (aq pj (ae 5) (ae 2))) (aH (bg 6 (aE vN (af (aE ky (af (dC (.int 0)) ak)) (af (aE oP (af (ae 3) (af (aq aM (ae 0) (ae 4)) ak))) ak))))
 (dX (ae 3) (ae 5) (aE ze (af (ae 6) (af (aE ky (af (aq aM (aq aM (ae 0) (ae 4)) (ae 5)) ak)) ak))))) cU)))
 (ba (bp dB (af (ae 3) ak)))))))
theorem tW:∀ds st K,j0 ds st K→ds.length=2∧u3 {nx:=fun _ st'=>K .aK st',rt:=K} (aT h7 ds) st:=fun _ _ _ h=>h.elim
theorem wY:∀(r:List Int) (i l:Nat),fK r i=some l→∃k,l=i+k∧k<r.length∧r.getD k 0≠0∧∀c,c<k→r.getD c 0=0
 | [],_,_,h=>by cases h
 |x::r,i,l,h=>by
  unfold fK at h
  split at h
  · rename_i hx
    obtain⟨k,e,hk,hr,hz⟩:=wY r (i+1) l h
    refine⟨k+1,by omega,Nat.succ_lt_succ hk,hr,fun c hc=>?_⟩
    cases c with
    |zero=>exact hx
    |succ c=>exact hz c (Nat.lt_of_succ_lt_succ hc)
  · cases h
    exact⟨0,rfl,Nat.succ_pos _,by assumption,fun c hc=>absurd hc (Nat.not_lt_zero _)⟩
theorem zY{r:List Int}{l:Nat}(h:h_ r=some l):l<r.length∧r.getD l 0≠0∧∀c,c<l→r.getD c 0=0:=by
 obtain⟨k,e,h1,h2,h3⟩:=wY r 0 l h
 rw[Nat.zero_add]at e
 subst e
 exact⟨h1,h2,h3⟩
theorem jJ{A:List (List Int)}{t i c:Nat}(h:i<t):Mx.g (A.take t) i c=Mx.g A i c:=by
 have e:(A.take t).getD i []=A.getD i []:=by rw[List.getD_eq_getElem?_getD,List.getD_eq_getElem?_getD,List.getElem?_take,if_pos h]
 unfold Mx.g
 rw[e]
theorem Bk.ext{st st1 st2:ag}(B:Bk st st1)(X:Ext st1 st2):Bk st st2:=by
 have l1:=B.le
 obtain⟨f,e⟩:=B.tb
 have l0:=(List.getElem?_eq_some_iff.mp e).1
 exact⟨by have:=X.len;omega,fun m hm h0=>by rw[X.same m (by omega),B.fr m hm h0],f,by rw[X.same 0 l0];exact e⟩
theorem Ae{n:Nat}{r:List Int}:pl (n+1) (cu r)=true:=by
 unfold pl
 exact Aj
structure Fo(A:List (List Int))(N w:Nat)(F:List (List Int))(m:Nat):Prop where
 is:Mx.bY m w F
 st:Mx.cD F m w (Mx.dc F)
 red:Mx.vm F m (Mx.dc F)
 same:Mx.fJ A N F m w
 m8:m≤8
theorem CF{A:List (List Int)}{N w top e u v:Nat}{c:Mx.B3}{ld:Nat→Nat}(H2:Mx.gF A N w c top w ld e u v)(n8:N≤8):Fo A N w (c.A.take top) top:=by
 have H:=H2.NB
 have s:Mx.cD (c.A.take top) top w ld:=⟨fun i hi=>by
  obtain⟨h1,h2,h3⟩:=H.lead i hi
  exact⟨h1,by rw[jJ hi];exact h2,fun c hc=>by rw[jJ hi];exact h3 c hc⟩,H.mono⟩
 have le:=H.le
 refine⟨⟨by rw[List.length_take,H.tn.isA.len];omega,fun r hr=>H.tn.isA.iV r (List.mem_of_mem_take hr)⟩,s.OZ,fun i j hij hj=>?_,⟨fun k hk=>?_,fun k hk=>?_⟩,by omega⟩
 · rw[s.dc hj,jJ (Nat.lt_trans hij hj),jJ hj]
   exact H.red i j hij hj
 · obtain⟨z,hz⟩:=H.out k hk
   exact⟨z,fun q hq=>(hz q hq).trans (Mx.aF fun i hi=>by rw[jJ hi])⟩
 · exact(H.in k hk).eq fun q _=>jJ hk
theorem Fo.one{A B:List (List Int)}{N N' w m m':Nat}{F G:List (List Int)}(f:Fo A N w F m)(g:Fo B N' w G m')(h:Mx.fJ A N B N' w):F=G:=by
 have h1:=(f.same.symm.trans h).trans g.same
 have e:m=m':=Nat.le_antisymm
  (Nat.le_of_not_lt fun l=>Nat.lt_irrefl _ (f.st.same g.st h1.to h1.of m' l).1)
  (Nat.le_of_not_lt fun l=>Nat.lt_irrefl _ (g.st.same f.st h1.of h1.to m l).1)
 subst e
 exact f.is.ext g.is fun i j hi hj=>f.st.only g.st h1.to h1.of f.red g.red hi j hj
theorem Fo.wf{A:List (List Int)}{N w m b:Nat}{F:List (List Int)}(f:Fo A N w F m)(w8:w≤8)(b1:1≤b)(hA:∀i c,i<N→c<w→(Mx.g A i c).natAbs≤b)(h:8*((9*b)^(m+1)*(9*b)^m)≤2^5000):Wf F m w:=
 ⟨f.is,f.st,f.m8,w8,fun k c hk hc=>Nat.le_trans (Mx.yd f.m8 b1 hA f.st f.red f.same k c hk hc) h⟩
theorem nr{n:Nat}{A:List (List Int)}:pl (n+2) (cz A)=true:=by
 unfold pl
 refine List.all_eq_true.mpr fun d hd=>?_
 obtain⟨r,_,rfl⟩:=List.mem_map.mp hd
 exact Ae
theorem ue{F:List (List Int)}{m w:Nat}{r:List Int}(hW:Wf F m w)(lr:r.length=w):(Mx.cS F r m=List.replicate w 0↔Mx.c5 F m w fun c=>r.getD c 0)∧(h_ (Mx.cS F r m)=none↔Mx.cS F r m=List.replicate w 0):=by
 have lR:=Mx.ku hW.is lr (Nat.le_refl m)
 have fz:=(Mx.AK hW.is lr hW.st (Nat.le_refl m)).zero hW.st
 have z:Mx.cS F r m=List.replicate w 0↔∀c,c<w→(Mx.cS F r m).getD c 0=0:=⟨fun h c _=>by rw[h];exact Mx.dQ _ _,fun h=>Mx.wa lR (by simp) fun j hj=>by rw[h j hj,Mx.dQ]⟩
 refine⟨z.trans fz,⟨fun h=>z.mpr fun c _=>pQ _ 0 h c,fun h=>?_⟩⟩
 cases e:h_ (Mx.cS F r m)with
 |none=>rfl
 |some l=>
  obtain⟨h1,h2,_⟩:=zY e
  exact absurd (z.mp h l (by omega)) h2
theorem MZ{N w e0 t:Nat}(h:Mx.Rm N w e0)(h1:t≤N)(h2:t≤w):Mx.Uz N e0 t≤120000001:=by
 cases t with
 |zero=>exact Nat.zero_le _
 |succ t=>
  have:=(h t (by omega) (by omega)).2.1
  show Mx.Uz N e0 t+Mx.Ez N e0 (t+1)+1≤_
  omega
noncomputable def tP:cp:=fun ds st K=>∃(d dr:D) (A:List (List Int)) (r:List Int) (N w e0:Nat) (f:Bool),ds=[d,dr]∧fG st d A∧items? st dr=some (aG r)∧Mx.bY N w A∧1≤N∧N≤8∧w≤8∧Mx.gv A N 0 (2^e0)∧e0<60000000∧Mx.Rm N w e0∧(∀F m,Fo A N w F m→Wf F m w)∧r.length=w∧(∀x∈r,x.natAbs≤2^5000)∧Mx.c5 A N w (fun c=>r.getD c 0)∧st[0]?=some (fk f)∧∀st' (W:List Int),Bk st st'→W.length=N→(∀x∈W,x.natAbs≤2^120100000)→(∀c,c<w→(Mx.S N fun n=>W.getD n 0*Mx.g A n c)=r.getD c 0)→K (.tup [.str "told",cu W]) st'
noncomputable def pZ:List Str:=["rows","row","told","form","fallen"]
noncomputable def Ex:DS:=(aH (bg 2 (aE mz (af (ae 0) ak)))
 (aH (bg 3 (aq aM (ae 2) (dC (.int 0))))
 (aH (bg 4 (aE rB (af (ae 3) (af (ae 1) ak))))
 (aH (d7 (a5 (aq uT (aE iw (af (aq aM (ae 4) (dC (.int 1))) ak)) (dC .aK))) (ba (l7 (af (dC (.str "none")) (af (aE j0 (af (ae 3) (af (aq aM (ae 4) (dC (.int 1))) ak))) ak)))) cU)
 (ba (l7 (af (dC (.str "told")) (af (aE p7 (af (aq aM (ae 4) (dC (.int 0))) (af (iG (aq aM (ae 2) (dC (.int 1))) gm (jV (bp d9 (af (ae 3) ak)))) (af (bp d9 (af (ae 0) ak)) ak)))) ak))))))))
theorem wQ{a b n:Nat}:∀(ws:List Int) (A:List (List Int)) (acc:List Int) (t c:Nat),acc.length=n→(∀r∈A,r.length=n)→(∀w∈ws,w.natAbs≤2^a)→(∀r∈A,∀x∈r,x.natAbs≤2^b)→(acc.getD c 0).natAbs≤t*2^(a+b)→((Mx.cN ws A acc).getD c 0).natAbs≤(t+ws.length)*2^(a+b)
 | [],_,acc,t,c,_,_,_,_,h=>by unfold Mx.cN;rw[List.length_nil,Nat.add_zero];exact h
 |_::_,[],acc,t,c,_,_,_,_,h=>by
  unfold Mx.cN
  exact Nat.le_trans h (Nat.mul_le_mul_right _ (by omega))
 |w::ws,r::A,acc,t,c,hl,hr,hw,hb,h=>by
  have hq:=hr r List.mem_cons_self
  unfold Mx.cN
  have h2:((Mx.fm acc w r).getD c 0).natAbs≤(t+1)*2^(a+b):=by
   rw[Mx.pD (by omega)]
   have h3:(w*r.getD c 0).natAbs≤2^(a+b):=by
    rw[Int.natAbs_mul,Nat.pow_add]
    refine Nat.mul_le_mul (hw w List.mem_cons_self) ?_
    by_cases hc:c<r.length
    · exact hb r List.mem_cons_self _ (getD_mem hc)
    · rw[Mx.kl (by omega)];exact Nat.zero_le _
   have:=Int.natAbs_add_le (acc.getD c 0) (w*r.getD c 0)
   rw[Nat.add_mul,Nat.one_mul]
   omega
  have:=wQ ws A (Mx.fm acc w r) (t+1) c (by rw[Mx.jr (by omega)];exact hl) (fun q hq=>hr q (List.mem_cons_of_mem _ hq)) (fun q hq=>hw q (List.mem_cons_of_mem _ hq)) (fun q hq=>hb q (List.mem_cons_of_mem _ hq)) h2
  rw[List.length_cons]
  rw[show t+(ws.length+1)=t+1+ws.length by omega]
  exact this
theorem CA:∀ds st K,tP ds st K→ds.length=2∧Ex {nx:=fun _ st'=>K .aK st',rt:=K} (aT pZ ds) st:=by
 rintro ds st K ⟨d,dr,A,r,N,w,e0,f,rfl,hd,hr,hA,n1,n8,w8,hlo,he0,hRm,hWf,lr,br,hL,h0,k⟩
 refine⟨rfl,d,N,w,e0,A,f,rfl,hd,hA,n1,n8,by omega,hlo,he0,hRm,h0,fun st1 top c ld hC H B=>?_⟩
 have fo:=CF H n8
 have hW:=hWf _ _ fo
 have lF:=hW.is.len
 have hgF:∀i q,i<top→Mx.g (c.A.take top) i q=Mx.g c.A i q:=fun i q hi=>jJ hi
 generalize hF:c.A.take top=F at hW lF hgF fo
 have br':∀c,c<w→(r.getD c 0).natAbs≤2^5000:=fun c hc=>br _ (getD_mem (by omega))
 refine aC rfl rfl ?_
 refine⟨dr,F,r,top,w,5000,rfl,hW,ou h0 B.fr hr,lr,br',by decide,fun st2 X=>?_⟩
 have B2:=B.ext X
 have sm:=Mx.Au hW.is lr (Nat.le_refl top)
 have t8:=hW.m8
 refine aC rfl rfl ⟨_,Mx.cS F r top,rfl,rfl,?_⟩
 have el:h_ (Mx.cS F r top)=none:=(ue hW lr).2.mpr ((ue hW lr).1.mpr (Mx.c5.trans fo.same.to hL))
 have eD:mE (Mx.cS F r top)= .aK:=by unfold mE;rw[el]
 rw[eD]
 refine I_ rfl ?_
 have lU:=H.tn.eQ.len
 have le:=H.le
 have yR:=H.yR
 refine aC rfl rfl (aC rfl rfl (dA rfl (wD ?_)))
 rw[List.length_map,lF,uH,←List.map_take]
 obtain⟨da,hda,ra⟩:=hd
 refine dA (X.items (ou h0 B.fr hda)) ?_
 have lda:da.length=N:=by rw[ra.len];exact hA.len
 rw[lda]
 have lw:(Mx.qr F r top).length=top:=by unfold Mx.qr;simp
 have wat:∀j,j<top→(Mx.qr F r top).getD j 0=Mx.qu F (Mx.cS F r j) j:=fun j hj=>by
  unfold Mx.qr
  rw[Mx.bf (by simpa using hj),List.getElem_map,List.getElem_range]
 have uz:=MZ hRm le yR
 have bw:∀x∈Mx.qr F r top,x.natAbs≤2^45100:=fun x hx=>by
  obtain⟨j,hj,rfl⟩:=List.mem_iff_getElem.mp hx
  rw[lw]at hj
  have e1:=wat j hj
  rw[Mx.bf (by omega)]at e1
  rw[e1]
  obtain⟨l1,l2,_⟩:=hW.lead hj
  exact Nat.le_trans (Nat.le_trans (Mx.kr _ l2) (Mx.sx hW.is lr hW.st hW.sm br' (Nat.le_of_lt hj) _ l1)) (Nat.pow_le_pow_right (by decide) (by omega))
 have bU:∀q∈c.U.take top,∀y∈q,y.natAbs≤2^Mx.Uz N e0 top:=fun q hq y hy=>by
  obtain⟨i,hi,rfl⟩:=List.mem_iff_getElem.mp hq
  have hiU:i<c.U.length:=by rw[List.length_take]at hi;omega
  have him:i<top:=by rw[List.length_take]at hi;omega
  rw[List.getElem_take]at hy
  obtain⟨p,hp,rfl⟩:=List.mem_iff_getElem.mp hy
  have hU:=(H.hi i p him).2.1
  have eU:Mx.g c.U i p=c.U[i][p]:=by
   unfold Mx.g
   rw[Mx.bf hiU,Mx.bf hp]
  rw[eU]at hU
  exact hU
 have hwid:∀q∈c.U.take top,q.length=N:=fun q hq=>H.tn.eQ.iV q (List.mem_of_mem_take hq)
 refine⟨_,_,N,Mx.qr F r top,c.U.take top,rfl,rfl,dM,hwid,by omega,fun x hx q hq y hy=>fO (bw x hx) (bU q hq y hy) (by omega),⟨Nat.le_of_ble_eq_true rfl,k st2 _ B2 (Mx.oi (by simp) hwid) (fun x hx=>?_) (fun q hq=>?_)⟩⟩
 · obtain⟨p,hp,rfl⟩:=List.mem_iff_getElem.mp hx
   have:=wQ (Mx.qr F r top) (c.U.take top) (List.replicate N 0) 0 p (by simp) hwid bw bU (by rw[Mx.dQ];exact Nat.zero_le _)
   rw[Mx.bf hp,lw,Nat.zero_add]at this
   refine Nat.le_trans this (Nat.le_trans (Nat.mul_le_mul_right _ (show top≤2^3 by omega)) ?_)
   rw[←Nat.pow_add]
   exact Nat.pow_le_pow_right (by decide) (by omega)
 · refine Mx.Fg H.NB lw (fun q hq=>?_) hq
   rw[sm q,pQ _ 0 el q,Int.zero_add]
   exact Mx.aF fun j hj=>by rw[wat j hj,hgF j q hj]
theorem ma{A:List (List Int)}{N w M:Nat}(hA:Mx.bY N w A)(h:∀r∈A,∀x∈r,x.natAbs≤M):∀i c,i<N→c<w→(Mx.g A i c).natAbs≤M:=fun i c hi hc=>by
 have lA:=hA.len
 have lr:=hA.row hi
 unfold Mx.g
 exact h _ (by rw[Mx.bf (by omega)];exact List.getElem_mem _) _ (getD_mem (by omega))
theorem vX{A:List (List Int)}{N w M:Nat}(hA:Mx.bY N w A)(h:∀i c,i<N→c<w→(Mx.g A i c).natAbs≤M):Mx.gv A N 0 M:=fun i c _ hi=>by
 by_cases hc:c<w
 · exact h i c hi hc
 · have lr:=hA.row hi
   unfold Mx.g
   rw[Mx.kl (by omega)]
   exact Nat.zero_le _
noncomputable def sd:cp:=fun ds st K=>∃(d:D) (A:List (List Int)) (N w e0:Nat) (f:Bool),ds=[.int w,d]∧fG st d A∧Mx.bY N w A∧N≤8∧w≤8∧Mx.gv A N 0 (2^e0)∧e0<60000000∧Mx.Rm N w e0∧st[0]?=some (fk f)∧∀st' F m,Bk st st'→Fo A N w F m→K (.tup [.int w,cz F]) st'
noncomputable def r_:List Str:=["wide","rows"]
noncomputable def HU:DS:=(ba (l7 (af (ae 0) (af (Gr (a5 (aq nY (bp d9 (af (ae 1) ak)) (dC (.int 0)))) (aq aM (aE mz (af (ae 1) ak)) (dC (.int 0))) (l7 ak)) ak))))
theorem IZ{A:List (List Int)}{w:Nat}:Fo A 0 w [] 0:=
 ⟨⟨rfl,fun r hr=>by cases hr⟩,⟨fun i hi=>absurd hi (Nat.not_lt_zero _),fun i j _ hj=>absurd hj (Nat.not_lt_zero _)⟩,fun i j _ hj=>absurd hj (Nat.not_lt_zero _),⟨fun k hk=>absurd hk (Nat.not_lt_zero _),fun k hk=>absurd hk (Nat.not_lt_zero _)⟩,Nat.zero_le _⟩
theorem Fu:∀ds st K,sd ds st K→ds.length=2∧HU {nx:=fun _ st'=>K .aK st',rt:=K} (aT r_ ds) st:=by
 rintro ds st K ⟨d,A,N,w,e0,f,rfl,hd,hA,n8,w8,hlo,he0,hRm,h0,k⟩
 refine⟨rfl,?_⟩
 have lA:=hA.len
 obtain⟨da,hda,ra⟩:=hd.ex
 have lda:da.length=N:=by rw[ra.len];exact lA
 refine dA hda (Av (fun h=>fX ?_) fun h=>?_)
 · exact⟨d,N,w,e0,A,f,rfl,hd,hA,by omega,n8,by omega,hlo,he0,hRm,h0,fun st1 top c ld hC H B=>aC rfl rfl ⟨Nat.le_of_ble_eq_true rfl,k st1 _ _ B (CF H n8)⟩⟩
 · have n0:N=0:=by omega
   subst n0
   exact⟨Nat.zero_le _,Nat.le_of_ble_eq_true rfl,k st [] 0 ⟨Nat.le_refl _,fun _ _ _=>rfl,f,h0⟩ IZ⟩
noncomputable def iF:cp:=fun ds st K=>∃(x y dF:D) (F B:List (List Int)) (m w w' a b:Nat) (f:Bool),ds=[x,y]∧items? st x=some [.int w,dF]∧fG st dF F∧fG st y B∧Mx.bY m w F∧Mx.bY w w' B∧1≤w∧m≤8∧w≤8∧w'≤8∧(∀r∈F,∀x∈r,x.natAbs≤2^a)∧(∀r∈B,∀x∈r,x.natAbs≤2^b)∧a+b≤1000000∧Mx.Rm m w' (a+b+3)∧st[0]?=some (fk f)∧∀st' G k,Bk st st'→Fo (Mx.mulM F B w') m w' G k→K (.tup [.int w',cz G]) st'
noncomputable def oo:List Str:=["one","rows"]
noncomputable def Ei:DS:=(ba (aE sd (af (bp d9 (af (aq aM (ae 1) (dC (.int 0))) ak)) (af (aE lV (af (aq aM (ae 0) (dC (.int 1))) (af (ae 1) ak))) ak))))
theorem BH:∀ds st K,iF ds st K→ds.length=2∧Ei {nx:=fun _ st'=>K .aK st',rt:=K} (aT oo ds) st:=by
 rintro ds st K ⟨x,y,dF,F,B,m,w,w',a,b,f,rfl,hx,hF',hB',hF,hB,w1,m8,w8,w8',bF,bB,hab,hRm,h0,k⟩
 refine⟨rfl,?_⟩
 have lB:=hB.len
 have lF:=hF.len
 obtain⟨dy,hy,ry⟩:=hB'.ex
 obtain⟨e,ee,he⟩:=ry.at (k:=0) (by omega)
 refine aC hy (show dZ dy 0=some e from ee) (dA he ?_)
 rw[List.length_map,hB.row (i:=0) (by omega)]
 refine aC hx rfl ⟨dF,y,w',F,B,rfl,hF',hB',fun z=>by rw[z]at lB;simp at lB;omega,hB.iV,by omega,by omega,fun r hr c hc q hq z hz=>fO (bF r hr c hc) (bB q hq z hz) (by omega),?_⟩
 exact⟨_,Mx.mulM F B w',m,w',a+b+3,f,rfl,dM,Mx.gj hF hB,m8,w8',vX (Mx.gj hF hB) (Mx.qk hF hB w8 (ma hF bF) (ma hB bB)),by omega,hRm,h0,k⟩
structure Hd(st:ag)(n:Nat)(b:Int):Prop where
 ex:∃(cs:List Int) (p q f:Int),st[n]?=some (.lst [.lst (aG cs),.int p,.int q,.int f])∧cs.length≤63∧0≤p∧0≤q∧p≤100+b
structure Upd(st:ag)(n:Nat)(st':ag):Prop where
 len:st'.length=st.length
 same:∀m,m≠n→st'[m]?=st[m]?
theorem Upd.refl{st:ag}{n:Nat}:Upd st n st:=⟨rfl,fun _ _=>rfl⟩
theorem Upd.trans{st st1 st2:ag}{n:Nat}(a:Upd st n st1)(b:Upd st1 n st2):Upd st n st2:=⟨b.len.trans a.len,fun m h=>(b.same m h).trans (a.same m h)⟩
theorem Upd.set{st:ag}{n:Nat}{c:Cell}:Upd st n (st.set n c):=⟨List.length_set,fun m h=>List.getElem?_set_ne (Ne.symm h)⟩
theorem Hd.mono{st:ag}{n:Nat}{b b':Int}(h:Hd st n b)(l:b≤b'):Hd st n b':=let⟨cs,p,q,f,e,h1,h2,h3,h4⟩:=h.ex;⟨cs,p,q,f,e,h1,h2,h3,by omega⟩
theorem Hd.lt{st:ag}{n:Nat}{b:Int}(B:Hd st n b):n<st.length:=by
 obtain⟨_,_,_,_,e,_⟩:=B.ex
 exact(List.getElem?_eq_some_iff.mp e).1
theorem Hd.cell{st st':ag}{n:Nat}{b:Int}(B:Hd st n b)(e:st'[n]?=st[n]?):Hd st' n b:=by
 obtain⟨cs,p,q,f,h,r⟩:=B.ex
 exact⟨cs,p,q,f,e.trans h,r⟩
theorem rV{st:ag}{n:Nat}{xs ys:List D}{i:Int}{j:Nat}{d:D}{K:ag→Prop}(h:st[n]?=some (.lst xs))(e:mi xs.length i=some j)(ey:xs.set j d=ys)(k:∀st',st'[n]?=some (.lst ys)→Upd st n st'→K st'):yQ (.ref n) (.int i) d st K:=iD h e (by
 refine k _ ?_ Upd.set
 rw[List.getElem?_set_self (List.getElem?_eq_some_iff.mp h).1,ey])
noncomputable def pF:cp:=fun ds st K=>∃ns:List Int,ds=[.lst (ns.map .int)]∧ns.length≤63∧∀st',Hd st' st.length 0→Ext st st'→K (.ref st.length) st'
noncomputable def mL:List Str:=["_law_script","_law_first"]
noncomputable def Cb:DS:=(aH (bg 1 (bp tR (af (iG (ae 0) gm (jV (dC (.int 1)))) ak)))
 (ba (Bm (af (bp i7 (af (iG (ae 0) gm (jV (dC (.int 63)))) ak)) (af (dC (.int 0)) (af (aq k0 (bp nI (af (ae 1) ak)) (dC (.int 2))) (af (bp tM (af (aq Ee (bp nI (af (ae 1) ak)) (aq uf (dC (.int 10)) (dC (.int 18)))) ak)) ak)))))))
theorem oQ{r:List Int}{j:Nat}:L3.cutD (aG r) none (some (j:Int))=aG (r.take j):=by rw[uH];exact(List.map_take ..).symm
theorem zK:∀ds st K,pF ds st K→ds.length=1∧Cb {nx:=fun _ st'=>K .aK st',rt:=K} (aT mL ds) st:=by
 rintro ds st K ⟨ns,rfl,hl,k⟩
 refine⟨rfl,?_⟩
 refine nS ?_
 rw[show(1:Int)=((1:Nat):Int)from rfl,show ns.map D.int=aG ns from rfl,oQ]
 refine CU (ints_map _) ?_
 generalize(ns.take 1).sum=x
 refine nS ?_
 rw[show(63:Int)=((63:Nat):Int)from rfl,oQ]
 refine jL rfl (um (o8 (by decide) (by decide) (um (zl ⟨by decide,by decide,by decide⟩ (Na (rP ⟨Nat.le_of_ble_eq_true rfl,?_⟩))))))
 refine k _ ⟨_,_,_,_,List.getElem?_concat_length,by rw[List.length_take];omega,Int.le_refl _,?_,by omega⟩ Ext.push
 rw[Int.fdiv_eq_ediv_of_nonneg _ (by decide)]
 exact Int.ediv_nonneg (Int.natCast_nonneg _) (by decide)
noncomputable def cx:cp:=fun ds st K=>∃(n:Nat) (m b:Int),ds=[.ref n,.int m]∧Hd st n b∧0≤b∧b≤1000000000∧0<m∧m<2^62∧∀r st',0≤r→r<m→Hd st' n (b+1)→Upd st n st'→K (.int r) st'
noncomputable def mO:List Str:=["_law_hand_here","_law_many_here","_law_found","_law_cell","_law_once","_law_twice"]
noncomputable def Cc:DS:=(aH (pd (qh (a5 (aq iW (aq aM (ae 0) (dC (.int 3))) (dC (.int 1)))) (qh (a5 (aq iW (aq aM (ae 0) (dC (.int 2))) (dC (.int 0)))) (a5 (aq pj (aq eh (aq aM (ae 0) (dC (.int 1))) (dC (.int 1))) (bp d9 (af (aq aM (ae 0) (dC (.int 0))) ak)))))) (aH (dX (ae 0) (dC (.int 1)) (aq eh (aq aM (ae 0) (dC (.int 1))) (dC (.int 1))))
 (dX (ae 0) (dC (.int 2)) (bp nI (af (aq aM (aq aM (ae 0) (dC (.int 0))) (aq aM (ae 0) (dC (.int 1)))) ak)))))
 (aH (d7 (qh (a5 (aq iW (aq aM (ae 0) (dC (.int 3))) (dC (.int 1)))) (a5 (aq nY (aq aM (ae 0) (dC (.int 2))) (dC (.int 0))))) (aH (bg 2 (aq g8 (aq aM (ae 0) (dC (.int 2))) (ae 1)))
 (aH (dX (ae 0) (dC (.int 2)) (aq k0 (aq aM (ae 0) (dC (.int 2))) (ae 1)))
 (ba (ae 2)))) cU)
 (aH (dX (ae 0) (dC (.int 1)) (aq eh (aq aM (ae 0) (dC (.int 1))) (dC (.int 1))))
 (aH (bg 3 (bp tR (af (iG (iG (aq aM (ae 0) (dC (.int 0))) (jV (aq g8 (aq aM (ae 0) (dC (.int 1))) (bp vR (af (dC (.int 1)) (af (bp d9 (af (aq aM (ae 0) (dC (.int 0))) ak)) ak))))) gm) gm (jV (dC (.int 1)))) ak)))
 (aH (bg 4 (aq g8 (aq du (aq eh (aq eh (aq g8 (ae 3) (dC (.int 2147483629))) (aq du (dC (.int 7919)) (aq aM (ae 0) (dC (.int 1))))) (dC (.int 11))) (aq eh (dC (.int 48271)) (aq du (dC (.int 2)) (aq aM (ae 0) (dC (.int 1)))))) (dC (.int 2147483647))))
 (aH (bg 5 (aq g8 (aq eh (aq du (ae 4) (aq eh (aq g8 (ae 4) (dC (.int 39373))) (aq aM (ae 0) (dC (.int 1))))) (aq du (dC (.int 31)) (aq aM (ae 0) (dC (.int 1))))) (dC (.int 1999999973))))
 (ba (aq g8 (aq k0 (ae 5) (dC (.int 7))) (ae 1)))))))))
theorem E7{xs:List D}{j:Nat}:L3.cutD xs (some (j:Int)) none=xs.drop j:=by
 unfold L3.cutD
 rw[HT.Aw,HT.yJ]
 by_cases h:j≤xs.length
 · rw[Nat.min_eq_left h,List.take_of_length_le (by rw[List.length_drop];omega)]
 · rw[Nat.min_eq_right (by omega),List.drop_of_length_le (Nat.le_refl _),List.drop_of_length_le (by omega)]
   simp
theorem Dd{m:Int}(h0:0<m)(h:m<2^62):m.natAbs.log2<9000:=by
 have:m.natAbs.log2<62:=(Nat.log2_lt (by omega)).mpr (by omega)
 omega
theorem zQ:∀ds st K,cx ds st K→ds.length=2∧Cc {nx:=fun _ st'=>K .aK st',rt:=K} (aT mO ds) st:=by
 rintro ds st K ⟨n,m,b,rfl,⟨cs,p,q,f,e,hcl,hp,hq,hpb⟩,hb0,hb2,hm0,hm1,k⟩
 refine⟨rfl,?_⟩
 try dsimp only
 refine m7 (A:=pd _ _) (fun σ' st'=>∃(p q:Int),σ'=[some (.ref n),some (.int m),none,none,none,none]∧st'[n]?=some (.lst [.lst (aG cs),.int p,.int q,.int f])∧0≤p∧0≤q∧p≤100+b∧Upd st n st') (fun nx hnx=>?_) ?_
 · refine⟨fun m' σ st'=>∃(p q:Int),σ=[some (.ref n),some (.int m),none,none,none,none]∧st'[n]?=some (.lst [.lst (aG cs),.int p,.int q,.int f])∧0≤p∧0≤q∧p≤100+b∧Upd st n st'∧m'=(cs.length-p).toNat,⟨_,p,q,rfl,e,hp,hq,hpb,Upd.refl,rfl⟩,?_⟩
   clear e hp hq hpb p q
   rintro m' σ st' ⟨p,q,rfl,e,hp,hq,hpb,U,rfl⟩
   have stop:nx [some (.ref n),some (.int m),none,none,none,none] st':=hnx _ _ ⟨p,q,rfl,e,hp,hq,hpb,U⟩
   refine aC (aJ e) (by rfl) (eq2 (fun _=>fX ?_) fun _=>stop)
   refine aC (aJ e) (by rfl) (eq2 (fun _=>fX ?_) fun _=>stop)
   refine aC (aJ e) (by rfl) (eJ (aC (aJ e) (by rfl) (dA rfl ?_)))
   rw[List.length_map]
   refine Nz (fun h=>fX ?_) fun _=>stop
   refine aC (aJ e) (by rfl) (eJ (rV (ys:=[.lst (aG cs),.int (p+1),.int q,.int f]) e (by rfl) (by rfl) fun st1 e1 U1=>?_))
   obtain⟨j,ej⟩:=Int.eq_ofNat_of_zero_le (show 0≤p+1 by omega)
   have hj:j<cs.length:=by omega
   refine aC (aJ e1) (by rfl) (aC (aJ e1) (by rfl) ?_)
   rw[ej]
   refine aC rfl (fy hj) (um ?_)
   rw[ej]at e1
   refine rV (ys:=[.lst (aG cs),.int j,.int ((cs.getD j 0).natAbs:Nat),.int f]) e1 (by rfl) (by rfl) fun st2 e2 U2=>?_
   exact⟨_,by omega,(j:Int),_,rfl,e2,by omega,Int.natCast_nonneg _,by omega,U.trans (U1.trans U2),rfl⟩
 · clear e hp hq hpb p q
   rintro σ st1 ⟨p,q,rfl,e,hp,hq,hpb,U⟩
   have mixed:(aH (dX (ae 0) (dC (.int 1)) (aq eh (aq aM (ae 0) (dC (.int 1))) (dC (.int 1))))
    (aH (bg 3 (bp tR (af (iG (iG (aq aM (ae 0) (dC (.int 0))) (jV (aq g8 (aq aM (ae 0) (dC (.int 1))) (bp vR (af (dC (.int 1)) (af (bp d9 (af (aq aM (ae 0) (dC (.int 0))) ak)) ak))))) gm) gm (jV (dC (.int 1)))) ak)))
    (aH (bg 4 (aq g8 (aq du (aq eh (aq eh (aq g8 (ae 3) (dC (.int 2147483629))) (aq du (dC (.int 7919)) (aq aM (ae 0) (dC (.int 1))))) (dC (.int 11))) (aq eh (dC (.int 48271)) (aq du (dC (.int 2)) (aq aM (ae 0) (dC (.int 1)))))) (dC (.int 2147483647))))
    (aH (bg 5 (aq g8 (aq eh (aq du (ae 4) (aq eh (aq g8 (ae 4) (dC (.int 39373))) (aq aM (ae 0) (dC (.int 1))))) (aq du (dC (.int 31)) (aq aM (ae 0) (dC (.int 1))))) (dC (.int 1999999973))))
    (ba (aq g8 (aq k0 (ae 5) (dC (.int 7))) (ae 1))))))) {nx:=fun _ st'=>K .aK st',rt:=K} [some (.ref n),some (.int m),none,none,none,none] st1:=by
    refine aC (aJ e) (by rfl) (eJ (rV (ys:=[.lst (aG cs),.int (p+1),.int q,.int f]) e (by rfl) (by rfl) fun st2 e2 U2=>?_))
    have p0:0≤p+1:=by omega
    have pb:p+1≤100+(b+1):=by omega
    generalize p+1=c at e2 p0 pb
    refine aC (aJ e2) (by rfl) (aC (aJ e2) (by rfl) (aC (aJ e2) (by rfl) (dA rfl (Lb ?_))))
    have mx:0<(if(((aG cs).length:Nat):Int)>1 then(((aG cs).length:Nat):Int)else 1):=by split<;>omega
    generalize(if(((aG cs).length:Nat):Int)>1 then(((aG cs).length:Nat):Int)else 1)=mm at mx
    refine nh (by omega) ?_
    obtain⟨j,ej⟩:=Int.eq_ofNat_of_zero_le (Int.fmod_nonneg_of_pos c mx)
    rw[ej]
    refine nS ?_
    rw[E7,←List.map_drop]
    refine nS ?_
    rw[show(1:Int)=((1:Nat):Int)from rfl,oQ]
    refine CU (ints_map _) ?_
    generalize((cs.drop j).take 1).sum=x
    refine nh (by decide) (aC (aJ e2) (by rfl) (iq (jK (by decide) (by decide)) (eJ (eJ ?_))))
    have m1:=Int.fmod_nonneg_of_pos x (show(0:Int)<2147483629 by decide)
    have m2:=Int.fmod_lt_of_pos x (show(0:Int)<2147483629 by decide)
    refine aC (aJ e2) (by rfl) (iq (jK (by decide) (by decide)) (eJ (iq (jK (by omega) (by omega)) (nh (by decide) ?_))))
    have u1:=Int.fmod_nonneg_of_pos ((x.fmod 2147483629+7919*c+11)*(48271+2*c)) (show(0:Int)<2147483647 by decide)
    have u2:=Int.fmod_lt_of_pos ((x.fmod 2147483629+7919*c+11)*(48271+2*c)) (show(0:Int)<2147483647 by decide)
    generalize((x.fmod 2147483629+7919*c+11)*(48271+2*c)).fmod 2147483647=u at u1 u2⊢
    refine nh (by decide) (aC (aJ e2) (by rfl) (eJ (iq (jK (by omega) (by omega)) (aC (aJ e2) (by rfl) (iq (jK (by decide) (by decide)) (eJ (nh (by decide) ?_)))))))
    refine o8 (by decide) (by decide+kernel) (nh (by omega) ?_)
    exact k _ _ (Int.fmod_nonneg_of_pos _ hm0) (Int.fmod_lt_of_pos _ hm0) ⟨cs,_,_,_,e2,hcl,p0,hq,pb⟩ (U.trans U2)
   refine aC (aJ e) (by rfl) (eq2 (fun _=>fX ?_) fun _=>mixed)
   refine aC (aJ e) (by rfl) (Av (fun _=>fX ?_) fun _=>mixed)
   refine aC (aJ e) (by rfl) (nh (by omega) (aC (aJ e) (by rfl) (o8 (by omega) (Dd hm0 hm1) (rV (ys:=[.lst (aG cs),.int p,.int (q.fdiv m),.int f]) e (by rfl) (by rfl) fun st4 e4 U4=>?_))))
   refine k _ _ (Int.fmod_nonneg_of_pos _ hm0) (Int.fmod_lt_of_pos _ hm0) ⟨cs,_,_,_,e4,hcl,hp,?_,by omega⟩ (U.trans U4)
   rw[Int.fdiv_eq_ediv_of_nonneg _ (by omega)];exact Int.ediv_nonneg hq (by omega)
noncomputable def oW(wild:Int):Nat:=if wild=15 then 1000000000000 else 30
noncomputable def nj:cp:=fun ds st K=>∃(n:Nat) (b wild:Int),ds=[.ref n,.int wild]∧Hd st n b∧0≤b∧b≤900000000∧∀r st',r.natAbs≤oW wild→Hd st' n (b+2)→Upd st n st'→K (.int r) st'
noncomputable def jS:List Str:=["_law_hand_here","_law_wild"]
noncomputable def yn:DS:=(aH (d7 (qh (a5 (aq iW (ae 1) (dC (.int 15)))) (a5 (aq iW (aE cx (af (ae 0) (af (dC (.int 3)) ak))) (dC (.int 0))))) (ba (aq eh (aq mf (aE cx (af (ae 0) (af (aq mf (aq du (dC (.int 2)) (aq uf (dC (.int 10)) (dC (.int 12)))) (dC (.int 1))) ak))) (aq uf (dC (.int 10)) (dC (.int 12)))) (dC (.int 1)))) cU)
 (aH (d7 (a5 (aq nY (ae 1) (dC (.int 11)))) (ba (aq mf (aE cx (af (ae 0) (af (dC (.int 61)) ak))) (dC (.int 30)))) cU)
 (ba (aq aM (nG (af (dC (.int 0)) (af (dC (.int 1)) (af (lG gJ (dC (.int 1))) (af (dC (.int 2)) (af (dC (.int 0)) (af (dC (.int 3)) (af (lG gJ (dC (.int 2))) (af (dC (.int 1)) ak))))))))) (aE cx (af (ae 0) (af (dC (.int 8)) ak)))))))
theorem xl:∀ds st K,nj ds st K→ds.length=2∧yn {nx:=fun _ st'=>K .aK st',rt:=K} (aT jS ds) st:=by
 rintro ds st K ⟨n,b,wild,rfl,B,b0,hb,k⟩
 refine⟨rfl,?_⟩
 have h30:30≤oW wild:=by unfold oW;split<;>omega
 have e12:(10:Int)^(12:Int).toNat=1000000000000:=by decide
 have rest:∀st1,Hd st1 n (b+1)→Upd st n st1→(aH (d7 (a5 (aq nY (ae 1) (dC (.int 11)))) (ba (aq mf (aE cx (af (ae 0) (af (dC (.int 61)) ak))) (dC (.int 30)))) cU)
  (ba (aq aM (nG (af (dC (.int 0)) (af (dC (.int 1)) (af (lG gJ (dC (.int 1))) (af (dC (.int 2)) (af (dC (.int 0)) (af (dC (.int 3)) (af (lG gJ (dC (.int 2))) (af (dC (.int 1)) ak))))))))) (aE cx (af (ae 0) (af (dC (.int 8)) ak)))))) {nx:=fun _ st'=>K .aK st',rt:=K} [some (.ref n),some (.int wild)] st1:=fun st1 B1 U1=>by
  refine Av (fun _=>fX ?_) fun _=>?_
  · exact⟨n,61,_,rfl,B1,by omega,by omega,by decide,by decide,fun r st2 r0 r1 B2 U2=>qF (k _ _ (by omega) (B2.mono (by omega)) (U1.trans U2))⟩
  · refine j5 (j5 ⟨Nat.le_of_ble_eq_true rfl,n,8,_,rfl,B1,by omega,by omega,by decide,by decide,fun r st2 r0 r1 B2 U2=>?_⟩)
    have go:∀c:Int,c.natAbs≤30→K (.int c) st2:=fun c hc=>k c st2 (by omega) (B2.mono (by omega)) (U1.trans U2)
    have:r=0∨r=1∨r=2∨r=3∨r=4∨r=5∨r=6∨r=7:=by omega
    rcases this with rfl|rfl|rfl|rfl|rfl|rfl|rfl|rfl<;>exact aC rfl rfl (go _ (by decide))
 refine eq2 (fun h15=>fX ?_) fun _=>rest st (B.mono (by omega)) Upd.refl
 refine⟨n,3,_,rfl,B,b0,by omega,by decide,by decide,fun r st1 r0 r1 B1 U1=>eq2 (fun _=>fX ?_) fun _=>rest st1 B1 U1⟩
 refine zl ⟨by decide,by decide,by decide⟩ (iq (jK (by decide) (by decide)) (qF ?_))
 rw[e12]
 refine⟨n,_,_,rfl,B1,by omega,by omega,by decide,by decide,fun r st2 r0 r1 B2 U2=>zl ⟨by decide,by decide,by decide⟩ (qF (eJ ?_))⟩
 rw[e12]
 refine k _ _ ?_ (B2.mono (by omega)) (U1.trans U2)
 unfold oW
 rw[if_pos h15]
 omega
noncomputable def j8:cp:=fun ds st K=>∃(n:Nat) (b:Int) (N w:Nat),ds=[.ref n,.int N,.int w]∧Hd st n b∧0≤b∧b≤800000000∧N≤8∧w≤8∧∀A st',Mx.bY N w A→(∀r∈A,∀x∈r,x.natAbs≤1000000000000)→(5<w→∀r∈A,∀x∈r,x.natAbs≤30)→Hd st' n (b+140)→Upd st n st'→K (cz A) st'
noncomputable def mK:List Str:=["_law_hand_here","_law_many_here","_law_wide","_law_wild"]
noncomputable def BI:DS:=(aH (bg 3 (aE cx (af (ae 0) (af (dC (.int 16)) ak))))
 (aH (d7 (a5 (aq nY (ae 2) (dC (.int 5)))) (bg 3 (bp x_ (af (ae 3) (af (dC (.int 12)) ak)))) cU)
 (ba (bp dB (af (dG (eF (af (ae 1) ak)) [none,some 2,some 0,some 3] (bJ 0) cQ (bp dB (af (dG (eF (af (ae 1) ak)) [none,some 2,some 3] (bJ 0) cQ (aE nj (af (ae 1) (af (ae 2) ak)))) ak))) ak)))))
theorem z9:∀ds st K,j8 ds st K→ds.length=3∧BI {nx:=fun _ st'=>K .aK st',rt:=K} (aT mK ds) st:=by
 rintro ds st K ⟨n,b,N,w,rfl,B,b0,hb,n8,w8,k⟩
 refine⟨rfl,?_⟩
 refine⟨n,16,_,rfl,B,b0,by omega,by decide,by decide,fun wl st1 r0 r1 B1 U1=>?_⟩
 dsimp only
 refine m7 (fun σ' st'=>∃wild:Int,σ'=[some (.ref n),some (.int N),some (.int w),some (.int wild)]∧st'=st1∧(5<w→wild≠15)) (fun nx hnx=>?_) ?_
 · refine Av (fun h=>fX (IU ?_)) fun h=>hnx _ _ ⟨wl,rfl,rfl,fun z=>by omega⟩
   exact hnx _ _ ⟨_,rfl,rfl,fun _=>by split<;>omega⟩
 rintro σ' st' ⟨wild,rfl,rfl,hwild⟩
 have nb:oW wild≤1000000000000:=by unfold oW;split<;>omega
 have nb2:5<w→oW wild≤30:=fun h=>by unfold oW;rw[if_neg (hwild h)];exact Nat.le_refl _
 refine fx ⟨by omega,by omega⟩ ⟨cE (by rw[dR];omega),?_⟩
 rw[Int.toNat_natCast]
 refine f6 (fun rest acc st'=>∃A:List (List Int),acc=A.map cu∧A.length+rest.length=N∧(∀r∈A,r.length=w)∧(∀r∈A,∀x∈r,x.natAbs≤oW wild)∧Hd st' n (b+1+16*A.length)∧Upd st n st') ?_ ?_ _ _ _ ⟨[],rfl,by rw[dR];simp,by simp,by simp,B1.mono (by simp),U1⟩
 · rintro acc st2 ⟨A,rfl,hl,hA,hbd,B2,U2⟩
   have hl:A.length=N:=by simpa using hl
   exact⟨trivial,de rfl (k A st2 ⟨hl,hA⟩ (fun r hr x hx=>Nat.le_trans (hbd r hr x hx) nb) (fun h r hr x hx=>Nat.le_trans (hbd r hr x hx) (nb2 h)) (B2.mono (by omega)) U2)⟩
 · rintro x rest acc st2 ⟨A,rfl,hl,hA,hbd,B2,U2⟩ next
   have hl2:A.length<N:=by simp at hl;omega
   refine⟨trivial,_,rfl,?_⟩
   refine fx ⟨by omega,by omega⟩ ⟨cE (by rw[dR];omega),?_⟩
   rw[Int.toNat_natCast]
   refine f6 (fun rest acc st'=>∃r:List Int,acc=aG r∧r.length+rest.length=w∧(∀x∈r,x.natAbs≤oW wild)∧Hd st' n (b+1+16*A.length+2*r.length)∧Upd st n st') ?_ ?_ _ _ _ ⟨[],rfl,by rw[dR];simp,by simp,B2.mono (by simp),U2⟩
   · rintro acc st3 ⟨r,rfl,hr,hrb,B3,U3⟩
     have hr:r.length=w:=by simpa using hr
     refine⟨trivial,de rfl ?_⟩
     show dg _ _ _ _ _ _ _ _ _
     rw[Fd]
     refine next _ _ ⟨A++[r],rfl,by simp at hl⊢;omega,fun q hq=>?_,fun q hq=>?_,B3.mono (by simp;omega),U3⟩
     · rcases List.mem_append.mp hq with h|h
       · exact hA q h
       · rw[List.mem_singleton.mp h];exact hr
     · rcases List.mem_append.mp hq with h|h
       · exact hbd q h
       · rw[List.mem_singleton.mp h];exact hrb
   · rintro y rest2 acc st3 ⟨r,rfl,hr,hrb,B3,U3⟩ qi
     have hr2:r.length<w:=by simp at hr;omega
     refine⟨trivial,_,rfl,n,_,wild,rfl,B3,by omega,by omega,fun z st4 hz B4 U4=>?_⟩
     show dg _ _ _ _ _ _ _ _ _
     rw[ints_app]
     refine qi _ _ ⟨r++[z],rfl,by simp at hr⊢;omega,fun x hx=>?_,B4.mono (by simp;omega),U3.trans U4⟩
     rcases List.mem_append.mp hx with h|h
     · exact hrb x h
     · rw[List.mem_singleton.mp h];exact hz
noncomputable def oU:cp:=fun ds st K=>∃(n:Nat) (b:Int),ds=[.ref n]∧Hd st n b∧0≤b∧b≤800000000∧∀(w:Nat) (g:Bool) st',1≤w→w≤8→(g=true→6≤w)→(g=false→w≤4)→Hd st' n (b+2)→Upd st n st'→K (.tup [.int w,.bl g]) st'
noncomputable def kZ:List Str:=["_law_hand_here"]
noncomputable def Ac:DS:=(aH (d7 (a5 (aq iW (aE cx (af (ae 0) (af (dC (.int 8)) ak))) (dC (.int 7)))) (ba (l7 (af (aq eh (dC (.int 6)) (aE cx (af (ae 0) (af (dC (.int 3)) ak)))) (af (dC (.bl true)) ak)))) cU)
 (ba (l7 (af (aq eh (dC (.int 1)) (aE cx (af (ae 0) (af (dC (.int 4)) ak)))) (af (dC (.bl false)) ak)))))
theorem yP:∀ds st K,oU ds st K→ds.length=1∧Ac {nx:=fun _ st'=>K .aK st',rt:=K} (aT kZ ds) st:=by
 rintro ds st K ⟨n,b,rfl,B,b0,hb,k⟩
 refine⟨rfl,?_⟩
 refine⟨n,8,_,rfl,B,b0,by omega,by decide,by decide,fun r st1 r0 r1 B1 U1=>eq2 (fun _=>fX ?_) fun _=>?_⟩
 · refine⟨n,3,_,rfl,B1,by omega,by omega,by decide,by decide,fun r st2 r0 r1 B2 U2=>eJ ⟨Nat.le_of_ble_eq_true rfl,?_⟩⟩
   obtain⟨j,rfl⟩:=Int.eq_ofNat_of_zero_le r0
   exact k (6+j) true st2 (by omega) (by omega) (fun _=>by omega) (fun z=>by cases z) (B2.mono (by omega)) (U1.trans U2)
 · refine⟨n,4,_,rfl,B1,by omega,by omega,by decide,by decide,fun r st2 r0 r1 B2 U2=>eJ ⟨Nat.le_of_ble_eq_true rfl,?_⟩⟩
   obtain⟨j,rfl⟩:=Int.eq_ofNat_of_zero_le r0
   exact k (1+j) false st2 (by omega) (by omega) (fun z=>by cases z) (fun _=>by omega) (B2.mono (by omega)) (U1.trans U2)
noncomputable def pN:cp:=fun ds st K=>∃(n:Nat) (b:Int) (w:Nat) (g:Bool),ds=[.ref n,.int w,.bl g]∧Hd st n b∧0≤b∧b≤800000000∧1≤w∧w≤8∧(g=false→w≤4)∧∀(N:Nat) st',N≤8→Hd st' n (b+1)→Upd st n st'→K (.int N) st'
noncomputable def mN:List Str:=["_law_hand_here","_law_wide","_law_great"]
noncomputable def BE:DS:=(aH (d7 (a5 (ae 2)) (ba (aq aM (nG (af (ae 1) (af (dC (.int 7)) (af (dC (.int 6)) (af (aq mf (ae 1) (dC (.int 1))) ak))))) (aE cx (af (ae 0) (af (dC (.int 4)) ak))))) cU)
 (ba (aE cx (af (ae 0) (af (aq eh (ae 1) (dC (.int 2))) ak)))))
theorem zJ:∀ds st K,pN ds st K→ds.length=3∧BE {nx:=fun _ st'=>K .aK st',rt:=K} (aT mN ds) st:=by
 rintro ds st K ⟨n,b,w,g,rfl,B,b0,hb,w1,w8,hg,k⟩
 refine⟨rfl,?_⟩
 cases g with
 |true=>
  refine qF ⟨Nat.le_of_ble_eq_true rfl,n,4,_,rfl,B,b0,by omega,by decide,by decide,fun r st2 r0 r1 B2 U2=>?_⟩
  have:r=0∨r=1∨r=2∨r=3:=by omega
  rcases this with rfl|rfl|rfl|rfl
  · exact aC rfl rfl (k w st2 w8 B2 U2)
  · exact aC rfl rfl (k 7 st2 (by decide) B2 U2)
  · exact aC rfl rfl (k 6 st2 (by decide) B2 U2)
  · obtain⟨v,rfl⟩:∃v,w=v+1:=⟨w-1,by omega⟩
    refine aC rfl (show dZ [D.int ((v+1:Nat):Int),.int 7,.int 6,.int (((v+1:Nat):Int)-1)] 3=some (.int (((v+1:Nat):Int)-1))from rfl) ?_
    rw[show((v+1:Nat):Int)-1=(v:Int) by omega]
    exact k v st2 (by omega) B2 U2
 |false=>
  have w4:=hg rfl
  refine eJ ⟨n,_,_,rfl,B,b0,by omega,by omega,by omega,fun r st2 r0 r1 B2 U2=>?_⟩
  obtain⟨j,rfl⟩:=Int.eq_ofNat_of_zero_le r0
  exact k j st2 (by omega) B2 U2
noncomputable def oG:cp:=fun ds st K=>∃(dr:D) (F:List (List Int)) (r:List Int) (m w e:Nat),ds=[cz F,dr]∧Wf F m w∧items? st dr=some (aG r)∧r.length=w∧(∀c,c<w→(r.getD c 0).natAbs≤2^e)∧e≤10000∧∀st',Ext st st'→K (cu (Mx.cS F r m)) st'
noncomputable def k_:List Str:=["_law_form","_law_row","_law_left","_law_step","_law_lead","_law_many_here","_law_k"]
noncomputable def zW:DS:=(aH (bg 2 (bp o6 (af (ae 1) ak)))
 (aH (hJ (eH (ae 0)) (bJ 3) (aH (bg 4 (aq aM (dG (eF (af (bp d9 (af (ae 3) ak)) ak)) [none,some 3] (bJ 0) (a5 (aq mh (aq aM (ae 1) (ae 0)) (dC (.int 0)))) (ae 0)) (dC (.int 0))))
 (aH (bg 5 (aq k0 (aq aM (ae 2) (ae 4)) (aq aM (ae 3) (ae 4))))
 (hJ (eF (af (bp d9 (af (ae 2) ak)) ak)) (bJ 6) (dX (ae 2) (ae 6) (aq mf (aq aM (ae 2) (ae 6)) (aq du (ae 5) (aq aM (ae 3) (ae 6)))))))))
 (ba (bp dB (af (ae 2) ak)))))
theorem uq:∀(r:List Int) (i:Nat),fK r (i+1)=(fK r i).map (· +1)
 | [],_=>rfl
 |x::r,i=>by
  unfold fK
  split
  · exact uq r (i+1)
  · rfl
theorem oK:∀r:List Int,((List.range r.length).filter fun j=>decide (r.getD j 0≠0)).head?=h_ r
 | []=>rfl
 |x::r=>by
  have ih:=oK r
  rw[List.length_cons,List.range_succ_eq_map,List.filter_cons]
  by_cases h:x=0
  · have h1:decide ((x::r).getD 0 0≠0)=false:=by simpa using h
    rw[h1,if_neg Bool.false_ne_true,List.filter_map,List.head?_map]
    have e:(fun j=>decide ((x::r).getD j 0≠0))∘Nat.succ=fun j=>decide (r.getD j 0≠0):=by
     funext j
     simp
    rw[e,ih]
    unfold h_
    conv=>rhs;unfold fK
    rw[if_pos h,uq]
  · have h1:decide ((x::r).getD 0 0≠0)=true:=by simpa using h
    rw[h1,if_pos rfl,List.head?_cons]
    unfold h_ fK
    rw[if_neg h]
theorem sN{n:Nat}{p:Nat→Bool}{c:DT}{te:DE}{σc:cj}{st:ag}{K:List D→ag→Prop}(h:∀i:Nat,i<n→∃σ2,bJ 0 (.int (i:Int)) σc=some σ2∧(∀K',K' (p i) st→c σ2 st K')∧∀K',K' (.int (i:Int)) st→te σ2 st K')(k:K (((List.range n).filter p).map fun(j:Nat)=>D.int (j:Int)) st):dg (bJ 0) c te (fun _=>True) σc (dY 0 n) [] st K:=by
 refine f6 (fun rest acc st'=>st'=st∧∃j:Nat,j≤n∧rest=(List.range (n-j)).map (fun i=>D.int (((j+i:Nat):Int)))∧acc=((List.range j).filter p).map fun(j:Nat)=>D.int (j:Int)) ?_ ?_ _ _ _ ⟨rfl,0,Nat.zero_le _,by unfold dY;simp,rfl⟩
 · rintro acc st' ⟨rfl,j,hj,hr,rfl⟩
   have:n-j=0:=by
    cases q:n-j with
    |zero=>rfl
    |succ m=>rw[q,List.range_succ_eq_map]at hr;cases hr
   have hjn:j=n:=by omega
   subst hjn
   exact⟨trivial,k⟩
 · rintro d rest acc st' ⟨rfl,j,hj,hr,rfl⟩ next
   cases q:n-j with
   |zero=>rw[q]at hr;cases hr
   |succ m=>
    rw[q,List.range_succ_eq_map,List.map_cons,List.map_map]at hr
    simp only[List.cons.injEq]at hr
    obtain⟨rfl,hrest⟩:=hr
    obtain⟨σ2,e2,hc,ht⟩:=h j (by omega)
    have hrest':rest=(List.range (n-(j+1))).map (fun i=>D.int (((j+1+i:Nat):Int))):=by
     have:n-(j+1)=m:=by omega
     rw[this,hrest]
     refine List.map_congr_left fun i _=>?_
     show D.int (((j+(i+1):Nat):Int))=D.int (((j+1+i:Nat):Int))
     congr 2;omega
    refine⟨trivial,σ2,e2,hc _ ?_⟩
    cases ep:p j with
    |false=>
     refine next _ _ ⟨rfl,j+1,by omega,hrest',?_⟩
     rw[List.range_succ,List.filter_append,List.map_append]
     simp[ep]
    |true=>
     refine fX (ht _ (next _ _ ⟨rfl,j+1,by omega,hrest',?_⟩))
     rw[List.range_succ,List.filter_append,List.map_append]
     simp[ep]
theorem zc{M L:List Int}{k:Nat}(hl:M.length=L.length)(hk:k<L.length):(aG (M.take k++L.drop k)).set k (.int (M.getD k 0))=aG (M.take (k+1)++L.drop (k+1)):=by
 rw[←List.map_set]
 congr 1
 have l1:(M.take k).length=k:=by rw[List.length_take];omega
 rw[List.set_append_right _ _ (by omega),l1,Nat.sub_self,List.drop_eq_getElem_cons hk,List.set_cons_zero,List.take_succ_eq_append_getElem (by omega),List.append_assoc,Mx.bf (by omega)]
 rfl
theorem CN{M L:List Int}{k:Nat}(hl:M.length=L.length)(hk:k<L.length):dZ (aG (M.take k++L.drop k)) (k:Int)=some (.int (L.getD k 0)):=by
 have l1:(M.take k).length=k:=by rw[List.length_take];omega
 rw[fy (by rw[List.length_append,List.length_drop,l1];omega),List.getD_eq_getElem?_getD,List.getElem?_append_right (by omega),l1,Nat.sub_self,List.getElem?_drop,Nat.add_zero,List.getD_eq_getElem?_getD]
theorem yS:∀ds st K,oG ds st K→ds.length=2∧zW {nx:=fun _ st'=>K .aK st',rt:=K} (aT k_ ds) st:=by
 rintro ds st K ⟨dr,F,r,m,w,e,rfl,hW,hr,lr,br,he,k⟩
 refine⟨rfl,?_⟩
 have lF:=hW.is.len
 have m8:=hW.m8
 have w8:=hW.w8
 refine yp hr ?_
 have X0:Ext st (st++[.lst (aG r)]):=Ext.push
 have e0:(st++[Cell.lst (aG r)])[st.length]?=some (.lst (aG (Mx.cS F r 0))):=by simp[Mx.cS]
 refine fu ?_
 refine g5 (fun rest σ st'=>∃(i:Nat) (v3 v4 v5 v6:Option D),i≤m∧rest=(F.map cu).drop i∧σ=[some (cz F),some dr,some (.ref st.length),v3,v4,v5,v6]∧Ext st st'∧st'[st.length]?=some (.lst (aG (Mx.cS F r i)))) ?_ ?_ _ _ _ ⟨0,none,none,none,none,Nat.zero_le _,rfl,rfl,X0,e0⟩
 · rintro σ st' ⟨i,v3,v4,v5,v6,hi,hrest,rfl,X,ew⟩
   have e1:i=m:=Nat.le_antisymm hi (by rw[←lF];exact drop_nil hrest)
   subst e1
   exact⟨trivial,de (aJ ew) (k st' X)⟩
 · rintro x rest σ st' ⟨i,v3,v4,v5,v6,hi,hrest,rfl,X,ew⟩ next
   obtain⟨hiF,rfl,rfl⟩:=drop_cons hrest
   have him:i<m:=by rw[←lF];exact hiF
   obtain⟨l1,l2,wF,eld⟩:=hW.lead him
   have lL:=Mx.ku hW.is lr (i:=i) (Nat.le_of_lt him)
   refine⟨trivial,_,rfl,dA rfl ?_⟩
   rw[List.length_map,wF]
   refine fx ⟨by omega,by omega⟩ ⟨cE (by rw[dR];omega),?_⟩
   rw[Int.toNat_natCast]
   refine sN (p:=fun j=>decide ((F.getD i []).getD j 0≠0)) (fun j hj=>⟨_,rfl,fun K' q=>?_,fun K' q=>q⟩) ?_
   · refine aC rfl (fy (by omega)) (ne2 (fun h=>?_) fun h=>?_)
     · rw[decide_eq_true h]at q;exact q
     · rw[decide_eq_false (by simpa using h)]at q;exact q
   have hf:=oK (F.getD i [])
   rw[wF,rJ (hW.st.lead i him).2.2 (Int.ne_of_gt l2)]at hf
   generalize((List.range w).filter fun j=>decide ((F.getD i []).getD j 0≠0))=fl at hf
   match fl,hf with
   |l::fl,hf=>
    have hl:l=Mx.dc F i:=by simpa using hf
    subst hl
    refine aC rfl (show dZ ((Mx.dc F i::fl).map fun(j:Nat)=>D.int (j:Int)) 0=some (.int ((Mx.dc F i:Nat):Int))from iN (j:=0) rfl) ?_
    have at1:dZ (aG (F.getD i [])) ((Mx.dc F i:Nat):Int)=some (.int (Mx.g F i (Mx.dc F i))):=fy (by omega)
    have at2:dZ (aG (Mx.cS F r i)) ((Mx.dc F i:Nat):Int)=some (.int ((Mx.cS F r i).getD (Mx.dc F i) 0)):=fy (by omega)
    refine aC (aJ ew) at2 (aC rfl at1 (o8 (by omega) (yc (hW.sm i _ him l1) (by omega)) ?_))
    have bx:=Mx.sx hW.is lr hW.st hW.sm br (Nat.le_of_lt him) _ l1
    have bq:(Mx.qu F (Mx.cS F r i) i).natAbs≤2^(e+i*(5000+1)):=Nat.le_trans (Mx.kr _ l2) bx
    have lM:(Mx.cS F r (i+1)).length=(Mx.cS F r i).length:=by rw[lL];exact Mx.ku hW.is lr him
    have hMk:∀c,(Mx.cS F r (i+1)).getD c 0=(Mx.cS F r i).getD c 0-Mx.qu F (Mx.cS F r i) i*Mx.g F i c:=Mx.u7 hW.is lr him
    unfold Mx.qu at bq hMk
    generalize((Mx.cS F r i).getD (Mx.dc F i) 0).fdiv (Mx.g F i (Mx.dc F i))=q at bq hMk⊢
    refine dA (aJ ew) ?_
    rw[List.length_map,lL]
    refine fx ⟨by omega,by omega⟩ ?_
    rw[Int.toNat_natCast]
    refine lP w (fun c σ st2=>∃v6:Option D,σ=[some (cz F),some dr,some (.ref st.length),some (cu (F.getD i [])),some (.int (Mx.dc F i:Nat)),some (.int q),v6]∧Ext st st2∧st2[st.length]?=some (.lst (aG ((Mx.cS F r (i+1)).take c++(Mx.cS F r i).drop c)))) ?_ ?_ ⟨_,rfl,X,by rw[List.take_zero,List.drop_zero];exact ew⟩
    · rintro σ st2 ⟨v6,rfl,X2,e2⟩
      rw[List.drop_eq_nil_of_le (by omega),List.append_nil,List.take_of_length_le (by omega)]at e2
      exact next _ _ ⟨i+1,_,_,_,_,him,rfl,rfl,X2,e2⟩
    · rintro c σ st2 rest2 hc ⟨v6,rfl,X2,e2⟩ qi
      refine⟨_,rfl,?_⟩
      refine aC (aJ e2) (CN lM (by omega)) (aC rfl (fy (by omega)) (iq (fO bq (hW.sm i c him hc) (by omega)) (qF ?_)))
      refine iD e2 (zC (by omega) (by rw[List.length_map,List.length_append,List.length_take,List.length_drop];omega)) ?_
      rw[Int.toNat_natCast]
      refine qi _ _ ⟨_,rfl,X2.set (Nat.le_refl _),?_⟩
      rw[List.getElem?_set_self (List.getElem?_eq_some_iff.mp e2).1,←zc lM (by omega),hMk c]
      rfl
noncomputable def uh:cp:=fun ds st K=>∃(dr:D) (F:List (List Int)) (r:List Int) (m w e:Nat),ds=[cz F,dr]∧Wf F m w∧items? st dr=some (aG r)∧r.length=w∧(∀c,c<w→(r.getD c 0).natAbs≤2^e)∧e≤10000∧Mx.c5 F m w (fun c=>r.getD c 0)∧∀st',Ext st st'→K (.bl true) st'
noncomputable def qb:List Str:=["_law_form","_law_row"]
noncomputable def FE:DS:=(ba (xI (a5 (bp ux (af (aE oG (af (ae 0) (af (ae 1) ak))) ak)))))
theorem Dh:∀ds st K,uh ds st K→ds.length=2∧FE {nx:=fun _ st'=>K .aK st',rt:=K} (aT qb ds) st:=by
 rintro ds st K ⟨dr,F,r,m,w,e,rfl,hW,hr,lr,br,he,hL,k⟩
 refine⟨rfl,dr,F,r,m,w,e,rfl,hW,hr,lr,br,he,fun st' X=>HG (ints_map _) ?_⟩
 rw[(ue hW lr).1.mpr hL]
 have:((List.replicate w (0:Int)).any fun n=>decide (n≠0))=false:=by simp
 rw[this]
 exact k st' X
noncomputable def ng:cp:=fun ds st K=>∃(F:List (List Int)) (m w:Nat),ds=[cz F]∧Wf F m w∧Mx.vm F m (Mx.dc F)∧K (.bl true) st
noncomputable def j9:List Str:=["_law_rows_here","_law_last","_law_j","_law_row","_law_some"]
noncomputable def zw:DS:=(aH (bg 1 (lG gJ (dC (.int 1))))
 (aH (hJ (xy (af (ae 0) ak)) (je 2 3) (aH (bg 4 (dG (eF (af (bp d9 (af (ae 3) ak)) ak)) [none,some 3] (bJ 0) (a5 (aq mh (aq aM (ae 1) (ae 0)) (dC (.int 0)))) (ae 0)))
 (aH (d7 (js (a5 (aq iW (ae 4) (nG ak))) (js (a5 (aq wB (aq aM (ae 4) (dC (.int 0))) (ae 1))) (a5 (aq pj (aq aM (ae 3) (aq aM (ae 4) (dC (.int 0)))) (dC (.int 0)))))) (ba (dC (.bl false))) cU)
 (aH (bg 1 (aq aM (ae 4) (dC (.int 0))))
 (d7 (j4 (a5 (bp uc (af (dG (eH (iG (ae 0) gm (jV (ae 2)))) [none,some 1,some 3] (bJ 0) cQ (ve wB pj (dC (.int 0)) (aq aM (ae 0) (ae 1)) (aq aM (ae 2) (ae 1)))) ak)))) (ba (dC (.bl false))) cU)))))
 (ba (dC (.bl true)))))
theorem enum_rows{A:List (List Int)}{i:Nat}{d:D}{rest:List D}(hr:d::rest=gf i ((A.map cu).drop i)):i<A.length∧d= .tup [.int (i:Int),cu (A.getD i [])]∧rest=gf (i+1) ((A.map cu).drop (i+1)):=by
 rcases Nat.lt_or_ge i A.length with h|h
 · rw[List.drop_eq_getElem_cons (by rw[List.length_map];exact h),List.getElem_map]at hr
   unfold gf at hr
   obtain⟨h1,h2⟩:=List.cons.inj hr
   exact⟨h,by rw[Mx.bf h];exact h1,h2⟩
 · rw[List.drop_eq_nil_of_le (by rw[List.length_map];exact h)]at hr
   cases hr
theorem wb:∀l:List D,i0 (l.map fun _=>D.bl true)=some (l.map fun _=>true)
 | []=>rfl
 |_::l=>by simp[i0,wb l]
theorem Gz(l:List D):(l.map fun _=>true).all id=true:=by simp
theorem xm:∀ds st K,ng ds st K→ds.length=1∧zw {nx:=fun _ st'=>K .aK st',rt:=K} (aT j9 ds) st:=by
 rintro ds st K ⟨F,m,w,rfl,hW,hR,k⟩
 refine⟨rfl,?_⟩
 have lF:=hW.is.len
 have m8:=hW.m8
 have w8:=hW.w8
 refine j5 (AD (xs:=F.map cu) rfl fun ok aN=>?_)
 refine g5 (fun rest σ st'=>st=st'∧∃(i:Nat) (last:Int) (v2 v3 v4:Option D),i≤m∧rest=gf i ((F.map cu).drop i)∧σ=[some (cz F),some (.int last),v2,v3,v4]∧(i<m→last<(Mx.dc F i:Int))) ?_ ?_ _ _ _ ⟨rfl,0,-1,none,none,none,Nat.zero_le _,rfl,rfl,fun _=>by omega⟩
 · rintro σ st' ⟨rfl,i,last,v2,v3,v4,_,_,rfl,_⟩
   exact⟨aN _ rfl,k⟩
 · rintro x rest σ st' ⟨rfl,i,last,v2,v3,v4,hi,hrest,rfl,hlast⟩ next
   obtain⟨hiF,rfl,rfl⟩:=enum_rows hrest
   have him:i<m:=by omega
   obtain⟨l1,l2,wF,eld⟩:=hW.lead him
   refine⟨aN _ rfl,_,rfl,dA rfl ?_⟩
   rw[List.length_map,wF]
   refine fx ⟨by omega,by omega⟩ ⟨cE (by rw[dR];omega),?_⟩
   rw[Int.toNat_natCast]
   refine sN (p:=fun j=>decide ((F.getD i []).getD j 0≠0)) (fun j hj=>⟨_,rfl,fun K' q=>?_,fun K' q=>q⟩) ?_
   · refine aC rfl (fy (by omega)) (ne2 (fun h=>?_) fun h=>?_)
     · rw[decide_eq_true h]at q;exact q
     · rw[decide_eq_false (by simpa using h)]at q;exact q
   have hf:=oK (F.getD i [])
   rw[wF,rJ (hW.st.lead i him).2.2 (Int.ne_of_gt l2)]at hf
   generalize((List.range w).filter fun j=>decide ((F.getD i []).getD j 0≠0))=fl at hf
   match fl,hf with
   |l::fl,hf=>
    have hl:l=Mx.dc F i:=by simpa using hf
    subst hl
    have a0:dZ ((Mx.dc F i::fl).map fun(j:Nat)=>D.int (j:Int)) 0=some (.int ((Mx.dc F i:Nat):Int)):=iN (j:=0) rfl
    have at1:dZ (aG (F.getD i [])) ((Mx.dc F i:Nat):Int)=some (.int (Mx.g F i (Mx.dc F i))):=fy (by omega)
    have pll:pl 40 (.lst ((Mx.dc F i::fl).map fun(j:Nat)=>D.int (j:Int)))=true:=by
     unfold pl
     refine List.all_eq_true.mpr fun d hd=>?_
     obtain⟨j,_,rfl⟩:=List.mem_map.mp hd
     unfold pl
     rfl
    refine⟨Nat.zero_le _,xN pll rfl ?_⟩
    refine aC rfl a0 (OL (hlast him) ?_)
    refine aC rfl a0 (aC rfl at1 (Ny (by omega) ?_))
    refine aC rfl a0 ?_
    refine wD ?_
    rw[uH,←List.map_take]
    refine fu ⟨cE (by rw[List.length_map,List.length_take];omega),?_⟩
    refine comp_map (g:=fun _=> .bl true) trivial _ (fun d hd K' q=>?_) ?_
    · obtain⟨s,hs,rfl⟩:=List.mem_map.mp hd
      obtain⟨j,hj,rfl⟩:=List.mem_iff_getElem.mp hs
      rw[List.length_take]at hj
      rw[List.getElem_take]
      have hr:=hR j i (by omega) him
      have lj:(F[j]'(by omega)).length=w:=hW.is.iV _ (List.getElem_mem _)
      have ej:(F[j]'(by omega)).getD (Mx.dc F i) 0=Mx.g F j (Mx.dc F i):=by unfold Mx.g;rw[Mx.bf (show j<F.length by omega)]
      refine⟨_,rfl,aC rfl (fy (by omega)) ?_⟩
      rw[ej]
      exact OR hr.1 (aC rfl at1 (Nw hr.2 q))
    refine zj (wb ((F.take i).map cu)) ?_
    rw[Gz]
    exact next _ _ ⟨rfl,i+1,_,_,_,_,him,rfl,rfl,fun h=>Int.ofNat_lt.mpr (hW.st.mono i (i+1) (Nat.lt_succ_self _) h)⟩
noncomputable def kn:cp:=fun ds st K=>∃(F:List (List Int)) (m w:Nat),ds=[.tup [.int w,cz F],.int w]∧Wf F m w∧Mx.vm F m (Mx.dc F)∧K (.bl true) st
noncomputable def iP:List Str:=["_law_found","_law_wide","_law_row"]
noncomputable def wc:DS:=(aH (d7 (js (j4 (a5 (bp nF (af (ae 0) (af (dC (.ty "tuple")) ak))))) (js (a5 (aq mh (bp d9 (af (ae 0) ak)) (dC (.int 2)))) (j4 (a5 (bp nF (af (aq aM (ae 0) (dC (.int 1))) (af (dC (.ty "tuple")) ak))))))) (ba (dC (.bl false))) cU)
 (aH (d7 (js (j4 (a5 (bp nF (af (aq aM (ae 0) (dC (.int 0))) (af (dC (.ty "int")) ak))))) (js (a5 (bp nF (af (aq aM (ae 0) (dC (.int 0))) (af (dC (.ty "bool")) ak)))) (a5 (aq mh (aq aM (ae 0) (dC (.int 0))) (ae 1))))) (ba (dC (.bl false))) cU)
 (aH (hJ (eH (aq aM (ae 0) (dC (.int 1)))) (bJ 2) (aH (d7 (js (j4 (a5 (bp nF (af (ae 2) (af (dC (.ty "tuple")) ak))))) (a5 (aq mh (bp d9 (af (ae 2) ak)) (ae 1)))) (ba (dC (.bl false))) cU)
 (d7 (j4 (a5 (bp uc (af (dG (eH (ae 2)) [none] (bJ 0) cQ (xQ (bp nF (af (ae 0) (af (dC (.ty "int")) ak))) (xI (a5 (bp nF (af (ae 0) (af (dC (.ty "bool")) ak))))))) ak)))) (ba (dC (.bl false))) cU)))
 (ba (aE ng (af (aq aM (ae 0) (dC (.int 1))) ak))))))
theorem uQ:∀ds st K,kn ds st K→ds.length=2∧wc {nx:=fun _ st'=>K .aK st',rt:=K} (aT iP ds) st:=by
 rintro ds st K ⟨F,m,w,rfl,hW,hR,k⟩
 refine⟨rfl,?_⟩
 have w8:=hW.w8
 refine nL rfl (by decide) ?_
 refine dA rfl (CV rfl ?_)
 refine aC rfl rfl (nL rfl (by decide) ?_)
 refine aC rfl rfl (nL rfl (by decide) ?_)
 refine aC rfl rfl (nL rfl (by decide) ?_)
 refine aC rfl rfl (CV rfl ?_)
 refine aC rfl rfl (fu ?_)
 refine g5 (fun rest σ st'=>st=st'∧∃(i:Nat) (v2:Option D),i≤F.length∧rest=(F.map cu).drop i∧σ=[some (.tup [.int w,cz F]),some (.int w),v2]) ?_ ?_ _ _ _ ⟨rfl,0,none,Nat.zero_le _,rfl,rfl⟩
 · rintro σ st' ⟨rfl,i,v2,_,_,rfl⟩
   exact⟨trivial,aC rfl rfl ⟨F,m,w,rfl,hW,hR,k⟩⟩
 · rintro x rest σ st' ⟨rfl,i,v2,hi,hrest,rfl⟩ next
   obtain⟨hiF,rfl,rfl⟩:=drop_cons hrest
   have lw:(F.getD i []).length=w:=by rw[Mx.bf hiF];exact hW.is.iV _ (List.getElem_mem _)
   refine⟨trivial,_,rfl,?_⟩
   refine nL rfl (by decide) ?_
   refine dA rfl (CV (by rw[List.length_map,lw]) ?_)
   refine fu ⟨cE (by rw[List.length_map];omega),?_⟩
   refine comp_map (g:=fun _=> .bl true) trivial _ (fun d hd K' q=>?_) ?_
   · obtain⟨i,_,rfl⟩:=List.mem_map.mp hd
     exact⟨_,rfl,nL rfl (by decide) (fX (nL rfl (by decide) q))⟩
   refine zj (wb (aG (F.getD i []))) ?_
   rw[Gz]
   exact next _ _ ⟨rfl,i+1,_,hiF,rfl,rfl⟩
noncomputable def oa:cp:=fun ds st K=>∃(x y:D) (A:List (List Int)) (W:List Int) (N w a b:Nat),ds=[x,y,.int w]∧items? st x=some (aG W)∧fG st y A∧Mx.bY N w A∧w≤8∧(∀z∈W,z.natAbs≤2^a)∧(∀r∈A,∀x∈r,x.natAbs≤2^b)∧a+b≤130000000∧∀st',Ext st st'→K (cu (Mx.cN W A (List.replicate w 0))) st'
noncomputable def nX:List Str:=["_law_weights","_law_rows_here","_law_wide","_law_made","_law_weight","_law_row","_law_k"]
noncomputable def DJ:DS:=(aH (bg 3 (aq rZ (nG (af (dC (.int 0)) ak)) (ae 2)))
 (aH (hJ (vQ (af (ae 0) (af (ae 1) ak))) (je 4 5) (hJ (eF (af (ae 2) ak)) (bJ 6) (dX (ae 3) (ae 6) (aq eh (aq aM (ae 3) (ae 6)) (aq du (ae 4) (aq aM (ae 5) (ae 6)))))))
 (ba (bp dB (af (ae 3) ak)))))
theorem Br:∀ds st K,oa ds st K→ds.length=3∧DJ {nx:=fun _ st'=>K .aK st',rt:=K} (aT nX ds) st:=by
 rintro ds st K ⟨x,y,A,W,N,w,a0,b0,rfl,hx,⟨dr,hy,hr⟩,hA,w8,bW,bA,hab,k⟩
 refine⟨rfl,?_⟩
 refine⟨Nat.le_of_ble_eq_true rfl,Hr ⟨by omega,by omega,cE (by simp;omega)⟩ ?_⟩
 rw[Int.toNat_natCast,zp]
 have X0:Ext st (st++[.lst (aG (List.replicate w 0))]):=Ext.push
 have e0:(st++[Cell.lst (aG (List.replicate w 0))])[st.length]?=some (.lst (aG (List.replicate w 0))):=by simp
 refine yO (X0.items hx) (X0.items hy) fun ok aN=>?_
 refine g5 (fun rest σ st'=>∃(v4 v5 v6:Option D) (W':List Int) (ds':List D) (A':List (List Int)) (acc:List Int),rest=iE (aG W') ds'∧bT st ds' A'∧σ=[some x,some y,some (.int w),some (.ref st.length),v4,v5,v6]∧Ext st st'∧st'[st.length]?=some (.lst (aG acc))∧acc.length=w∧(∀r∈A',r∈A)∧(∀z∈W',z∈W)∧Mx.cN W' A' acc=Mx.cN W A (List.replicate w 0)) ?_ ?_ _ _ _ ⟨none,none,none,W,dr,A,List.replicate w 0,rfl,hr,rfl,X0,e0,by simp,fun _ h=>h,fun _ h=>h,rfl⟩
 · rintro σ st1 ⟨v4,v5,v6,W',ds',A',acc,he,hr',rfl,X,e1,hl,_,_,hs⟩
   refine⟨aN _ (X.items hx) (X.items hy),de (aJ e1) ?_⟩
   have:Mx.cN W' A' acc=acc:=by
    match W',ds',A',hr',he with
    | [],_,_,_,_=>unfold Mx.cN;rfl
    |_::_,[],[],_,_=>unfold Mx.cN;rfl
    |_::_,_::_,_::_,_,he=>cases he
   rw[this]at hs
   rw[hs];exact k st1 X
 · rintro d rest σ st1 ⟨v4,v5,v6,W',ds',A',acc,he,hr',rfl,X,e1,hl,ha,hw',hs⟩ next
   match W',ds',A',he,hr',ha,hs with
   | [],_,_,he,_,_,_=>cases he
   |_::_,[],[],he,_,_,_=>cases he
   |a::W',dq::ds',q::A',he,hr',ha,hs=>
    have hz:iE (aG (a::W')) (dq::ds')= .tup [.int a,dq]::iE (aG W') ds':=rfl
    rw[hz,List.cons.injEq]at he
    obtain⟨rfl,rfl⟩:=he
    have lq:=hA.iV q (ha q List.mem_cons_self)
    have bq:=bA q (ha q List.mem_cons_self)
    have lM:(Mx.fm acc a q).length=acc.length:=Mx.jr (by omega)
    refine⟨aN _ (X.items hx) (X.items hy),_,rfl,?_⟩
    refine fx ⟨by omega,by omega⟩ ?_
    rw[Int.toNat_natCast]
    refine lP w (fun c σ st2=>∃v6:Option D,σ=[some x,some y,some (.int w),some (.ref st.length),some (.int a),some dq,v6]∧Ext st st2∧st2[st.length]?=some (.lst (aG ((Mx.fm acc a q).take c++acc.drop c)))) ?_ ?_ ⟨_,rfl,X,by rw[List.take_zero,List.drop_zero];exact e1⟩
    · rintro σ st2 ⟨v6,rfl,X2,e2⟩
      rw[List.drop_eq_nil_of_le (by omega),List.append_nil,List.take_of_length_le (by omega)]at e2
      exact next _ _ ⟨_,_,_,W',ds',A',_,rfl,hr'.2,rfl,X2,e2,by omega,fun r hr=>ha r (List.mem_cons_of_mem _ hr),fun z hz=>hw' z (List.mem_cons_of_mem _ hz),hs⟩
    · rintro c σ st2 rest2 hc ⟨v6,rfl,X2,e2⟩ qi
      refine⟨_,rfl,?_⟩
      have bc:=bq _ (getD_mem (r:=q) (k:=c) (by omega))
      refine aC (aJ e2) (CN lM (by omega)) (aC (X2.items hr'.1) (fy (by omega)) (iq (fO (bW a (hw' a List.mem_cons_self)) bc hab) (eJ ?_)))
      refine iD e2 (zC (by omega) (by rw[List.length_map,List.length_append,List.length_take,List.length_drop];omega)) ?_
      rw[Int.toNat_natCast]
      refine qi _ _ ⟨_,rfl,X2.set (Nat.le_refl _),?_⟩
      rw[List.getElem?_set_self (List.getElem?_eq_some_iff.mp e2).1,←zc lM (by omega),Mx.pD (by omega)]
noncomputable def i8:cp:=fun ds st K=>∃(X B:List (List Int)) (n w w' a b:Nat),ds=[cz X,cz B,.int w']∧Mx.bY n w X∧Mx.bY w w' B∧n≤8∧w'≤8∧(∀r∈X,∀x∈r,x.natAbs≤2^a)∧(∀r∈B,∀x∈r,x.natAbs≤2^b)∧a+b≤130000000∧∀st',Ext st st'→K (cz (Mx.mulM X B w')) st'
noncomputable def ja:List Str:=["_law_rows_here","_law_others","_law_wide"]
noncomputable def xf:DS:=(ba (bp dB (af (dG (eH (ae 0)) [none,some 1,some 2] (bJ 0) cQ (aE oa (af (ae 0) (af (ae 1) (af (ae 2) ak))))) ak)))
theorem vE:∀ds st K,i8 ds st K→ds.length=3∧xf {nx:=fun _ st'=>K .aK st',rt:=K} (aT ja ds) st:=by
 rintro ds st K ⟨X,B,n,w,w',a,b,rfl,hX,hB,n8,w8,bX,bB,hab,k⟩
 refine⟨rfl,?_⟩
 have lX:=hX.len
 refine fu ⟨cE (by rw[List.length_map];omega),?_⟩
 refine f6 (fun rest acc st'=>∃i:Nat,i≤n∧rest=(X.map cu).drop i∧acc=((Mx.mulM X B w').take i).map cu∧Ext st st') ?_ ?_ _ _ _ ⟨0,Nat.zero_le _,rfl,rfl,Ext.refl⟩
 · rintro acc st' ⟨i,hi,hrest,rfl,E⟩
   have:=drop_nil hrest
   rw[List.take_of_length_le (by unfold Mx.mulM;rw[List.length_map];omega)]
   exact⟨trivial,de rfl (k st' E)⟩
 · rintro d rest acc st' ⟨i,hi,hrest,rfl,E⟩ next
   obtain⟨hiX,rfl,rfl⟩:=drop_cons hrest
   have hmem:X.getD i []∈X:=by rw[Mx.bf hiX];exact List.getElem_mem _
   refine⟨trivial,_,rfl,_,_,B,X.getD i [],w,w',a,b,rfl,rfl,dM,hB,w8,bX _ hmem,bB,hab,fun st2 E2=>?_⟩
   show dg _ _ _ _ _ _ _ _ _
   refine next _ _ ⟨i+1,by omega,rfl,?_,E.trans E2⟩
   unfold Mx.mulM
   rw[List.take_succ_eq_append_getElem (by rw[List.length_map];omega),List.map_append,List.getElem_map,Mx.bf hiX]
   rfl
noncomputable def kO:cp:=fun ds st K=>∃(F A:List (List Int)) (N m w e0:Nat) (f:Bool),ds=[cz F,cz A,.int w]∧Mx.bY N w A∧N≤8∧w≤8∧(∀r∈A,∀x∈r,x.natAbs≤2^e0)∧e0≤1000000∧Mx.Rm N w e0∧Fo A N w F m∧Wf F m w∧st[0]?=some (fk f)∧∀st',Bk st st'→K (.bl true) st'
noncomputable def iL:List Str:=["_law_rows_here","_law_others","_law_wide","_law_row","_law_found"]
noncomputable def vK:DS:=(aH (hJ (eH (ae 0)) (bJ 3) (aH (bg 4 (aE tP (af (ae 1) (af (ae 3) ak))))
 (d7 (js (a5 (aq nJ (aq aM (ae 4) (dC (.int 0))) (dC (.str "told")))) (js (a5 (aq nJ (aE oa (af (aq aM (ae 4) (dC (.int 1))) (af (ae 1) (af (ae 2) ak)))) (ae 3))) (a5 (aq mh (bp d9 (af (aq aM (ae 4) (dC (.int 1))) ak)) (bp d9 (af (ae 1) ak)))))) (ba (dC (.bl false))) cU)))
 (ba (dC (.bl true))))
theorem Bk.trans{st st1 st2:ag}(a:Bk st st1)(b:Bk st1 st2):Bk st st2:=⟨Nat.le_trans a.le b.le,fun m hm h0=>(b.fr m (Nat.lt_of_lt_of_le hm a.le) h0).trans (a.fr m hm h0),b.tb⟩
theorem uD:∀ds st K,kO ds st K→ds.length=3∧vK {nx:=fun _ st'=>K .aK st',rt:=K} (aT iL ds) st:=by
 rintro ds st K ⟨F,A,N,m,w,e0,f,rfl,hA,n8,w8,bA,he0,hRm,fo,hW,h0,k⟩
 refine⟨rfl,?_⟩
 have lA:=hA.len
 have lF:=fo.is.len
 have hWf:∀F' m',Fo A N w F' m'→Wf F' m' w:=fun F' m' fo'=>by
  have e:=fo'.one fo (Mx.fJ.refl _ _ _)
  subst e
  have e2:m'=m:=fo'.is.len.symm.trans fo.is.len
  subst e2
  exact hW
 refine fu ?_
 refine g5 (fun rest σ st'=>∃(i:Nat) (v3 v4:Option D),i≤m∧rest=(F.map cu).drop i∧σ=[some (cz F),some (cz A),some (.int w),v3,v4]∧Bk st st') ?_ ?_ _ _ _ ⟨0,none,none,Nat.zero_le _,rfl,rfl,⟨Nat.le_refl _,fun _ _ _=>rfl,f,h0⟩⟩
 · rintro σ st' ⟨i,v3,v4,_,_,rfl,B⟩
   exact⟨trivial,k st' B⟩
 · rintro d rest σ st' ⟨i,v3,v4,hi,hrest,rfl,B⟩ next
   obtain⟨hiF,rfl,rfl⟩:=drop_cons hrest
   have him:i<m:=by omega
   obtain⟨f',t'⟩:=B.tb
   have lw:=fo.is.row him
   have hL:Mx.c5 A N w fun q=>(F.getD i []).getD q 0:=fo.same.of i him
   have n1:1≤N:=by
    rcases Nat.eq_zero_or_pos N with z|z
    · subst z
      obtain⟨y,hy⟩:=fo.same.of i him
      obtain⟨l1,l2,_⟩:=fo.st.lead i him
      have:Mx.g F i (Mx.dc F i)=0:=hy _ l1
      omega
    · exact z
   refine⟨trivial,_,rfl,_,_,A,F.getD i [],N,w,e0,f',rfl,dM,rfl,hA,n1,n8,w8,vX hA (ma hA bA),by omega,hRm,hWf,lw,hW.row him,hL,t',fun st2 W B2 lW bW hs=>?_⟩
   refine aC rfl rfl (Ct rfl rfl ?_)
   refine aC rfl rfl ⟨_,_,A,W,N,w,_,e0,rfl,rfl,dM,hA,w8,bW,bA,by omega,fun st3 X3=>?_⟩
   have e:Mx.cN W A (List.replicate w 0)=F.getD i []:=by
    refine Mx.wa (Mx.oi (by simp) hA.iV) lw fun j hj=>?_
    rw[Mx.pV (n:=w) j (by simp) hA.iV (by omega),Mx.dQ,Int.zero_add,lA]
    exact hs j hj
   rw[e]
   refine nt Ae ?_
   refine aC rfl rfl (dA rfl (dA rfl (CV (by rw[List.length_map,List.length_map,lW,lA]) ?_)))
   exact next _ _ ⟨i+1,_,_,him,rfl,rfl,B.trans (B2.ext X3)⟩
noncomputable def nQ:cp:=fun ds st K=>∃(w:Nat) (F:List (List Int)),ds=[.tup [.int w,cz F]]∧F.length≤8∧K (.lst [.int w,FQ F]) st
noncomputable def ke:List Str:=["_law_one"]
noncomputable def zy:DS:=(ba (nG (af (aq aM (ae 0) (dC (.int 0))) (af (dG (eH (aq aM (ae 0) (dC (.int 1)))) [none] (bJ 0) cQ (bp i7 (af (ae 0) ak))) ak))))
theorem xq:∀ds st K,nQ ds st K→ds.length=1∧zy {nx:=fun _ st'=>K .aK st',rt:=K} (aT ke ds) st:=by
 rintro ds st K ⟨w,F,rfl,hl,k⟩
 refine⟨rfl,?_⟩
 refine aC rfl rfl (aC rfl rfl (fu ⟨cE (by rw[List.length_map];omega),?_⟩))
 refine gH a9 trivial bT.tup (fun d q _ he K' t=>⟨_,rfl,jL he t⟩) ?_
 exact⟨Nat.le_of_ble_eq_true rfl,k⟩
noncomputable abbrev F0:cp:=D8 KS
noncomputable def xR:List Str:=["_law_script","_law_hand_here","_law_wide","_law_great","_law_one","_law_far","_law_rows_here","_law_found","_law_made","_law_told","_law_units","_law_end","_law_more","_law_handed","_law_both"]
noncomputable def LM:DS:=(aH (bg 1 (aE pF (af (ae 0) ak)))
 (aH (E3 (je 2 3) (aE oU (af (ae 1) ak)))
 (aH (bg 4 (aE sd (af (ae 2) (af (aE j8 (af (ae 1) (af (aE pN (af (ae 1) (af (ae 2) (af (ae 3) ak)))) (af (ae 2) ak)))) ak))))
 (aH (bg 5 (aq aM (nG (af (aq eh (dC (.int 1)) (aE cx (af (ae 1) (af (dC (.int 4)) ak)))) (af (aq eh (dC (.int 1)) (aE cx (af (ae 1) (af (dC (.int 8)) ak)))) ak))) (bp tM (af (ae 3) ak))))
 (aH (bg 6 (aE j8 (af (ae 1) (af (ae 2) (af (ae 5) ak)))))
 (aH (bg 7 (aE iF (af (ae 4) (af (ae 6) ak))))
 (aH (bg 8 (aE i8 (af (aq aM (ae 4) (dC (.int 1))) (af (ae 6) (af (ae 5) ak)))))
 (aH (d7 (js (j4 (a5 (aE kn (af (ae 7) (af (ae 5) ak))))) (j4 (a5 (bp uc (af (dG (eH (ae 8)) [none,some 7] (bJ 0) cQ (aE uh (af (aq aM (ae 1) (dC (.int 1))) (af (ae 0) ak)))) ak))))) (ba (dC (.bl false))) cU)
 (aH (d7 (a5 (aq nY (bp d9 (af (ae 8) ak)) (dC (.int 0)))) (aH (bg 9 (aE lV (af (aq aM (ae 4) (dC (.int 1))) (af (ae 6) ak))))
 (d7 (js (a5 (aq nJ (ae 9) (ae 8))) (j4 (a5 (aE kO (af (aq aM (ae 7) (dC (.int 1))) (af (ae 9) (af (ae 5) ak))))))) (ba (dC (.bl false))) cU)) cU)
 (aH (bg 10 (bp dB (af (dG (eF (af (ae 2) ak)) [none,some 2] (bJ 0) cQ (bp dB (af (dG (eF (af (ae 1) ak)) [none,some 0] (bJ 0) cQ (bp tM (af (aq iW (ae 1) (ae 0)) ak))) ak))) ak)))
 (aH (bg 11 (aq eh (dC (.int 1)) (aE cx (af (ae 1) (af (dC (.int 4)) ak)))))
 (aH (bg 12 (aE j8 (af (ae 1) (af (ae 5) (af (ae 11) ak)))))
 (aH (bg 13 (dG (eH (ae 6)) [none] (bJ 0) cQ (bp i7 (af (ae 0) ak))))
 (aH (d7 (js (a5 (aq nJ (aE iF (af (ae 4) (af (ae 10) ak))) (ae 4))) (a5 (aq nJ (aE iF (af (aE nQ (af (ae 4) ak)) (af (ae 13) ak))) (ae 7)))) (ba (dC (.bl false))) cU)
 (aH (d7 (a5 (aq nJ (ae 13) (dG (eH (ae 6)) [none] (bJ 0) cQ (bp i7 (af (ae 0) ak))))) (ba (dC (.bl false))) cU)
 (aH (bg 14 (aE lV (af (ae 6) (af (ae 12) ak))))
 (ba (xQ (aq iW (ae 14) (aE i8 (af (ae 6) (af (ae 12) (af (ae 11) ak))))) (aq iW (aE iF (af (ae 7) (af (ae 12) ak))) (aE iF (af (ae 4) (af (ae 14) ak))))))))))))))))))))))
theorem nK{w:Nat}{F:List (List Int)}:pl 40 (.tup [.int (w:Int),cz F])=true:=by
 have:=nr (n:=37) (A:=F)
 unfold pl
 rw[List.all_cons,List.all_cons,this]
 rfl
noncomputable abbrev Rc(N e0 t:Nat):Prop:=Mx.Ez N e0 (t+1)<60000000∧Mx.Uz N e0 t+Mx.Ez N e0 (t+1)≤120000000∧Mx.Uz N e0 t+Mx.Cz N e0 t≤120000000
theorem Of:∀N,N<9→∀t,t<N→Rc N 48 t:=by decide+kernel
theorem LN:∀N,N<5→∀t,t<N→Rc N 442 t:=by decide+kernel
theorem MB:∀N,N<5→∀t,t<N→Rc N 402 t:=by decide+kernel
theorem MN:∀N,N<5→∀t,t<N→Rc N 485 t:=by decide+kernel
theorem MF:∀N,N<9→∀t,t<5→Rc N 184 t:=by decide+kernel
theorem Ma:∀N,N<9→∀t,t<N→Rc N 149 t:=by decide+kernel
theorem FZ:∀N,N<9→∀t,t<N→Rc N 144 t:=by decide+kernel
theorem Gb:∀N,N<9→∀t,t<4→Rc N 227 t:=by decide+kernel
theorem Jy:∀N,N<9→∀t,t<4→Rc N 5043 t:=by decide+kernel
theorem N1:∀m,m<5→8*((9*1000000000000)^(m+1)*(9*1000000000000)^m)≤2^399:=by decide+kernel
theorem Oc:∀m,m<9→8*((9*30)^(m+1)*(9*30)^m)≤2^141:=by decide+kernel
theorem N9:∀m,m<5→8*((9*2^442)^(m+1)*(9*2^442)^m)≤2^5000:=by decide+kernel
theorem Om:∀m,m<6→8*((9*2^184)^(m+1)*(9*2^184)^m)≤2^5000:=by decide+kernel
theorem Oz:∀m,m<9→8*((9*2^149)^(m+1)*(9*2^149)^m)≤2^5000:=by decide+kernel
theorem xZ{F:List (List Int)}{m w:Nat}{ld:Nat→Nat}(s:Mx.cD F m w ld):m≤w:=by
 have go:∀i,i<m→i≤ld i:=fun i=>by
  induction i with
  |zero=>intro _;exact Nat.zero_le _
  |succ i ih=>
   intro h
   have:=ih (by omega)
   have:=s.mono i (i+1) (by omega) h
   omega
 rcases Nat.eq_zero_or_pos m with z|z
 · omega
 · have h1:=go (m-1) (by omega)
   have h2:=(s.lead (m-1) (by omega)).1
   omega
theorem Hj{w:Nat}:∀r∈Mx.units w,∀x∈r,x.natAbs≤2^0:=fun r hr x hx=>by
 unfold Mx.units at hr
 obtain⟨i,_,rfl⟩:=List.mem_map.mp hr
 unfold Mx.fw at hx
 obtain⟨k,_,rfl⟩:=List.mem_map.mp hx
 unfold Mx.dl
 split<;>decide
theorem qL{A:List (List Int)}{N w M:Nat}(hA:Mx.bY N w A)(h:∀i c,i<N→c<w→(Mx.g A i c).natAbs≤M):∀r∈A,∀x∈r,x.natAbs≤M:=fun r hr x hx=>by
 obtain⟨i,hi,rfl⟩:=List.mem_iff_getElem.mp hr
 obtain⟨c,hc,rfl⟩:=List.mem_iff_getElem.mp hx
 have lA:=hA.len
 have lw:=hA.iV _ hr
 have:=h i c (by omega) (by omega)
 unfold Mx.g at this
 rwa [Mx.bf hi,Mx.bf hc]at this
theorem ur{A:List (List Int)}{M M':Nat}(h:∀r∈A,∀x∈r,x.natAbs≤M)(l:M≤M'):∀r∈A,∀x∈r,x.natAbs≤M':=fun r hr x hx=>Nat.le_trans (h r hr x hx) l
theorem Wf.bd{F:List (List Int)}{m w:Nat}(h:Wf F m w):∀r∈F,∀x∈r,x.natAbs≤2^5000:=qL h.is h.sm
structure Bw(F B:List (List Int))(m w far a b:Nat):Prop where
 bF:∀r∈F,∀x∈r,x.natAbs≤2^a
 bB:∀r∈B,∀x∈r,x.natAbs≤2^b
 ab:a+b≤500
 rm:Mx.Rm m far (a+b+3)
 wf:∀G k,Fo (Mx.mulM F B far) m far G k→Wf G k far
 ru:Mx.Rm m w (a+0+3)
 re:∀e,e≤4→Mx.Rm m e (a+83+3)
theorem MA{A F B:List (List Int)}{N m w far:Nat}{gr:Bool}(hA:Mx.bY N w A)(bA:∀r∈A,∀x∈r,x.natAbs≤1000000000000)(bA':5<w→∀r∈A,∀x∈r,x.natAbs≤30)(fo:Fo A N w F m)(hB:Mx.bY w far B)(bB:∀r∈B,∀x∈r,x.natAbs≤1000000000000)(bB':5<far→∀r∈B,∀x∈r,x.natAbs≤30)(w8:w≤8)(f8:far≤8)(hg:gr=true→6≤w)(hg':gr=false→w≤4)(hf:gr=false→far≤4):∃a b,Bw F B m w far a b:=by
 have mw:=xZ fo.st
 have m8:=fo.m8
 have b40:∀r∈B,∀x∈r,x.natAbs≤2^40:=ur bB (by decide)
 have wfG:∀ {a b:Nat},(∀r∈F,∀x∈r,x.natAbs≤2^a)→(∀r∈B,∀x∈r,x.natAbs≤2^b)→(∀k,k≤far→k≤8→8*((9*2^(a+b+3))^(k+1)*(9*2^(a+b+3))^k)≤2^5000)→∀G k,Fo (Mx.mulM F B far) m far G k→Wf G k far:=fun{a b} h1 h2 h3 G k f=>f.wf f8 (Nat.pow_pos (by decide)) (Mx.qk fo.is hB w8 (ma fo.is h1) (ma hB h2)) (h3 k (xZ f.st) f.m8)
 cases gr with
 |false=>
  have w4:=hg' rfl
  have f4:=hf rfl
  have bF:∀r∈F,∀x∈r,x.natAbs≤2^399:=qL fo.is fun k c hk hc=>Nat.le_trans (Mx.yd m8 (by decide) (ma hA bA) fo.st fo.red fo.same k c hk hc) (N1 m (by omega))
  exact⟨399,40,bF,b40,by decide,fun t h1 _=>LN m (by omega) t h1,wfG bF b40 fun k h1 _=>N9 k (by omega),fun t h1 _=>MB m (by omega) t h1,fun e _ t h1 _=>MN m (by omega) t h1⟩
 |true=>
  have w6:=hg rfl
  have bF:∀r∈F,∀x∈r,x.natAbs≤2^141:=qL fo.is fun k c hk hc=>Nat.le_trans (Mx.yd m8 (by decide) (ma hA (bA' (by omega))) fo.st fo.red fo.same k c hk hc) (Oc m (by omega))
  by_cases h5:5<far
  · have b5:∀r∈B,∀x∈r,x.natAbs≤2^5:=ur (bB' h5) (by decide)
    exact⟨141,5,bF,b5,by decide,fun t h1 _=>Ma m (by omega) t h1,wfG bF b5 fun k _ h2=>Oz k (by omega),fun t h1 _=>FZ m (by omega) t h1,fun e he t _ h2=>Gb m (by omega) t (by omega)⟩
  · exact⟨141,40,bF,b40,by decide,fun t _ h2=>MF m (by omega) t (by omega),wfG bF b40 fun k h1 _=>Om k (by omega),fun t h1 _=>FZ m (by omega) t h1,fun e he t _ h2=>Gb m (by omega) t (by omega)⟩
theorem Kk:∀ds st K,F0 ds st K→ds.length=1∧LM {nx:=fun _ st'=>K .aK st',rt:=K} (aT xR ds) st:=by
 rintro ds st K ⟨ns,rfl,hl,hst,k⟩
 refine⟨rfl,?_⟩
 have l0:st.length=1:=by rw[hst];rfl
 have t0:st[0]?=some (fk false):=by rw[hst];rfl
 clear hst
 refine⟨ns,rfl,hl,fun st1 B1 X1=>?_⟩
 have t1:st1[0]?=some (fk false):=by rw[X1.same 0 (by omega)];exact t0
 have nz:st.length≠0:=by omega
 refine⟨_,_,rfl,B1,by decide,by decide,fun w gr st2 w1 w8 hg hg' B2 U2=>⟨_,rfl,?_⟩⟩
 refine⟨_,_,w,gr,rfl,B2,by decide,by decide,w1,w8,hg',fun N st3 n8 B3 U3=>?_⟩
 refine⟨_,_,N,w,rfl,B3,by decide,by decide,n8,w8,fun A st4 hA bA bA' B4 U4=>?_⟩
 have t4:st4[0]?=some (fk false):=by rw[U4.same 0 (Ne.symm nz),U3.same 0 (Ne.symm nz),U2.same 0 (Ne.symm nz)];exact t1
 clear B1 B2 B3 U2 U3 U4 t1 t0 X1
 refine⟨_,A,N,w,48,_,rfl,dM,hA,n8,w8,vX hA (ma hA (ur bA (by decide))),by decide,fun t h1 _=>Of N (by omega) t h1,t4,fun st5 F m K5 fo=>?_⟩
 obtain⟨f5,t5⟩:=K5.tb
 have B5:=B4.cell (K5.fr _ B4.lt nz)
 clear B4 K5 t4
 refine⟨_,4,_,rfl,B5,by decide,by decide,by decide,by decide,fun y1 st6 y0 y4 B6 U6=>eJ ?_⟩
 refine⟨_,8,_,rfl,B6,by decide,by decide,by decide,by decide,fun y2 st7 z0 z8 B7 U7=>eJ ⟨Nat.le_of_ble_eq_true rfl,rP ?_⟩⟩
 have t7:st7[0]?=some (fk f5):=by rw[U7.same 0 (Ne.symm nz),U6.same 0 (Ne.symm nz)];exact t5
 obtain⟨far,ef,f1,f8,hf⟩:∃far:Nat,dZ [D.int (1+y1),.int (1+y2)] (if gr=true then 1 else 0)=some (.int (far:Int))∧1≤far∧far≤8∧(gr=false→far≤4):=by
  obtain⟨p,rfl⟩:=Int.eq_ofNat_of_zero_le y0
  obtain⟨q,rfl⟩:=Int.eq_ofNat_of_zero_le z0
  cases gr with
  |false=>exact⟨1+p,rfl,by omega,by omega,fun _=>by omega⟩
  |true=>exact⟨1+q,rfl,by omega,by omega,fun z=>by cases z⟩
 refine aC rfl ef ?_
 clear ef y0 y4 z0 z8 B5 B6 U6 U7 t5
 refine⟨_,_,w,far,rfl,B7,by decide,by decide,w8,f8,fun B st8 hB bB bB' B8 U8=>?_⟩
 have t8:=(U8.same 0 (Ne.symm nz)).trans t7
 obtain⟨a,b,W⟩:=MA (gr:=gr) hA bA bA' fo hB bB bB' w8 f8 hg hg' hf
 have ab:=W.ab
 have m8:=fo.m8
 clear B7 U8 t7
 refine⟨_,_,_,F,B,m,w,far,a,b,_,rfl,rfl,dM,dM,fo.is,hB,w1,m8,w8,f8,W.bF,W.bB,by omega,W.rm,t8,fun st9 G kk K9 fo2=>?_⟩
 have hW:=W.wf G kk fo2
 obtain⟨f9,t9⟩:=K9.tb
 have B9:=B8.cell (K9.fr _ B8.lt nz)
 have isM:=Mx.gj fo.is hB
 have bM:∀r∈Mx.mulM F B far,∀x∈r,x.natAbs≤2^(a+b+3):=qL isM (Mx.qk fo.is hB w8 (ma fo.is W.bF) (ma hB W.bB))
 have lM:=isM.len
 clear B8 K9 t8
 refine aC rfl rfl ⟨F,B,m,w,far,a,b,rfl,fo.is,hB,m8,f8,W.bF,W.bB,by omega,fun st10 X10=>?_⟩
 have t10:=(X10.same 0 (List.getElem?_eq_some_iff.mp t9).1).trans t9
 have B10:=B9.cell (X10.same _ B9.lt)
 refine⟨G,kk,far,rfl,hW,fo2.red,?_⟩
 refine fu ⟨cE (by rw[List.length_map];omega),?_⟩
 refine f6 (fun rest acc st'=>∃i:Nat,i≤m∧rest=((Mx.mulM F B far).map cu).drop i∧acc=(List.range i).map (fun _=>D.bl true)∧Ext st10 st') ?_ ?_ _ _ _ ⟨0,Nat.zero_le _,rfl,rfl,Ext.refl⟩
 rotate_left 1
 · rintro d rest acc st' ⟨i,hi,hrest,rfl,X⟩ next
   obtain⟨hiA,rfl,rfl⟩:=drop_cons hrest
   have hmem:(Mx.mulM F B far).getD i []∈Mx.mulM F B far:=by rw[Mx.bf hiA];exact List.getElem_mem _
   have lw:=isM.iV _ hmem
   refine⟨trivial,_,rfl,aC rfl rfl ⟨_,G,(Mx.mulM F B far).getD i [],kk,far,a+b+3,rfl,hW,rfl,lw,fun c hc=>bM _ hmem _ (getD_mem (by omega)),by omega,fo2.same.to i (by omega),fun st6 X6=>?_⟩⟩
   show dg _ _ _ _ _ _ _ _ _
   exact next _ _ ⟨i+1,by omega,rfl,by rw[List.range_succ,List.map_append];rfl,X.trans X6⟩
 rintro acc st11 ⟨i,hi,hrest,rfl,X11⟩
 have ball:∀l:List Nat,i0 (l.map fun _=>D.bl true)=some (l.map fun _=>true):=fun l=>by
  induction l with
  |nil=>rfl
  |cons a l ih=>rw[List.map_cons,List.map_cons];unfold i0;rw[ih];rfl
 refine⟨trivial,zj (ball _) ?_⟩
 have ea:((List.range i).map fun _=>true).all id=true:=by simp
 rw[ea]
 have t11:=(X11.same 0 (List.getElem?_eq_some_iff.mp t10).1).trans t10
 have B11:=B10.cell (X11.same _ B10.lt)
 clear t9 B9 t10 B10 X10 hrest
 dsimp only[cU,Bool.not_true,Bool.false_eq_true,if_false]
 refine m7 (A:=d7 _ _ _) (fun σ' st12=>∃(v9:Option D) (f12:Bool),σ'=[some (.lst (ns.map .int)),some (.ref st.length),some (.int w),some (.bl gr),some (.tup [.int w,cz F]),some (.int far),some (cz B),some (.tup [.int far,cz G]),some (cz (Mx.mulM F B far)),v9,none,none,none,none,none]∧st12[0]?=some (fk f12)∧Hd st12 st.length 1000) (fun nx hnx=>?_) ?_
 · refine dA rfl ?_
   rw[List.length_map,lM]
   refine Av (fun h=>fX ?_) fun h=>hnx _ _ ⟨_,f9,rfl,t11,B11.mono (by decide)⟩
   have lB:=hB.len
   refine aC rfl rfl ⟨_,_,far,F,B,rfl,dM,dM,fun z=>by rw[z]at lB;simp at lB;omega,hB.iV,by omega,by rw[fo.is.len];omega,fun r hr c hc q hq z hz=>fO (W.bF r hr c hc) (W.bB q hq z hz) (by omega),?_⟩
   refine nt nr ?_
   refine aC rfl rfl ⟨G,Mx.mulM F B far,m,kk,far,a+b+3,_,rfl,isM,m8,f8,bM,by omega,W.rm,fo2,hW,t11,fun st12 K12=>?_⟩
   obtain⟨f12,t12⟩:=K12.tb
   exact hnx _ _ ⟨_,f12,rfl,t12,(B11.cell (K12.fr _ B11.lt nz)).mono (by decide)⟩
 clear B11 t11 X11
 rintro σ' st12 ⟨v9,f12,rfl,t12,B12⟩
 refine fx ⟨by omega,by omega⟩ ⟨cE (by rw[dR];omega),?_⟩
 rw[Int.toNat_natCast]
 refine jZ (fun i=>cu (Mx.fw w i)) w (fun i hi K' q=>⟨_,rfl,?_⟩) ?_
 · refine fx ⟨by omega,by omega⟩ ⟨cE (by rw[dR];omega),?_⟩
   rw[Int.toNat_natCast]
   refine jZ (fun j=> .int (Mx.dl j i)) w (fun j hj K2 q2=>⟨_,rfl,?_⟩) ?_
   · refine eq2 (fun h=>rP ?_) fun h=>rP ?_
     · have:j=i:=by omega
       subst this
       rw[Mx.eG]at q2;exact q2
     · rw[Mx.e7 (by omega)]at q2;exact q2
   · have:(List.range w).map (fun j=>D.int (Mx.dl j i))=aG (Mx.fw w i):=by unfold Mx.fw aG;rw[List.map_map];rfl
     rw[this]
     exact de rfl q
 have eu:(List.range w).map (fun i=>cu (Mx.fw w i))=(Mx.units w).map cu:=by unfold Mx.units;rw[List.map_map];rfl
 rw[eu]
 refine de rfl ?_
 refine⟨_,4,_,rfl,B12,by decide,by decide,by decide,by decide,fun y1 st13 y0 y4 B13 U13=>eJ ?_⟩
 obtain⟨p,rfl⟩:=Int.eq_ofNat_of_zero_le y0
 have ee:∃e:Nat,(1:Int)+(p:Int)=(e:Int)∧1≤e∧e≤4:=⟨1+p,by omega,by omega,by omega⟩
 obtain⟨e,he,e1,e4⟩:=ee
 rw[he]
 have t13:=(U13.same 0 (Ne.symm nz)).trans t12
 clear he y0 y4 B12 U13 t12 eu
 refine⟨_,_,far,e,rfl,B13,by decide,by decide,f8,by omega,fun C st14 hC bC _ B14 U14=>?_⟩
 have t14:=(U14.same 0 (Ne.symm nz)).trans t13
 have lB:=hB.len
 have bC40:∀r∈C,∀x∈r,x.natAbs≤2^40:=ur bC (by decide)
 have bB40:∀r∈B,∀x∈r,x.natAbs≤2^40:=ur bB (by decide)
 clear B13 U14 t13
 refine fu ⟨cE (by rw[List.length_map];omega),?_⟩
 refine gH a9 trivial bT.tup (fun d q _ he K' t=>⟨_,rfl,jL he t⟩) ?_
 refine⟨_,_,_,F,Mx.units w,m,w,w,a,0,_,rfl,rfl,dM,dM,fo.is,Mx.kF w,w1,m8,w8,w8,W.bF,Hj,by omega,W.ru,t14,fun st15 F3 k3 K15 fo3=>?_⟩
 have e3:F3=F:=by
  rw[Mx.zU fo.is]at fo3
  exact fo3.one fo fo.same.symm
 subst e3
 obtain⟨f15,t15⟩:=K15.tb
 refine nt nK ?_
 refine⟨w,F3,rfl,by rw[fo.is.len];exact m8,?_⟩
 refine⟨_,_,_,F3,B,m,w,far,a,b,_,rfl,rfl,⟨_,rfl,bT.lst⟩,⟨_,rfl,bT.lst⟩,fo.is,hB,w1,m8,w8,f8,W.bF,W.bB,by omega,W.rm,t15,fun st16 G2 k4 K16 fo4=>?_⟩
 have e5:G2=G:=fo4.one fo2 (Mx.fJ.refl _ _ _)
 subst e5
 obtain⟨f16,t16⟩:=K16.tb
 refine nt nK ?_
 refine fu ⟨cE (by rw[List.length_map];omega),?_⟩
 refine gH a9 trivial bT.tup (fun d q _ he K' t=>⟨_,rfl,jL he t⟩) ?_
 refine nt Ff ?_
 have lC:=hC.len
 refine⟨_,_,e,B,C,rfl,dM,dM,fun z=>by rw[z]at lC;simp at lC;omega,hC.iV,by omega,by omega,fun r hr c hc q hq z hz=>fO (bB40 r hr c hc) (bC40 q hq z hz) (by decide),?_⟩
 refine⟨B,C,w,far,e,40,40,rfl,hB,hC,w8,by omega,bB40,bC40,by decide,fun st17 X17=>?_⟩
 have t17:=(X17.same 0 (List.getElem?_eq_some_iff.mp t16).1).trans t16
 refine xN nr nr ?_
 rw[nv 40 _ nr]
 refine fX ?_
 refine⟨_,_,_,G2,C,k4,far,e,5000,40,_,rfl,rfl,dM,dM,fo4.is,hC,f1,fo4.m8,f8,by omega,hW.bd,bC40,by decide,fun t h1 h2=>Jy k4 (by have:=fo4.m8;omega) t (by omega),t17,fun st18 H1 h1 K18 fo5=>?_⟩
 obtain⟨f18,t18⟩:=K18.tb
 have isBC:=Mx.gj hB hC
 refine⟨_,_,_,F3,Mx.mulM B C e,m,w,e,a,83,_,rfl,rfl,dM,dM,fo.is,isBC,w1,m8,w8,by omega,W.bF,qL isBC (Mx.qk hB hC f8 (ma hB bB40) (ma hC bC40)),by omega,W.re e e4,t18,fun st19 H2 h2 K19 fo6=>?_⟩
 have e6:H1=H2:=by
  refine fo5.one fo6 ?_
  rw[←Mx.By fo.is hB hC]
  exact(Mx.fJ.N0 isM fo4.is hC fo4.same).symm
 subst e6
 refine xN nK nK ?_
 rw[nv 40 _ nK]
 exact k _
end Prog
namespace Row
open PySem L2 L3 Prog
open PySem.Spec hiding items?
open PyProof.Rows hiding St
theorem nC:(("abs":Str))≠"__name__":=by decide+kernel
theorem cB:(("tuple":Str))≠"__name__":=by decide+kernel
theorem c6:(("len":Str))≠"__name__":=by decide+kernel
theorem gX:(("list":Str))≠"__name__":=by decide+kernel
theorem Du:(("sum":Str))≠"__name__":=by decide+kernel
theorem qP:(("int":Str))≠"__name__":=by decide+kernel
theorem Js:(("max":Str))≠"__name__":=by decide+kernel
theorem Lm:(("min":Str))≠"__name__":=by decide+kernel
theorem La:(("any":Str))≠"__name__":=by decide+kernel
theorem yA:(("all":Str))≠"__name__":=by decide+kernel
theorem fe:(("isinstance":Str))≠"__name__":=by decide+kernel
theorem AO:(("bool":Str))≠"__name__":=by decide+kernel
structure Bl(mg:Str→Option Value):Prop where
 pX:mg "abs"=none
 cW:mg "tuple"=none
 xr:mg "zip"=none
 d5:mg "len"=none
 eK:mg "range"=none
 sQ:mg "enumerate"=none
 iY:mg "list"=none
 EZ:mg "sorted"=none
 Gh:mg "sum"=none
 vc:mg "int"=none
 Mp:mg "max"=none
 L6:mg "min"=none
 L4:mg "any"=none
 A8:mg "all"=none
 fD:mg "isinstance"=none
 DH:mg "bool"=none
structure Kl(K:PySem.W.Frag)(mg:Str→Option Value):Prop where
 aX:ClsAt K mg "Bench" aB
 bZ:fQ K aB "body"
 eA:fQ K aB "turn"
 ck:fQ K aB "back_columns"
theorem c_:VS (ai ki) qc ["abs"]:=⟨by decide+kernel⟩
theorem jH:aO qc ["one","other"] (ai ki):=⟨rfl,rfl,rfl,by decide+kernel,rfl,by decide+kernel,by decide+kernel⟩
theorem gO:VS (ai o4) uP ["common"]:=⟨by decide+kernel⟩
theorem kB:aO uP ["top","bottom"] (ai o4):=⟨rfl,rfl,rfl,by decide+kernel,rfl,by decide+kernel,by decide+kernel⟩
theorem lS:VS (ai o3) uI ["part"]:=⟨by decide+kernel⟩
theorem Iw:aO uI ["one","other"] (ai o3):=⟨rfl,rfl,rfl,by decide+kernel,rfl,by decide+kernel,by decide+kernel⟩
theorem jI:VS (ai mY) rQ ["part"]:=⟨by decide+kernel⟩
theorem ED:aO rQ ["one","other"] (ai mY):=⟨rfl,rfl,rfl,by decide+kernel,rfl,by decide+kernel,by decide+kernel⟩
theorem m9:VS (ai mX) rW ["part"]:=⟨by decide+kernel⟩
theorem EK:aO rW ["one","other"] (ai mX):=⟨rfl,rfl,rfl,by decide+kernel,rfl,by decide+kernel,by decide+kernel⟩
theorem pk:VS (ai pq) uk ["part"]:=⟨by decide+kernel⟩
theorem H0:aO uk ["one","other"] (ai pq):=⟨rfl,rfl,rfl,by decide+kernel,rfl,by decide+kernel,by decide+kernel⟩
theorem Hv:VS (ai m5) sr []:=⟨by decide+kernel⟩
theorem EA:aO sr ["n"] (ai m5):=⟨rfl,rfl,rfl,by decide+kernel,rfl,by decide+kernel,by decide+kernel⟩
theorem qW:VS (ai iu) oj ["tuple"]:=⟨by decide+kernel⟩
theorem BA:aO oj ["rows"] (ai iu):=⟨rfl,rfl,rfl,by decide+kernel,rfl,by decide+kernel,by decide+kernel⟩
theorem vn:VS (ai kq) si ["zip"]:=⟨by decide+kernel⟩
theorem Fs:aO si ["row","times","other"] (ai kq):=⟨rfl,rfl,rfl,by decide+kernel,rfl,by decide+kernel,by decide+kernel⟩
theorem eC:VS (ai kP) ql ["zip","added","tuple"]:=⟨by decide+kernel⟩
theorem nR:aO ql ["weights","rows","wide"] (ai kP):=⟨rfl,rfl,rfl,by decide+kernel,rfl,by decide+kernel,by decide+kernel⟩
theorem ir:VS (ai iz) nZ ["len","tuple"]:=⟨by decide+kernel⟩
theorem uv:aO nZ ["one","other"] (ai iz):=⟨rfl,rfl,rfl,by decide+kernel,rfl,by decide+kernel,by decide+kernel⟩
theorem uj:VS (ai ju) pW ["tuple"]:=⟨by decide+kernel⟩
theorem CL:aO pW ["rows","place"] (ai ju):=⟨rfl,rfl,rfl,by decide+kernel,rfl,by decide+kernel,by decide+kernel⟩
theorem jb:VS (ai e_) i9 ["range","tuple"]:=⟨by decide+kernel⟩
theorem vP:aO i9 ["rows","wide"] (ai e_):=⟨rfl,rfl,rfl,by decide+kernel,rfl,by decide+kernel,by decide+kernel⟩
theorem mB:VS (ai gG) mD ["range","tuple"]:=⟨by decide+kernel⟩
theorem zO:aO mD ["n","place"] (ai gG):=⟨rfl,rfl,rfl,by decide+kernel,rfl,by decide+kernel,by decide+kernel⟩
theorem k6:VS (ai fZ) la ["range","tuple"]:=⟨by decide+kernel⟩
theorem x6:aO la ["n"] (ai fZ):=⟨rfl,rfl,rfl,by decide+kernel,rfl,by decide+kernel,by decide+kernel⟩
theorem om:VS (ai jy) nW ["enumerate"]:=⟨by decide+kernel⟩
theorem uO:aO nW ["row"] (ai jy):=⟨rfl,rfl,rfl,by decide+kernel,rfl,by decide+kernel,by decide+kernel⟩
theorem ij:VS (ai dW) fW []:=⟨by decide+kernel⟩
theorem g6:aO fW ["top","bottom"] (ai dW):=⟨rfl,rfl,rfl,by decide+kernel,rfl,by decide+kernel,by decide+kernel⟩
theorem cV:VS (ai gZ) kY ["list"]:=⟨by decide+kernel⟩
theorem rD:aO kY ["rows","k","other"] (ai gZ):=⟨rfl,rfl,rfl,by decide+kernel,rfl,by decide+kernel,by decide+kernel⟩
theorem DV:VS (ai ia) nU []:=⟨by decide+kernel⟩
theorem Bh:aO nU ["row"] (ai ia):=⟨rfl,rfl,rfl,by decide+kernel,rfl,by decide+kernel,by decide+kernel⟩
theorem bI:VS (ai cM) gE ["len","unit_rows"]:=⟨by decide+kernel⟩
theorem sE:aO gE ["self","rows"] (ai cM):=⟨rfl,rfl,rfl,by decide+kernel,rfl,by decide+kernel,by decide+kernel⟩
theorem aV:VS (ai gw) jX ["added"]:=⟨by decide+kernel⟩
theorem xk:aO jX ["self","k","times","other"] (ai gw):=⟨rfl,rfl,rfl,by decide+kernel,rfl,by decide+kernel,by decide+kernel⟩
theorem a6:VS (ai eL) gI ["exchanged"]:=⟨by decide+kernel⟩
theorem sA:aO gI ["self","k","other"] (ai eL):=⟨rfl,rfl,rfl,by decide+kernel,rfl,by decide+kernel,by decide+kernel⟩
theorem aQ:VS (ai dN) fI ["negated"]:=⟨by decide+kernel⟩
theorem pR:aO fI ["self","k"] (ai dN):=⟨rfl,rfl,rfl,by decide+kernel,rfl,by decide+kernel,by decide+kernel⟩
theorem cY:VS (ai cX) gg ["len","range","sorted"]:=⟨by decide+kernel⟩
theorem ly:aO gg ["self","top","place"] (ai cX):=⟨rfl,rfl,rfl,by decide+kernel,rfl,by decide+kernel,by decide+kernel⟩
theorem aA:VS (ai fv) iM ["len","nearest_quotient"]:=⟨by decide+kernel⟩
theorem fU:aO iM ["self","top","place"] (ai fv):=⟨rfl,rfl,rfl,by decide+kernel,rfl,by decide+kernel,by decide+kernel⟩
theorem bS:VS (ai dJ) fH ["range"]:=⟨by decide+kernel⟩
theorem fi:aO fH ["self","top","place"] (ai dJ):=⟨rfl,rfl,rfl,by decide+kernel,rfl,by decide+kernel,by decide+kernel⟩
theorem aY:VS (ai iJ) mG ["Bench","len","range","turned_over","as_rows"]:=⟨by decide+kernel⟩
theorem g0:aO mG ["rows"] (ai iJ):=⟨rfl,rfl,rfl,by decide+kernel,rfl,by decide+kernel,by decide+kernel⟩
theorem bo:VS (ai jA) oB ["list","lead_of","added","tuple"]:=⟨by decide+kernel⟩
theorem gM:aO oB ["form","row"] (ai jA):=⟨rfl,rfl,rfl,by decide+kernel,rfl,by decide+kernel,by decide+kernel⟩
theorem cn:VS (ai gW) kU ["whole","zip","times","plus"]:=⟨by decide+kernel⟩
theorem jU:aO kU ["parts","row"] (ai gW):=⟨rfl,rfl,rfl,by decide+kernel,rfl,by decide+kernel,by decide+kernel⟩
theorem dP:VS (ai g4) lg ["lead_of","abs"]:=⟨by decide+kernel⟩
theorem q_:aO lg ["form","rest","place"] (ai g4):=⟨rfl,rfl,rfl,by decide+kernel,rfl,by decide+kernel,by decide+kernel⟩
theorem au:VS (ai e9) h7 ["lead_of","whole","len","bottom_at","part","range","parts_dot","minus","over","tuple"]:=⟨by decide+kernel⟩
theorem eP:aO h7 ["form","rest"] (ai e9):=⟨rfl,rfl,rfl,by decide+kernel,rfl,by decide+kernel,by decide+kernel⟩
theorem bQ:VS (ai kQ) pZ ["standing","weighed","lead_of","parts_against","len","sum_by"]:=⟨by decide+kernel⟩
theorem nV:aO pZ ["rows","row"] (ai kQ):=⟨rfl,rfl,rfl,by decide+kernel,rfl,by decide+kernel,by decide+kernel⟩
theorem kv:VS (ai mW) r_ ["len","standing"]:=⟨by decide+kernel⟩
theorem FI:aO r_ ["wide","rows"] (ai mW):=⟨rfl,rfl,rfl,by decide+kernel,rfl,by decide+kernel,by decide+kernel⟩
theorem fT:VS (ai jF) oo ["product","len","space"]:=⟨by decide+kernel⟩
theorem BG:aO oo ["one","rows"] (ai jF):=⟨rfl,rfl,rfl,by decide+kernel,rfl,by decide+kernel,by decide+kernel⟩
theorem cL:VS (ai iQ) mL ["sum","abs","int","list"]:=⟨by decide+kernel⟩
theorem tu:aO mL ["_law_script"] (ai iQ):=⟨rfl,rfl,rfl,by decide+kernel,rfl,by decide+kernel,by decide+kernel⟩
theorem aI:VS (ai iI) mO ["len","abs","max","sum"]:=⟨by decide+kernel⟩
theorem i6:aO mO ["_law_hand_here","_law_many_here"] (ai iI):=⟨rfl,rfl,rfl,by decide+kernel,rfl,by decide+kernel,by decide+kernel⟩
theorem cy:VS (ai gq) jS ["_law_draw"]:=⟨by decide+kernel⟩
theorem xa:aO jS ["_law_hand_here","_law_wild"] (ai gq):=⟨rfl,rfl,rfl,by decide+kernel,rfl,by decide+kernel,by decide+kernel⟩
theorem dw:VS (ai gK) mK ["_law_draw","min","range","tuple"]:=⟨by decide+kernel⟩
theorem oR:aO mK ["_law_hand_here","_law_many_here","_law_wide"] (ai gK):=⟨rfl,rfl,rfl,by decide+kernel,rfl,by decide+kernel,by decide+kernel⟩
theorem eZ:VS (ai gT) kZ ["_law_draw"]:=⟨by decide+kernel⟩
theorem yM:aO kZ ["_law_hand_here"] (ai gT):=⟨rfl,rfl,rfl,by decide+kernel,rfl,by decide+kernel,by decide+kernel⟩
theorem eY:VS (ai iH) mN ["_law_draw"]:=⟨by decide+kernel⟩
theorem zL:aO mN ["_law_hand_here","_law_wide","_law_great"] (ai iH):=⟨rfl,rfl,rfl,by decide+kernel,rfl,by decide+kernel,by decide+kernel⟩
theorem aW:VS (ai fY) k_ ["list","len","range","tuple"]:=⟨by decide+kernel⟩
theorem gn:aO k_ ["_law_form","_law_row"] (ai fY):=⟨rfl,rfl,rfl,by decide+kernel,rfl,by decide+kernel,by decide+kernel⟩
theorem kR:VS (ai kJ) qb ["_law_falls","any"]:=⟨by decide+kernel⟩
theorem Cn:aO qb ["_law_form","_law_row"] (ai kJ):=⟨rfl,rfl,rfl,by decide+kernel,rfl,by decide+kernel,by decide+kernel⟩
theorem bK:VS (ai e8) j9 ["enumerate","len","range","all"]:=⟨by decide+kernel⟩
theorem gQ:aO j9 ["_law_rows_here"] (ai e8):=⟨rfl,rfl,rfl,by decide+kernel,rfl,by decide+kernel,by decide+kernel⟩
theorem ax:VS (ai eO) iP ["tuple","isinstance","len","int","bool","all","_law_stands"]:=⟨by decide+kernel⟩
theorem n_:aO iP ["_law_found","_law_wide"] (ai eO):=⟨rfl,rfl,rfl,by decide+kernel,rfl,by decide+kernel,by decide+kernel⟩
theorem cF:VS (ai jE) nX ["zip","range","tuple"]:=⟨by decide+kernel⟩
theorem mr:aO nX ["_law_weights","_law_rows_here","_law_wide"] (ai jE):=⟨rfl,rfl,rfl,by decide+kernel,rfl,by decide+kernel,by decide+kernel⟩
theorem md:VS (ai fb) ja ["tuple"]:=⟨by decide+kernel⟩
theorem vJ:aO ja ["_law_rows_here","_law_others","_law_wide"] (ai fb):=⟨rfl,rfl,rfl,by decide+kernel,rfl,by decide+kernel,by decide+kernel⟩
theorem a_:VS (ai ft) iL ["inside","_law_sum","len"]:=⟨by decide+kernel⟩
theorem kb:aO iL ["_law_rows_here","_law_others","_law_wide"] (ai ft):=⟨rfl,rfl,rfl,by decide+kernel,rfl,by decide+kernel,by decide+kernel⟩
theorem rf:VS (ai fE) ke []:=⟨by decide+kernel⟩
theorem xp:aO ke ["_law_one"] (ai fE):=⟨rfl,rfl,rfl,by decide+kernel,rfl,by decide+kernel,by decide+kernel⟩
theorem aw:VS (ai jd) xR ["_law_hand","_law_width","_law_many","_law_rows","space","_law_draw","int","carried","_law_product","_law_is_space","all","len","product","_law_all_sums","range","tuple","_law_listed"]:=⟨by decide+kernel⟩
theorem fV:aO xR ["_law_script"] (ai jd):=⟨rfl,rfl,rfl,by decide+kernel,rfl,by decide+kernel,by decide+kernel⟩
structure Ev(w:World)(mg:Str→Option Value)(h:Heap):Prop where
 X:(KX w.params).In h
 G:h.Ns mainGlobals mg
section
variable {w:World}{mg:Str→Option Value}{h base:Heap}(e:Ev w mg h)
include e
theorem Bt:Bl mg:=⟨PySem.W.mg_none_of e.X e.G (by kernel_rfl),PySem.W.mg_none_of e.X e.G (by kernel_rfl),PySem.W.mg_none_of e.X e.G (by kernel_rfl),PySem.W.mg_none_of e.X e.G (by kernel_rfl),PySem.W.mg_none_of e.X e.G (by kernel_rfl),PySem.W.mg_none_of e.X e.G (by kernel_rfl),PySem.W.mg_none_of e.X e.G (by kernel_rfl),PySem.W.mg_none_of e.X e.G (by kernel_rfl),PySem.W.mg_none_of e.X e.G (by kernel_rfl),PySem.W.mg_none_of e.X e.G (by kernel_rfl),PySem.W.mg_none_of e.X e.G (by kernel_rfl),PySem.W.mg_none_of e.X e.G (by kernel_rfl),PySem.W.mg_none_of e.X e.G (by kernel_rfl),PySem.W.mg_none_of e.X e.G (by kernel_rfl),PySem.W.mg_none_of e.X e.G (by kernel_rfl),PySem.W.mg_none_of e.X e.G (by kernel_rfl)⟩
theorem Qt:Kl (KX w.params) mg:=⟨⟨⟨by kernel_rfl,by kernel_rfl,by kernel_rfl,by kernel_rfl⟩,PySem.W.mg_of e.X e.G (by kernel_rfl),by kernel_rfl,by kernel_rfl⟩,Hd.na (by kernel_rfl),Hd.na (by kernel_rfl),Hd.na (by kernel_rfl)⟩
theorem yf:bG (KX w.params) mg "common" "common" ki ["one","other"] 21 (Hd.fd ki "common" "common" i3 20):=Hd.iS e.X e.G (by kernel_rfl) fun _ _ _ _ _ _ _ _=>rfl
theorem EX:a8 PW w (KX w.params) mg base cq 1 21 (Hd.fd ki "common" "common" i3 20) ["one","other"] (cv tX):=by
 have B:=Bt e
 have Q:=Qt e
 exact bE (N:=qc) (yf e).fn jH (fun cdv A outer s H E hr=>(av (aU jH.nd (c_.l 2) (cw pS (aa (c_.nm 0) aj) B.pX rfl nC (c_.d 0) (c_.g 0)))
  (av (aU jH.nd (c_.l 3) (cw pS (aa (c_.nm 1) aj) B.pX rfl nC (c_.d 0) (c_.g 0)))
  (av (tI (bO pL (bj _) (c_.nm 3) ao) (av (aU jH.nd (c_.l 4) (a7 ox (c_.nm 2) (c_.nm 3)))
  (av (aU jH.nd (c_.l 2) (c_.nm 3))
  (ay (aU jH.nd (c_.l 3) (c_.nm 4))))))
  (ay (aP (c_.nm 2))))))) Cm
theorem pA:bG (KX w.params) mg "part" "part" o4 ["top","bottom"] 28 (Hd.fd o4 "part" "part" i3 27):=Hd.iS e.X e.G (by kernel_rfl) fun _ _ _ _ _ _ _ _=>rfl
theorem qE:a8 PW w (KX w.params) mg base cq 2 28 (Hd.fd o4 "part" "part" i3 27) ["top","bottom"] (cv nM):=by
 have B:=Bt e
 have Q:=Qt e
 exact bE (N:=uP) (pA e).fn kB (fun cdv A outer s H E hr=>(av (aU kB.nd (gO.l 2) (aR (yf e) (EX e) (hr.mono (by decide)) (aa (gO.nm 0) (aa (gO.nm 1) aj)) (gO.d 0) (gO.g 0)))
  (av (dE (bO v7 (bj _) (gO.nm 1) ao) (ay (aU kB.nd (gO.l 2) (jc (gO.nm 2)))) cG)
  (ay (aP (kT (aa (a7 (se hr rfl kB.gen kB.co) (gO.nm 0) (gO.nm 2)) (aa (a7 (se hr rfl kB.gen kB.co) (gO.nm 1) (gO.nm 2)) aj)))))))) G7
theorem Eg:bG (KX w.params) mg "plus" "plus" o3 ["one","other"] 35 (Hd.fd o3 "plus" "plus" i3 34):=Hd.iS e.X e.G (by kernel_rfl) fun _ _ _ _ _ _ _ _=>rfl
theorem Kh:a8 PW w (KX w.params) mg base cq 3 35 (Hd.fd o3 "plus" "plus" i3 34) ["one","other"] (cv zF):=by
 have B:=Bt e
 have Q:=Qt e
 exact bE (N:=uI) (Eg e).fn Iw (fun cdv A outer s H E hr=>(ay (aP (aR (pA e) (qE e) (hr.mono (by decide)) (aa (a7 fh (a7 et (aD (lS.nm 0) ao) (aD (lS.nm 1) ao)) (a7 et (aD (lS.nm 1) ao) (aD (lS.nm 0) ao))) (aa (a7 et (aD (lS.nm 0) ao) (aD (lS.nm 1) ao)) aj)) (lS.d 0) (lS.g 0))))) Io
theorem Ag:bG (KX w.params) mg "minus" "minus" mY ["one","other"] 42 (Hd.fd mY "minus" "minus" i3 41):=Hd.iS e.X e.G (by kernel_rfl) fun _ _ _ _ _ _ _ _=>rfl
theorem Hl:a8 PW w (KX w.params) mg base cq 3 42 (Hd.fd mY "minus" "minus" i3 41) ["one","other"] (cv vN):=by
 have B:=Bt e
 have Q:=Qt e
 exact bE (N:=rQ) (Ag e).fn ED (fun cdv A outer s H E hr=>(ay (aP (aR (pA e) (qE e) (hr.mono (by decide)) (aa (a7 pG (a7 et (aD (jI.nm 0) ao) (aD (jI.nm 1) ao)) (a7 et (aD (jI.nm 1) ao) (aD (jI.nm 0) ao))) (aa (a7 et (aD (jI.nm 0) ao) (aD (jI.nm 1) ao)) aj)) (jI.d 0) (jI.g 0))))) EL
theorem AG:bG (KX w.params) mg "times" "times" mX ["one","other"] 49 (Hd.fd mX "times" "times" i3 48):=Hd.iS e.X e.G (by kernel_rfl) fun _ _ _ _ _ _ _ _=>rfl
theorem HI:a8 PW w (KX w.params) mg base cq 3 49 (Hd.fd mX "times" "times" i3 48) ["one","other"] (cv vA):=by
 have B:=Bt e
 have Q:=Qt e
 exact bE (N:=rW) (AG e).fn EK (fun cdv A outer s H E hr=>(ay (aP (aR (pA e) (qE e) (hr.mono (by decide)) (aa (a7 et (aD (m9.nm 0) ao) (aD (m9.nm 1) ao)) (aa (a7 et (aD (m9.nm 0) ao) (aD (m9.nm 1) ao)) aj)) (m9.d 0) (m9.g 0))))) Eu
theorem DZ:bG (KX w.params) mg "over" "over" pq ["one","other"] 56 (Hd.fd pq "over" "over" i3 55):=Hd.iS e.X e.G (by kernel_rfl) fun _ _ _ _ _ _ _ _=>rfl
theorem KI:a8 PW w (KX w.params) mg base cq 3 56 (Hd.fd pq "over" "over" i3 55) ["one","other"] (cv ze):=by
 have B:=Bt e
 have Q:=Qt e
 exact bE (N:=uk) (DZ e).fn H0 (fun cdv A outer s H E hr=>(ay (aP (aR (pA e) (qE e) (hr.mono (by decide)) (aa (a7 et (aD (pk.nm 0) ao) (aD (pk.nm 1) ao)) (aa (a7 et (aD (pk.nm 0) ao) (aD (pk.nm 1) ao)) aj)) (pk.d 0) (pk.g 0))))) Ho
theorem m4:bG (KX w.params) mg "whole" "whole" m5 ["n"] 63 (Hd.fd m5 "whole" "whole" i3 62):=Hd.qO e.X e.G (by kernel_rfl) fun _ _ _ _ _ _ _=>rfl
theorem o7:a8 PW w (KX w.params) mg base cq 1 63 (Hd.fd m5 "whole" "whole" i3 62) ["n"] (cv ky):=by
 have B:=Bt e
 have Q:=Qt e
 exact bE (N:=sr) (m4 e).fn EA (fun cdv A outer s H E hr=>(ay (aP (kT (aa (Hv.nm 0) (aa ao aj)))))) ES
theorem rN:bG (KX w.params) mg "as_rows" "as_rows" iu ["rows"] 68 (Hd.fd iu "as_rows" "as_rows" hV 67):=Hd.qO e.X e.G (by kernel_rfl) fun _ _ _ _ _ _ _=>rfl
theorem wo:a8 PW w (KX w.params) mg base cq 1 68 (Hd.fd iu "as_rows" "as_rows" hV 67) ["rows"] (cv oy):=by
 have B:=Bt e
 have Q:=Qt e
 exact bE (N:=oj) (rN e).fn BA (fun cdv A outer s H E hr=>(ay (aP (dS dH (aa (eg (Nc:=["row"]) (bz.look (ai iu) ["rows"] (by decide+kernel)) (fj (qW.nm 0)) (fun _ _ _ _=>(dh (show(["row"]:List Str).Nodup by decide+kernel) (by first|exact Or.inl rfl|exact Or.inr rfl) (by first|exact .inl rfl|exact .inr rfl))) (fun _ _ _ _=>cK) (fun _ _ _ _=>(dS dH (aa cR aj) B.cW rfl cB (by decide+kernel) rfl)) cm) aj) B.cW rfl cB (qW.d 0) (qW.g 0))))) BU
theorem mZ:bG (KX w.params) mg "added" "added" kq ["row","times","other"] 73 (Hd.fd kq "added" "added" hV 72):=Hd.vd e.X e.G (by kernel_rfl) fun _ _ _ _ _ _ _ _ _=>rfl
theorem pz:a8 PW w (KX w.params) mg base cq 1 73 (Hd.fd kq "added" "added" hV 72) ["row","times","other"] (cv kL):=by
 have B:=Bt e
 have Q:=Qt e
 exact bE (N:=si) (mZ e).fn Fs (fun cdv A outer s H E hr=>(ay (aP (eg (Nc:=["one","two","times"]) (bz.look (ai kq) ["row","times","other"] (by decide+kernel)) (xC (vn.g 0) B.xr (aa (vn.nm 0) (aa (vn.nm 2) aj))) (fun _ _ _ _=>(pK rfl (show(["one","two","times"]:List Str).Nodup by decide+kernel) (by first|exact Or.inl rfl|exact Or.inr rfl) (by first|exact .inl rfl|exact .inr rfl) (by first|exact Or.inl rfl|exact Or.inr rfl) (by first|exact .inl rfl|exact .inr rfl))) (fun _ _ _ _=>cK) (fun _ _ _ _=>(a7 fh cR (a7 et cR cR))) HB)))) EV
theorem tV:bG (KX w.params) mg "sum_by" "sum_by" kP ["weights","rows","wide"] 80 (Hd.fd kP "sum_by" "sum_by" hV 79):=Hd.vd e.X e.G (by kernel_rfl) fun _ _ _ _ _ _ _ _ _=>rfl
theorem x8:a8 PW w (KX w.params) mg base cq 2 80 (Hd.fd kP "sum_by" "sum_by" hV 79) ["weights","rows","wide"] (cv p7):=by
 have B:=Bt e
 have Q:=Qt e
 exact bE (N:=ql) (tV e).fn nR (fun cdv A outer s H E hr=>(av (aU nR.nd (eC.l 3) (a7 et (ot (aa ao aj)) (eC.nm 2)))
  (av (fF (xC (eC.g 0) B.xr (aa (eC.nm 0) (aa (eC.nm 1) aj))) (pK rfl nR.nd (by first|exact Or.inl rfl|exact Or.inr rfl) (by first|exact .inl rfl|exact .inr rfl) (by first|exact Or.inl rfl|exact Or.inr rfl) (by first|exact .inl rfl|exact .inr rfl)) (ay (aU nR.nd (eC.l 3) (aR (mZ e) (pz e) (hr.mono (by decide)) (aa (eC.nm 3) (aa (eC.nm 4) (aa (eC.nm 5) aj))) (eC.d 1) (eC.g 1)))))
  (ay (aP (dS dH (aa (eC.nm 3) aj) B.cW rfl cB (eC.d 2) (eC.g 2))))))) Dq
theorem oA:bG (KX w.params) mg "product" "product" iz ["one","other"] 85 (Hd.fd iz "product" "product" hV 84):=Hd.iS e.X e.G (by kernel_rfl) fun _ _ _ _ _ _ _ _=>rfl
theorem rL:a8 PW w (KX w.params) mg base cq 3 85 (Hd.fd iz "product" "product" hV 84) ["one","other"] (cv lV):=by
 have B:=Bt e
 have Q:=Qt e
 exact bE (N:=nZ) (oA e).fn uv (fun cdv A outer s H E hr=>(av (aU uv.nd (ir.l 2) (cw d6 (aa (aD (ir.nm 1) ao) aj) B.d5 rfl c6 (ir.d 0) (ir.g 0)))
  (ay (aP (dS dH (aa (eg (Nc:=["weights","other","wide"]) (bz.look (ai iz) ["one","other","wide"] (by decide+kernel)) (fj (ir.nm 0)) (fun _ _ _ _=>(dh (show(["weights","other","wide"]:List Str).Nodup by decide+kernel) (by first|exact Or.inl rfl|exact Or.inr rfl) (by first|exact .inl rfl|exact .inr rfl))) (fun _ _ _ _=>cK) (fun _ _ _ _=>(aR (tV e) (x8 e) (hr.mono (by decide)) (aa cR (aa cR (aa cR aj))) (by decide+kernel) rfl)) cm) aj) B.cW rfl cB (ir.d 1) (ir.g 1)))))) BX
theorem yX:bG (KX w.params) mg "column" "column" ju ["rows","place"] 90 (Hd.fd ju "column" "column" hV 89):=Hd.iS e.X e.G (by kernel_rfl) fun _ _ _ _ _ _ _ _=>rfl
theorem E5:a8 PW w (KX w.params) mg base cq 1 90 (Hd.fd ju "column" "column" hV 89) ["rows","place"] (cv tN):=by
 have B:=Bt e
 have Q:=Qt e
 exact bE (N:=pW) (yX e).fn CL (fun cdv A outer s H E hr=>(ay (aP (dS dH (aa (eg (Nc:=["row","place"]) (bz.look (ai ju) ["rows","place"] (by decide+kernel)) (fj (uj.nm 0)) (fun _ _ _ _=>(dh (show(["row","place"]:List Str).Nodup by decide+kernel) (by first|exact Or.inl rfl|exact Or.inr rfl) (by first|exact .inl rfl|exact .inr rfl))) (fun _ _ _ _=>cK) (fun _ _ _ _=>(aD cR cR)) cm) aj) B.cW rfl cB (uj.d 0) (uj.g 0))))) Dp
theorem qt:bG (KX w.params) mg "turned_over" "turned_over" e_ ["rows","wide"] 95 (Hd.fd e_ "turned_over" "turned_over" hV 94):=Hd.iS e.X e.G (by kernel_rfl) fun _ _ _ _ _ _ _ _=>rfl
theorem xo:a8 PW w (KX w.params) mg base cq 2 95 (Hd.fd e_ "turned_over" "turned_over" hV 94) ["rows","wide"] (cv lZ):=by
 have B:=Bt e
 have Q:=Qt e
 exact bE (N:=i9) (qt e).fn vP (fun cdv A outer s H E hr=>(ay (aP (dS dH (aa (eg (Nc:=["place","rows"]) (bz.look (ai e_) ["rows","wide"] (by decide+kernel)) (eN (jb.g 0) B.eK (aa (jb.nm 1) aj)) (fun _ _ _ _=>(dh (show(["place","rows"]:List Str).Nodup by decide+kernel) (by first|exact Or.inl rfl|exact Or.inr rfl) (by first|exact .inl rfl|exact .inr rfl))) (fun _ _ _ _=>cK) (fun _ _ _ _=>(aR (yX e) (E5 e) (hr.mono (by decide)) (aa cR (aa cR aj)) (by decide+kernel) rfl)) cm) aj) B.cW rfl cB (jb.d 1) (jb.g 1))))) vI
theorem vg:bG (KX w.params) mg "unit_row" "unit_row" gG ["n","place"] 100 (Hd.fd gG "unit_row" "unit_row" hV 99):=Hd.iS e.X e.G (by kernel_rfl) fun _ _ _ _ _ _ _ _=>rfl
theorem BD:a8 PW w (KX w.params) mg base cq 1 100 (Hd.fd gG "unit_row" "unit_row" hV 99) ["n","place"] (cv qd):=by
 have B:=Bt e
 have Q:=Qt e
 exact bE (N:=mD) (vg e).fn zO (fun cdv A outer s H E hr=>(ay (aP (dS dH (aa (eg (Nc:=["k","place"]) (bz.look (ai gG) ["n","place"] (by decide+kernel)) (eN (mB.g 0) B.eK (aa (mB.nm 0) aj)) (fun _ _ _ _=>(dh (show(["k","place"]:List Str).Nodup by decide+kernel) (by first|exact Or.inl rfl|exact Or.inr rfl) (by first|exact .inl rfl|exact .inr rfl))) (fun _ _ _ _=>cK) (fun _ _ _ _=>(Ga (bO (kM hr) (bj _) cR cR) ao ao)) cm) aj) B.cW rfl cB (mB.d 1) (mB.g 1))))) zR
theorem oS:bG (KX w.params) mg "unit_rows" "unit_rows" fZ ["n"] 105 (Hd.fd fZ "unit_rows" "unit_rows" hV 104):=Hd.qO e.X e.G (by kernel_rfl) fun _ _ _ _ _ _ _=>rfl
theorem sT:a8 PW w (KX w.params) mg base cq 2 105 (Hd.fd fZ "unit_rows" "unit_rows" hV 104) ["n"] (cv kW):=by
 have B:=Bt e
 have Q:=Qt e
 exact bE (N:=la) (oS e).fn x6 (fun cdv A outer s H E hr=>(ay (aP (dS dH (aa (eg (Nc:=["place","n"]) (bz.look (ai fZ) ["n"] (by decide+kernel)) (eN (k6.g 0) B.eK (aa (k6.nm 0) aj)) (fun _ _ _ _=>(dh (show(["place","n"]:List Str).Nodup by decide+kernel) (by first|exact Or.inl rfl|exact Or.inr rfl) (by first|exact .inl rfl|exact .inr rfl))) (fun _ _ _ _=>cK) (fun _ _ _ _=>(aR (vg e) (BD e) (hr.mono (by decide)) (aa cR (aa cR aj)) (by decide+kernel) rfl)) cm) aj) B.cW rfl cB (k6.d 1) (k6.g 1))))) zu
theorem jB:bG (KX w.params) mg "lead_of" "lead_of" jy ["row"] 112 (Hd.fd jy "lead_of" "lead_of" d_ 111):=Hd.qO e.X e.G (by kernel_rfl) fun _ _ _ _ _ _ _=>rfl
theorem lK:a8 PW w (KX w.params) mg base cq 1 112 (Hd.fd jy "lead_of" "lead_of" d_ 111) ["row"] (cv iw):=by
 have B:=Bt e
 have Q:=Qt e
 exact bE (N:=nW) (jB e).fn uO (fun cdv A outer s H E hr=>(av (fF (Dz (om.g 0) B.sQ (aa (om.nm 0) aj)) (pK rfl uO.nd (by first|exact Or.inl rfl|exact Or.inr rfl) (by first|exact .inl rfl|exact .inr rfl) (by first|exact Or.inl rfl|exact Or.inr rfl) (by first|exact .inl rfl|exact .inr rfl)) (ay (dE (bO pL (bj _) (om.nm 2) ao) (ay (aP (om.nm 1))) cG)))
  (ay (aP Gp)))) BS
theorem lh:bG (KX w.params) mg "nearest_quotient" "nearest_quotient" dW ["top","bottom"] 119 (Hd.fd dW "nearest_quotient" "nearest_quotient" d_ 118):=Hd.iS e.X e.G (by kernel_rfl) fun _ _ _ _ _ _ _ _=>rfl
theorem rF:a8 PW w (KX w.params) mg base cq 1 119 (Hd.fd dW "nearest_quotient" "nearest_quotient" d_ 118) ["top","bottom"] (cv ip):=by
 have B:=Bt e
 have Q:=Qt e
 exact bE (N:=fW) (lh e).fn g6 (fun cdv A outer s H E hr=>(ay (aP (a7 (se hr rfl g6.gen g6.co) (a7 fh (a7 et ao (ij.nm 0)) (ij.nm 1)) (a7 et ao (ij.nm 1)))))) qx
theorem lb:bG (KX w.params) mg "exchanged" "exchanged" gZ ["rows","k","other"] 126 (Hd.fd gZ "exchanged" "exchanged" d_ 125):=Hd.vd e.X e.G (by kernel_rfl) fun _ _ _ _ _ _ _ _ _=>rfl
theorem oM:a8 PW w (KX w.params) mg base cq 1 126 (Hd.fd gZ "exchanged" "exchanged" d_ 125) ["rows","k","other"] (cv i5):=by
 have B:=Bt e
 have Q:=Qt e
 exact bE (N:=kY) (lb e).fn rD (fun cdv A outer s H E hr=>(av (aU rD.nd (cV.l 3) (dS AM (aa (cV.nm 0) aj) B.iY rfl gX (cV.d 0) (cV.g 0)))
  (av (dD (aD (cV.nm 0) (cV.nm 2)) (cV.nm 3) (cV.nm 1))
  (av (dD (aD (cV.nm 0) (cV.nm 1)) (cV.nm 3) (cV.nm 2))
  (ay (aP (cV.nm 3))))))) yG
theorem oE:bG (KX w.params) mg "negated" "negated" ia ["row"] 131 (Hd.fd ia "negated" "negated" d_ 130):=Hd.qO e.X e.G (by kernel_rfl) fun _ _ _ _ _ _ _=>rfl
theorem rj:a8 PW w (KX w.params) mg base cq 1 131 (Hd.fd ia "negated" "negated" d_ 130) ["row"] (cv lO):=by
 have B:=Bt e
 have Q:=Qt e
 exact bE (N:=nU) (oE e).fn Bh (fun cdv A outer s H E hr=>(ay (aP (eg (Nc:=["number"]) (bz.look (ai ia) ["row"] (by decide+kernel)) (fj (DV.nm 0)) (fun _ _ _ _=>(dh (show(["number"]:List Str).Nodup by decide+kernel) (by first|exact Or.inl rfl|exact Or.inr rfl) (by first|exact .inl rfl|exact .inr rfl))) (fun _ _ _ _=>cK) (fun _ _ _ _=>(jc cR)) cm)))) BW
theorem gL:MethAt (KX w.params) aB "__init__" "Bench.__init__" cM ["self","rows"] 143 (Hd.fd cM "__init__" "Bench.__init__" d_ 142):=Hd.Nj (by kernel_rfl) fun _ _ _ _ _ _ _ _=>rfl
theorem tK:a8 PW w (KX w.params) mg base cq 3 143 (Hd.fd cM "__init__" "Bench.__init__" d_ 142) ["self","rows"] (cv jo):=by
 have B:=Bt e
 have Q:=Qt e
 exact bE (N:=gE) (gL e).fn sE (fun cdv A outer s H E hr=>(av (mT Q.aX.cl Q.bZ (bI.nm 0) (vC (Nc:=["row"]) (bz.look (ai cM) ["self","rows"] (by decide+kernel)) (fj (bI.nm 1)) (fun _ _ _ _=>(dh (show(["row"]:List Str).Nodup by decide+kernel) (by first|exact Or.inl rfl|exact Or.inr rfl) (by first|exact .inl rfl|exact .inr rfl))) (fun _ _ _ _=>cK) (fun _ _ _ _=>(dS lY (aa cR aj) B.iY rfl gX (by decide+kernel) rfl)) cm))
  (av (mT Q.aX.cl Q.eA (bI.nm 0) (vC (Nc:=["row"]) (bz.look (ai cM) ["self","rows"] (by decide+kernel)) (fj (aR (oS e) (sT e) (hr.mono (by decide)) (aa (cw d6 (aa (bI.nm 1) aj) B.d5 rfl c6 (bI.d 0) (bI.g 0)) aj) (bI.d 1) (bI.g 1))) (fun _ _ _ _=>(dh (show(["row"]:List Str).Nodup by decide+kernel) (by first|exact Or.inl rfl|exact Or.inr rfl) (by first|exact .inl rfl|exact .inr rfl))) (fun _ _ _ _=>cK) (fun _ _ _ _=>(dS lY (aa cR aj) B.iY rfl gX (by decide+kernel) rfl)) cm))
  (ay (mT Q.aX.cl Q.ck (bI.nm 0) (vC (Nc:=["row"]) (bz.look (ai cM) ["self","rows"] (by decide+kernel)) (fj (aR (oS e) (sT e) (hr.mono (by decide)) (aa (cw d6 (aa (bI.nm 1) aj) B.d5 rfl c6 (bI.d 0) (bI.g 0)) aj) (bI.d 1) (bI.g 1))) (fun _ _ _ _=>(dh (show(["row"]:List Str).Nodup by decide+kernel) (by first|exact Or.inl rfl|exact Or.inr rfl) (by first|exact .inl rfl|exact .inr rfl))) (fun _ _ _ _=>cK) (fun _ _ _ _=>(dS lY (aa cR aj) B.iY rfl gX (by decide+kernel) rfl)) cm)))))) sF
theorem iB:MethAt (KX w.params) aB "take" "Bench.take" gw ["self","k","times","other"] 150 (Hd.fd gw "take" "Bench.take" d_ 149):=Hd.OF (by kernel_rfl) fun _ _ _ _ _ _ _ _ _ _=>rfl
theorem rK:a8 PW w (KX w.params) mg base cq 2 150 (Hd.fd gw "take" "Bench.take" d_ 149) ["self","k","times","other"] (cv kc):=by
 have B:=Bt e
 have Q:=Qt e
 exact bE (N:=jX) (iB e).fn xk (fun cdv A outer s H E hr=>(av (dD (aR (mZ e) (pz e) (hr.mono (by decide)) (aa (aD (c7 Q.aX.cl Q.bZ (aV.nm 0)) (aV.nm 1)) (aa (jc (aV.nm 2)) (aa (aD (c7 Q.aX.cl Q.bZ (aV.nm 0)) (aV.nm 3)) aj))) (aV.d 0) (aV.g 0)) (c7 Q.aX.cl Q.bZ (aV.nm 0)) (aV.nm 1))
  (av (dD (aR (mZ e) (pz e) (hr.mono (by decide)) (aa (aD (c7 Q.aX.cl Q.eA (aV.nm 0)) (aV.nm 1)) (aa (jc (aV.nm 2)) (aa (aD (c7 Q.aX.cl Q.eA (aV.nm 0)) (aV.nm 3)) aj))) (aV.d 0) (aV.g 0)) (c7 Q.aX.cl Q.eA (aV.nm 0)) (aV.nm 1))
  (ay (dD (aR (mZ e) (pz e) (hr.mono (by decide)) (aa (aD (c7 Q.aX.cl Q.ck (aV.nm 0)) (aV.nm 3)) (aa (aV.nm 2) (aa (aD (c7 Q.aX.cl Q.ck (aV.nm 0)) (aV.nm 1)) aj))) (aV.d 0) (aV.g 0)) (c7 Q.aX.cl Q.ck (aV.nm 0)) (aV.nm 3)))))) xg
theorem jt:MethAt (KX w.params) aB "exchange" "Bench.exchange" eL ["self","k","other"] 157 (Hd.fd eL "exchange" "Bench.exchange" d_ 156):=Hd.FT (by kernel_rfl) fun _ _ _ _ _ _ _ _ _=>rfl
theorem tx:a8 PW w (KX w.params) mg base cq 2 157 (Hd.fd eL "exchange" "Bench.exchange" d_ 156) ["self","k","other"] (cv jj):=by
 have B:=Bt e
 have Q:=Qt e
 exact bE (N:=gI) (jt e).fn sA (fun cdv A outer s H E hr=>(av (mT Q.aX.cl Q.bZ (a6.nm 0) (aR (lb e) (oM e) (hr.mono (by decide)) (aa (c7 Q.aX.cl Q.bZ (a6.nm 0)) (aa (a6.nm 1) (aa (a6.nm 2) aj))) (a6.d 0) (a6.g 0)))
  (av (mT Q.aX.cl Q.eA (a6.nm 0) (aR (lb e) (oM e) (hr.mono (by decide)) (aa (c7 Q.aX.cl Q.eA (a6.nm 0)) (aa (a6.nm 1) (aa (a6.nm 2) aj))) (a6.d 0) (a6.g 0)))
  (ay (mT Q.aX.cl Q.ck (a6.nm 0) (aR (lb e) (oM e) (hr.mono (by decide)) (aa (c7 Q.aX.cl Q.ck (a6.nm 0)) (aa (a6.nm 1) (aa (a6.nm 2) aj))) (a6.d 0) (a6.g 0))))))) sD
theorem g7:MethAt (KX w.params) aB "change_sign" "Bench.change_sign" dN ["self","k"] 164 (Hd.fd dN "change_sign" "Bench.change_sign" d_ 163):=Hd.Nj (by kernel_rfl) fun _ _ _ _ _ _ _ _=>rfl
theorem qA:a8 PW w (KX w.params) mg base cq 2 164 (Hd.fd dN "change_sign" "Bench.change_sign" d_ 163) ["self","k"] (cv g9):=by
 have B:=Bt e
 have Q:=Qt e
 exact bE (N:=fI) (g7 e).fn pR (fun cdv A outer s H E hr=>(av (dD (aR (oE e) (rj e) (hr.mono (by decide)) (aa (aD (c7 Q.aX.cl Q.bZ (aQ.nm 0)) (aQ.nm 1)) aj) (aQ.d 0) (aQ.g 0)) (c7 Q.aX.cl Q.bZ (aQ.nm 0)) (aQ.nm 1))
  (av (dD (aR (oE e) (rj e) (hr.mono (by decide)) (aa (aD (c7 Q.aX.cl Q.eA (aQ.nm 0)) (aQ.nm 1)) aj) (aQ.d 0) (aQ.g 0)) (c7 Q.aX.cl Q.eA (aQ.nm 0)) (aQ.nm 1))
  (ay (dD (aR (oE e) (rj e) (hr.mono (by decide)) (aa (aD (c7 Q.aX.cl Q.ck (aQ.nm 0)) (aQ.nm 1)) aj) (aQ.d 0) (aQ.g 0)) (c7 Q.aX.cl Q.ck (aQ.nm 0)) (aQ.nm 1)))))) qm
theorem gd:MethAt (KX w.params) aB "live_rows" "Bench.live_rows" cX ["self","top","place"] 169 (Hd.fd cX "live_rows" "Bench.live_rows" d_ 168):=Hd.FT (by kernel_rfl) fun _ _ _ _ _ _ _ _ _=>rfl
theorem mj:a8 PW w (KX w.params) mg base cq 3 169 (Hd.fd cX "live_rows" "Bench.live_rows" d_ 168) ["self","top","place"] (cv gc):=by
 have B:=Bt e
 have Q:=Qt e
 have hC:PySem.W.codeHdIn (KX w.params) 168 166=true:=by kernel_rfl
 exact JR (N:=gg) (Hd.fc (by kernel_rfl)) ly (fun A outer s H E hr=>(av (vO ly.nd (cY.l 3) (Nc:=["k","self","place"]) (bz.look (ai cX) ["self","top","place","live"] (by decide+kernel)) (E9 (cY.g 1) B.eK (aa (cY.nm 1) (aa (cw d6 (aa (c7 Q.aX.cl Q.bZ (cY.nm 0)) aj) B.d5 rfl c6 (cY.d 0) (cY.g 0)) aj))) (fun _ _ _ _=>(dh (show(["k","self","place"]:List Str).Nodup by decide+kernel) (by first|exact Or.inl rfl|exact Or.inr rfl) (by first|exact .inl rfl|exact .inr rfl))) (fun _ _ _ _=>(zm (bO pL (bj _) (aD (aD (c7 Q.aX.cl Q.bZ cR) cR) cR) ao))) (fun _ _ _ _=>cR) cm)
  (ay (aP (Ig (c0:=168) (mq.look (Nc:=["k","self","place"]) (fr:=[none,some 0,some 2]) (p:="k") (bz.look (ai cX) ["self","top","place","live"] (by decide+kernel))) rfl hr rfl hC (fun _ _ _ _=>(cw pS (aa (aD (aD (c7 Q.aX.cl Q.bZ cR) cR) cR) aj) B.pX rfl nC (by decide+kernel) rfl)) (cY.nm 3) (cY.g 2) B.EZ))))) rk
theorem kE:MethAt (KX w.params) aB "gather" "Bench.gather" fv ["self","top","place"] 176 (Hd.fd fv "gather" "Bench.gather" d_ 175):=Hd.FT (by kernel_rfl) fun _ _ _ _ _ _ _ _ _=>rfl
theorem v_:a8 PW w (KX w.params) mg base cq 4 176 (Hd.fd fv "gather" "Bench.gather" d_ 175) ["self","top","place"] (cv kD):=by
 have B:=Bt e
 have Q:=Qt e
 exact bE (N:=iM) (kE e).fn fU (fun cdv A outer s H E hr=>(av (aU fU.nd (aA.l 3) (lp (aA.nm 0) Q.aX.cl (gd e).me (mj e) (hr.mono (by decide)) (gd e).bd (aa (aA.nm 1) (aa (aA.nm 2) aj))))
  (av (tI (bO vj (bj _) (cw d6 (aa (aA.nm 3) aj) B.d5 rfl c6 (aA.d 0) (aA.g 0)) ao) (av (aU fU.nd (aA.l 4) (aD (aA.nm 3) (jc ao)))
  (av (aU fU.nd (aA.l 5) (aD (aA.nm 3) (jc ao)))
  (av (mS (lp (aA.nm 0) Q.aX.cl (iB e).me (rK e) (hr.mono (by decide)) (iB e).bd (aa (aA.nm 4) (aa (aR (lh e) (rF e) (hr.mono (by decide)) (aa (aD (aD (c7 Q.aX.cl Q.bZ (aA.nm 0)) (aA.nm 4)) (aA.nm 2)) (aa (aD (aD (c7 Q.aX.cl Q.bZ (aA.nm 0)) (aA.nm 5)) (aA.nm 2)) aj)) (aA.d 1) (aA.g 1)) (aa (aA.nm 5) aj)))))
  (ay (aU fU.nd (aA.l 3) (lp (aA.nm 0) Q.aX.cl (gd e).me (mj e) (hr.mono (by decide)) (gd e).bd (aa (aA.nm 1) (aa (aA.nm 2) aj)))))))))
  (av (dE (bO (kM hr) (bj _) (cw d6 (aa (aA.nm 3) aj) B.d5 rfl c6 (aA.d 0) (aA.g 0)) ao) (ay (aP iy)) cG)
  (av (mS (lp (aA.nm 0) Q.aX.cl (jt e).me (tx e) (hr.mono (by decide)) (jt e).bd (aa (aA.nm 1) (aa (aD (aA.nm 3) ao) aj))))
  (av (dE (bO v7 (bj _) (aD (aD (c7 Q.aX.cl Q.bZ (aA.nm 0)) (aA.nm 1)) (aA.nm 2)) ao) (ay (mS (lp (aA.nm 0) Q.aX.cl (g7 e).me (qA e) (hr.mono (by decide)) (g7 e).bd (aa (aA.nm 1) aj)))) cG)
  (ay (aP iy)))))))) u4
theorem hO:MethAt (KX w.params) aB "lower_above" "Bench.lower_above" dJ ["self","top","place"] 183 (Hd.fd dJ "lower_above" "Bench.lower_above" d_ 182):=Hd.FT (by kernel_rfl) fun _ _ _ _ _ _ _ _ _=>rfl
theorem qz:a8 PW w (KX w.params) mg base cq 3 183 (Hd.fd dJ "lower_above" "Bench.lower_above" d_ 182) ["self","top","place"] (cv g_):=by
 have B:=Bt e
 have Q:=Qt e
 exact bE (N:=fH) (hO e).fn fi (fun cdv A outer s H E hr=>(ay (fF (eN (bS.g 0) B.eK (aa (bS.nm 1) aj)) (dh fi.nd (by first|exact Or.inl rfl|exact Or.inr rfl) (by first|exact .inl rfl|exact .inr rfl)) (ay (mS (lp (bS.nm 0) Q.aX.cl (iB e).me (rK e) (hr.mono (by decide)) (iB e).bd (aa (bS.nm 3) (aa (a7 (se hr rfl fi.gen fi.co) (aD (aD (c7 Q.aX.cl Q.bZ (bS.nm 0)) (bS.nm 3)) (bS.nm 2)) (aD (aD (c7 Q.aX.cl Q.bZ (bS.nm 0)) (bS.nm 1)) (bS.nm 2))) (aa (bS.nm 1) aj))))))))) p9
theorem p_:bG (KX w.params) mg "standing" "standing" iJ ["rows"] 197 (Hd.fd iJ "standing" "standing" d_ 196):=Hd.qO e.X e.G (by kernel_rfl) fun _ _ _ _ _ _ _=>rfl
theorem uC:a8 PW w (KX w.params) mg base cq 5 197 (Hd.fd iJ "standing" "standing" d_ 196) ["rows"] (cv mz):=by
 have B:=Bt e
 have Q:=Qt e
 exact bE (N:=mG) (p_ e).fn g0 (fun cdv A outer s H E hr=>(av (aU g0.nd (aY.l 1) (JH ⟨Q.aX.O4,(gL e).me.at_,(gL e).me.fn,Q.aX.kp⟩ (tK e) (hr.mono (by decide)) (aY.g 0) Q.aX.mg (gL e).bd (aa (aY.nm 0) aj) (aY.d 0)))
  (av (aU g0.nd (aY.l 2) ao)
  (av (fF (eN (aY.g 2) B.eK (aa (cw d6 (aa (aD (aY.nm 0) ao) aj) B.d5 rfl c6 (aY.d 1) (aY.g 1)) aj)) (dh g0.nd (by first|exact Or.inl rfl|exact Or.inr rfl) (by first|exact .inl rfl|exact .inr rfl)) (ay (dE (gS (lp (aY.nm 1) Q.aX.cl (kE e).me (v_ e) (hr.mono (by decide)) (kE e).bd (aa (aY.nm 2) (aa (aY.nm 3) aj)))) (av (mS (lp (aY.nm 1) Q.aX.cl (hO e).me (qz e) (hr.mono (by decide)) (hO e).bd (aa (aY.nm 2) (aa (aY.nm 3) aj))))
  (ay (Lh g0.nd (aY.l 2) ao Kp))) cG)))
  (av (aU g0.nd (aY.l 4) (aR (qt e) (xo e) (hr.mono (by decide)) (aa (c7 Q.aX.cl Q.ck (aY.nm 1)) (aa (cw d6 (aa (aY.nm 0) aj) B.d5 rfl c6 (aY.d 1) (aY.g 1)) aj)) (aY.d 3) (aY.g 3)))
  (ay (aP (kT (aa (aR (rN e) (wo e) (hr.mono (by decide)) (aa (kG (c7 Q.aX.cl Q.bZ (aY.nm 1)) kh (kI (aY.nm 2))) aj) (aY.d 4) (aY.g 4)) (aa (aR (rN e) (wo e) (hr.mono (by decide)) (aa (c7 Q.aX.cl Q.eA (aY.nm 1)) aj) (aY.d 4) (aY.g 4)) (aa (aY.nm 4) aj))))))))))) zT
theorem wC:bG (KX w.params) mg "weighed" "weighed" jA ["form","row"] 204 (Hd.fd jA "weighed" "weighed" d_ 203):=Hd.iS e.X e.G (by kernel_rfl) fun _ _ _ _ _ _ _ _=>rfl
theorem Co:a8 PW w (KX w.params) mg base cq 2 204 (Hd.fd jA "weighed" "weighed" d_ 203) ["form","row"] (cv rB):=by
 have B:=Bt e
 have Q:=Qt e
 exact bE (N:=oB) (wC e).fn gM (fun cdv A outer s H E hr=>(av (aU gM.nd (bo.l 2) (Gm aj))
  (av (aU gM.nd (bo.l 3) (dS lY (aa (bo.nm 1) aj) B.iY rfl gX (bo.d 0) (bo.g 0)))
  (av (fF (fj (bo.nm 0)) (dh gM.nd (by first|exact Or.inl rfl|exact Or.inr rfl) (by first|exact .inl rfl|exact .inr rfl)) (av (aU gM.nd (bo.l 5) (aR (jB e) (lK e) (hr.mono (by decide)) (aa (bo.nm 4) aj) (bo.d 1) (bo.g 1)))
  (av (aU gM.nd (bo.l 6) (a7 qX (aD (bo.nm 3) (bo.nm 5)) (aD (bo.nm 4) (bo.nm 5))))
  (av (mS (C2 (bo.nm 2) (bo.nm 6)))
  (ay (aU gM.nd (bo.l 3) (aR (mZ e) (pz e) (hr.mono (by decide)) (aa (bo.nm 3) (aa (jc (bo.nm 6)) (aa (bo.nm 4) aj))) (bo.d 2) (bo.g 2))))))))
  (ay (aP (kT (aa (dS dH (aa (bo.nm 2) aj) B.cW rfl cB (bo.d 3) (bo.g 3)) (aa (dS dH (aa (bo.nm 3) aj) B.cW rfl cB (bo.d 3) (bo.g 3)) aj))))))))) BR
theorem sR:bG (KX w.params) mg "parts_dot" "parts_dot" gW ["parts","row"] 211 (Hd.fd gW "parts_dot" "parts_dot" qv 210):=Hd.iS e.X e.G (by kernel_rfl) fun _ _ _ _ _ _ _ _=>rfl
theorem zX:a8 PW w (KX w.params) mg base cq 4 211 (Hd.fd gW "parts_dot" "parts_dot" qv 210) ["parts","row"] (cv oP):=by
 have B:=Bt e
 have Q:=Qt e
 exact bE (N:=kU) (sR e).fn jU (fun cdv A outer s H E hr=>(av (aU jU.nd (cn.l 2) (aR (m4 e) (o7 e) (hr.mono (by decide)) (aa ao aj) (cn.d 0) (cn.g 0)))
  (av (fF (xC (cn.g 1) B.xr (aa (cn.nm 0) (aa (cn.nm 1) aj))) (pK rfl jU.nd (by first|exact Or.inl rfl|exact Or.inr rfl) (by first|exact .inl rfl|exact .inr rfl) (by first|exact Or.inl rfl|exact Or.inr rfl) (by first|exact .inl rfl|exact .inr rfl)) (ay (aU jU.nd (cn.l 2) (aR (Eg e) (Kh e) (hr.mono (by decide)) (aa (cn.nm 2) (aa (aR (AG e) (HI e) (hr.mono (by decide)) (aa (cn.nm 3) (aa (aR (m4 e) (o7 e) (hr.mono (by decide)) (aa (cn.nm 4) aj) (cn.d 0) (cn.g 0)) aj)) (cn.d 2) (cn.g 2)) aj)) (cn.d 3) (cn.g 3)))))
  (ay (aP (cn.nm 2)))))) zk
theorem s_:bG (KX w.params) mg "bottom_at" "bottom_at" g4 ["form","rest","place"] 218 (Hd.fd g4 "bottom_at" "bottom_at" qv 217):=Hd.vd e.X e.G (by kernel_rfl) fun _ _ _ _ _ _ _ _ _=>rfl
theorem Ab:a8 PW w (KX w.params) mg base cq 2 218 (Hd.fd g4 "bottom_at" "bottom_at" qv 217) ["form","rest","place"] (cv oV):=by
 have B:=Bt e
 have Q:=Qt e
 exact bE (N:=lg) (s_ e).fn q_ (fun cdv A outer s H E hr=>(av (fF (fj (dP.nm 0)) (dh q_.nd (by first|exact Or.inl rfl|exact Or.inr rfl) (by first|exact .inl rfl|exact .inr rfl)) (ay (dE (bO (kM hr) (bj _) (aR (jB e) (lK e) (hr.mono (by decide)) (aa (dP.nm 3) aj) (dP.d 0) (dP.g 0)) (dP.nm 2)) (ay (aP (aD (dP.nm 3) (dP.nm 2)))) cG)))
  (ay (aP (a7 et ao (cw pS (aa (aD (dP.nm 1) (dP.nm 2)) aj) B.pX rfl nC (dP.d 1) (dP.g 1))))))) yt
theorem oz:bG (KX w.params) mg "parts_against" "parts_against" e9 ["form","rest"] 225 (Hd.fd e9 "parts_against" "parts_against" qv 224):=Hd.iS e.X e.G (by kernel_rfl) fun _ _ _ _ _ _ _ _=>rfl
theorem uJ:a8 PW w (KX w.params) mg base cq 5 225 (Hd.fd e9 "parts_against" "parts_against" qv 224) ["form","rest"] (cv j0):=by
 have B:=Bt e
 have Q:=Qt e
 exact bE (N:=h7) (oz e).fn eP (fun cdv A outer s H E hr=>(av (aU eP.nd (au.l 2) (aR (jB e) (lK e) (hr.mono (by decide)) (aa (au.nm 1) aj) (au.d 0) (au.g 0)))
  (av (aU eP.nd (au.l 3) (a7 DP (ot (aa (aR (m4 e) (o7 e) (hr.mono (by decide)) (aa ao aj) (au.d 1) (au.g 1)) aj)) (cw d6 (aa (au.nm 1) aj) B.d5 rfl c6 (au.d 2) (au.g 2))))
  (av (dD (aR (pA e) (qE e) (hr.mono (by decide)) (aa ao (aa (aR (s_ e) (Ab e) (hr.mono (by decide)) (aa (au.nm 0) (aa (au.nm 1) (aa (au.nm 2) aj))) (au.d 3) (au.g 3)) aj)) (au.d 4) (au.g 4)) (au.nm 3) (au.nm 2))
  (av (fF (Fc (au.g 5) B.eK (aa (a7 pG (cw d6 (aa (au.nm 0) aj) B.d5 rfl c6 (au.d 2) (au.g 2)) ao) (aa (jc ao) (aa (jc ao) aj)))) (dh eP.nd (by first|exact Or.inl rfl|exact Or.inr rfl) (by first|exact .inl rfl|exact .inr rfl)) (av (aU eP.nd (au.l 5) (aR (jB e) (lK e) (hr.mono (by decide)) (aa (aD (au.nm 0) (au.nm 4)) aj) (au.d 0) (au.g 0)))
  (ay (dE (bO v7 (bj _) (au.nm 5) (au.nm 2)) (av (aU eP.nd (au.l 6) (aR (Ag e) (Hl e) (hr.mono (by decide)) (aa (aR (m4 e) (o7 e) (hr.mono (by decide)) (aa ao aj) (au.d 1) (au.g 1)) (aa (aR (sR e) (zX e) (hr.mono (by decide)) (aa (au.nm 3) (aa (aD (au.nm 0) (au.nm 4)) aj)) (au.d 6) (au.g 6)) aj)) (au.d 7) (au.g 7)))
  (ay (dD (aR (DZ e) (KI e) (hr.mono (by decide)) (aa (au.nm 6) (aa (aR (m4 e) (o7 e) (hr.mono (by decide)) (aa (aD (aD (au.nm 0) (au.nm 4)) (au.nm 5)) aj) (au.d 1) (au.g 1)) aj)) (au.d 8) (au.g 8)) (au.nm 3) (au.nm 5)))) cG))))
  (ay (aP (dS dH (aa (au.nm 3) aj) B.cW rfl cB (au.d 9) (au.g 9))))))))) tW
theorem zD:bG (KX w.params) mg "inside" "inside" kQ ["rows","row"] 232 (Hd.fd kQ "inside" "inside" qv 231):=Hd.iS e.X e.G (by kernel_rfl) fun _ _ _ _ _ _ _ _=>rfl
theorem FL:a8 PW w (KX w.params) mg base cq 6 232 (Hd.fd kQ "inside" "inside" qv 231) ["rows","row"] (cv tP):=by
 have B:=Bt e
 have Q:=Qt e
 exact bE (N:=pZ) (zD e).fn nV (fun cdv A outer s H E hr=>(av (aU nV.nd (bQ.l 2) (aR (p_ e) (uC e) (hr.mono (by decide)) (aa (bQ.nm 0) aj) (bQ.d 0) (bQ.g 0)))
  (av (aU nV.nd (bQ.l 3) (aD (bQ.nm 2) ao))
  (av (aU nV.nd (bQ.l 4) (aR (wC e) (Co e) (hr.mono (by decide)) (aa (bQ.nm 3) (aa (bQ.nm 1) aj)) (bQ.d 1) (bQ.g 1)))
  (av (dE (bO Lu (bj _) (aR (jB e) (lK e) (hr.mono (by decide)) (aa (aD (bQ.nm 4) ao) aj) (bQ.d 2) (bQ.g 2)) Gp) (ay (aP (kT (aa AV (aa (aR (oz e) (uJ e) (hr.mono (by decide)) (aa (bQ.nm 3) (aa (aD (bQ.nm 4) ao) aj)) (bQ.d 3) (bQ.g 3)) aj))))) cG)
  (ay (aP (kT (aa AV (aa (aR (tV e) (x8 e) (hr.mono (by decide)) (aa (aD (bQ.nm 4) ao) (aa (kG (aD (bQ.nm 2) ao) kh (kI (cw d6 (aa (bQ.nm 3) aj) B.d5 rfl c6 (bQ.d 4) (bQ.g 4)))) (aa (cw d6 (aa (bQ.nm 0) aj) B.d5 rfl c6 (bQ.d 4) (bQ.g 4)) aj))) (bQ.d 5) (bQ.g 5)) aj)))))))))) CA
theorem vo:bG (KX w.params) mg "space" "space" mW ["wide","rows"] 239 (Hd.fd mW "space" "space" An 238):=Hd.iS e.X e.G (by kernel_rfl) fun _ _ _ _ _ _ _ _=>rfl
theorem AE:a8 PW w (KX w.params) mg base cq 6 239 (Hd.fd mW "space" "space" An 238) ["wide","rows"] (cv sd):=by
 have B:=Bt e
 have Q:=Qt e
 exact bE (N:=r_) (vo e).fn FI (fun cdv A outer s H E hr=>(ay (aP (kT (aa (kv.nm 0) (aa (Ga (bO vj (bj _) (cw d6 (aa (kv.nm 1) aj) B.d5 rfl c6 (kv.d 0) (kv.g 0)) ao) (aD (aR (p_ e) (uC e) (hr.mono (by decide)) (aa (kv.nm 1) aj) (kv.d 1) (kv.g 1)) ao) (kT aj)) aj)))))) Fu
theorem jz:bG (KX w.params) mg "carried" "carried" jF ["one","rows"] 246 (Hd.fd jF "carried" "carried" An 245):=Hd.iS e.X e.G (by kernel_rfl) fun _ _ _ _ _ _ _ _=>rfl
theorem lu:a8 PW w (KX w.params) mg base cq 7 246 (Hd.fd jF "carried" "carried" An 245) ["one","rows"] (cv iF):=by
 have B:=Bt e
 have Q:=Qt e
 exact bE (N:=oo) (jz e).fn BG (fun cdv A outer s H E hr=>(ay (aP (aR (vo e) (AE e) (hr.mono (by decide)) (aa (cw d6 (aa (aD (fT.nm 1) ao) aj) B.d5 rfl c6 (fT.d 1) (fT.g 1)) (aa (aR (oA e) (rL e) (hr.mono (by decide)) (aa (aD (fT.nm 0) ao) (aa (fT.nm 1) aj)) (fT.d 0) (fT.g 0)) aj)) (fT.d 2) (fT.g 2))))) BH
theorem uA:bG (KX w.params) mg "_law_hand" "_law_hand" iQ ["_law_script"] 253 (Hd.fd iQ "_law_hand" "_law_hand" df 252):=Hd.qO e.X e.G (by kernel_rfl) fun _ _ _ _ _ _ _=>rfl
theorem Bd:a8 PW w (KX w.params) mg base cq 1 253 (Hd.fd iQ "_law_hand" "_law_hand" df 252) ["_law_script"] (cv pF):=by
 have B:=Bt e
 have Q:=Qt e
 exact bE (N:=mL) (uA e).fn tu (fun cdv A outer s H E hr=>(av (aU tu.nd (cL.l 1) (cw (GB rfl) (aa (kG (cL.nm 0) kh (kI ao)) aj) B.Gh rfl Du (cL.d 0) (cL.g 0)))
  (ay (aP (Gm (aa (dS lY (aa (kG (cL.nm 0) kh (kI ao)) aj) B.iY rfl gX (cL.d 3) (cL.g 3)) (aa ao (aa (a7 qX (cw pS (aa (cL.nm 1) aj) B.pX rfl nC (cL.d 1) (cL.g 1)) ao) (aa (dS BN (aa (xF NL (bj _) (cw pS (aa (cL.nm 1) aj) B.pX rfl nC (cL.d 1) (cL.g 1)) (a7 Bp ao ao)) aj) B.vc rfl qP (cL.d 2) (cL.g 2)) aj))))))))) zK
theorem cZ:bG (KX w.params) mg "_law_draw" "_law_draw" iI ["_law_hand_here","_law_many_here"] 260 (Hd.fd iI "_law_draw" "_law_draw" df 259):=Hd.iS e.X e.G (by kernel_rfl) fun _ _ _ _ _ _ _ _=>rfl
theorem di:a8 PW w (KX w.params) mg base cq 1 260 (Hd.fd iI "_law_draw" "_law_draw" df 259) ["_law_hand_here","_law_many_here"] (cv cx):=by
 have B:=Bt e
 have Q:=Qt e
 exact bE (N:=mO) (cZ e).fn i6 (fun cdv A outer s H E hr=>(av (tI (jY (uN (bO (kM hr) (bj _) (aD (aI.nm 0) ao) ao) (uN (bO (kM hr) (bj _) (aD (aI.nm 0) ao) ao) (vx (bO v7 (bj _) (a7 fh (aD (aI.nm 0) ao) ao) (cw d6 (aa (aD (aI.nm 0) ao) aj) B.d5 rfl c6 (aI.d 0) (aI.g 0))))))) (av (dD (a7 fh (aD (aI.nm 0) ao) ao) (aI.nm 0) ao)
  (ay (dD (cw pS (aa (aD (aD (aI.nm 0) ao) (aD (aI.nm 0) ao)) aj) B.pX rfl nC (aI.d 1) (aI.g 1)) (aI.nm 0) ao))))
  (av (dE (jY (uN (bO (kM hr) (bj _) (aD (aI.nm 0) ao) ao) (vx (bO vj (bj _) (aD (aI.nm 0) ao) ao)))) (av (aU i6.nd (aI.l 2) (a7 ox (aD (aI.nm 0) ao) (aI.nm 1)))
  (av (dD (a7 qX (aD (aI.nm 0) ao) (aI.nm 1)) (aI.nm 0) ao)
  (ay (aP (aI.nm 2))))) cG)
  (av (dD (a7 fh (aD (aI.nm 0) ao) ao) (aI.nm 0) ao)
  (av (aU i6.nd (aI.l 3) (cw (GB rfl) (aa (kG (kG (aD (aI.nm 0) ao) (kI (a7 ox (aD (aI.nm 0) ao) (cw (Mm rfl) (aa ao (aa (cw d6 (aa (aD (aI.nm 0) ao) aj) B.d5 rfl c6 (aI.d 0) (aI.g 0)) aj)) B.Mp rfl Js (aI.d 2) (aI.g 2)))) kh) kh (kI ao)) aj) B.Gh rfl Du (aI.d 3) (aI.g 3)))
  (av (aU i6.nd (aI.l 4) (a7 ox (a7 et (a7 fh (a7 fh (a7 ox (aI.nm 3) ao) (a7 et ao (aD (aI.nm 0) ao))) ao) (a7 fh ao (a7 et ao (aD (aI.nm 0) ao)))) ao))
  (av (aU i6.nd (aI.l 5) (a7 ox (a7 fh (a7 et (aI.nm 4) (a7 fh (a7 ox (aI.nm 4) ao) (aD (aI.nm 0) ao))) (a7 et ao (aD (aI.nm 0) ao))) ao))
  (ay (aP (a7 ox (a7 qX (aI.nm 5) ao) (aI.nm 1))))))))))) zQ
theorem qJ:bG (KX w.params) mg "_law_number" "_law_number" gq ["_law_hand_here","_law_wild"] 267 (Hd.fd gq "_law_number" "_law_number" df 266):=Hd.iS e.X e.G (by kernel_rfl) fun _ _ _ _ _ _ _ _=>rfl
theorem zf:a8 PW w (KX w.params) mg base cq 2 267 (Hd.fd gq "_law_number" "_law_number" df 266) ["_law_hand_here","_law_wild"] (cv nj):=by
 have B:=Bt e
 have Q:=Qt e
 exact bE (N:=jS) (qJ e).fn xa (fun cdv A outer s H E hr=>(av (dE (jY (uN (bO (kM hr) (bj _) (cy.nm 1) ao) (vx (bO (kM hr) (bj _) (aR (cZ e) (di e) (hr.mono (by decide)) (aa (cy.nm 0) (aa ao aj)) (cy.d 0) (cy.g 0)) ao)))) (ay (aP (a7 fh (a7 pG (aR (cZ e) (di e) (hr.mono (by decide)) (aa (cy.nm 0) (aa (a7 pG (a7 et ao (a7 Bp ao ao)) ao) aj)) (cy.d 0) (cy.g 0)) (a7 Bp ao ao)) ao))) cG)
  (av (dE (bO vj (bj _) (cy.nm 1) ao) (ay (aP (a7 pG (aR (cZ e) (di e) (hr.mono (by decide)) (aa (cy.nm 0) (aa ao aj)) (cy.d 0) (cy.g 0)) ao))) cG)
  (ay (aP (aD (ot (aa ao (aa ao (aa (jc ao) (aa ao (aa ao (aa ao (aa (jc ao) (aa ao aj))))))))) (aR (cZ e) (di e) (hr.mono (by decide)) (aa (cy.nm 0) (aa ao aj)) (cy.d 0) (cy.g 0)))))))) xl
theorem mv:bG (KX w.params) mg "_law_rows" "_law_rows" gK ["_law_hand_here","_law_many_here","_law_wide"] 272 (Hd.fd gK "_law_rows" "_law_rows" df 271):=Hd.vd e.X e.G (by kernel_rfl) fun _ _ _ _ _ _ _ _ _=>rfl
theorem qj:a8 PW w (KX w.params) mg base cq 3 272 (Hd.fd gK "_law_rows" "_law_rows" df 271) ["_law_hand_here","_law_many_here","_law_wide"] (cv j8):=by
 have B:=Bt e
 have Q:=Qt e
 exact bE (N:=mK) (mv e).fn oR (fun cdv A outer s H E hr=>(av (aU oR.nd (dw.l 3) (aR (cZ e) (di e) (hr.mono (by decide)) (aa (dw.nm 0) (aa ao aj)) (dw.d 0) (dw.g 0)))
  (av (dE (bO vj (bj _) (dw.nm 2) ao) (ay (aU oR.nd (dw.l 3) (cw (L_ rfl) (aa (dw.nm 3) (aa ao aj)) B.L6 rfl Lm (dw.d 1) (dw.g 1)))) cG)
  (ay (aP (dS dH (aa (eg (Nc:=["_law_j","_law_wide","_law_hand_here","_law_wild"]) (bz.look (ai gK) ["_law_hand_here","_law_many_here","_law_wide","_law_wild"] (by decide+kernel)) (eN (dw.g 2) B.eK (aa (dw.nm 1) aj)) (fun _ _ _ _=>(dh (show(["_law_j","_law_wide","_law_hand_here","_law_wild"]:List Str).Nodup by decide+kernel) (by first|exact Or.inl rfl|exact Or.inr rfl) (by first|exact .inl rfl|exact .inr rfl))) (fun _ _ _ _=>cK) (fun _ _ _ _=>(dS dH (aa (eg (Nc:=["_law_k","_law_hand_here","_law_wild"]) (bz.Gx (by decide+kernel)) (eN rfl B.eK (aa cR aj)) (fun _ _ _ _=>(dh (show(["_law_k","_law_hand_here","_law_wild"]:List Str).Nodup by decide+kernel) (by first|exact Or.inl rfl|exact Or.inr rfl) (by first|exact .inl rfl|exact .inr rfl))) (fun _ _ _ _=>cK) (fun _ _ _ _=>(aR (qJ e) (zf e) (hr.mono (by decide)) (aa cR (aa cR aj)) (by decide+kernel) rfl)) cm) aj) B.cW rfl cB (by decide+kernel) rfl)) cm) aj) B.cW rfl cB (dw.d 3) (dw.g 3))))))) z9
theorem sJ:bG (KX w.params) mg "_law_width" "_law_width" gT ["_law_hand_here"] 279 (Hd.fd gT "_law_width" "_law_width" df 278):=Hd.qO e.X e.G (by kernel_rfl) fun _ _ _ _ _ _ _=>rfl
theorem zN:a8 PW w (KX w.params) mg base cq 2 279 (Hd.fd gT "_law_width" "_law_width" df 278) ["_law_hand_here"] (cv oU):=by
 have B:=Bt e
 have Q:=Qt e
 exact bE (N:=kZ) (sJ e).fn yM (fun cdv A outer s H E hr=>(av (dE (bO (kM hr) (bj _) (aR (cZ e) (di e) (hr.mono (by decide)) (aa (eZ.nm 0) (aa ao aj)) (eZ.d 0) (eZ.g 0)) ao) (ay (aP (kT (aa (a7 fh ao (aR (cZ e) (di e) (hr.mono (by decide)) (aa (eZ.nm 0) (aa ao aj)) (eZ.d 0) (eZ.g 0))) (aa iy aj))))) cG)
  (ay (aP (kT (aa (a7 fh ao (aR (cZ e) (di e) (hr.mono (by decide)) (aa (eZ.nm 0) (aa ao aj)) (eZ.d 0) (eZ.g 0))) (aa iy aj))))))) yP
theorem uK:bG (KX w.params) mg "_law_many" "_law_many" iH ["_law_hand_here","_law_wide","_law_great"] 286 (Hd.fd iH "_law_many" "_law_many" df 285):=Hd.vd e.X e.G (by kernel_rfl) fun _ _ _ _ _ _ _ _ _=>rfl
theorem B0:a8 PW w (KX w.params) mg base cq 2 286 (Hd.fd iH "_law_many" "_law_many" df 285) ["_law_hand_here","_law_wide","_law_great"] (cv pN):=by
 have B:=Bt e
 have Q:=Qt e
 exact bE (N:=mN) (uK e).fn zL (fun cdv A outer s H E hr=>(av (dE (gS (eY.nm 2)) (ay (aP (aD (ot (aa (eY.nm 1) (aa ao (aa ao (aa (a7 pG (eY.nm 1) ao) aj))))) (aR (cZ e) (di e) (hr.mono (by decide)) (aa (eY.nm 0) (aa ao aj)) (eY.d 0) (eY.g 0))))) cG)
  (ay (aP (aR (cZ e) (di e) (hr.mono (by decide)) (aa (eY.nm 0) (aa (a7 fh (eY.nm 1) ao) aj)) (eY.d 0) (eY.g 0)))))) zJ
theorem sU:bG (KX w.params) mg "_law_falls" "_law_falls" fY ["_law_form","_law_row"] 291 (Hd.fd fY "_law_falls" "_law_falls" df 290):=Hd.iS e.X e.G (by kernel_rfl) fun _ _ _ _ _ _ _ _=>rfl
theorem zZ:a8 PW w (KX w.params) mg base cq 1 291 (Hd.fd fY "_law_falls" "_law_falls" df 290) ["_law_form","_law_row"] (cv oG):=by
 have B:=Bt e
 have Q:=Qt e
 exact bE (N:=k_) (sU e).fn gn (fun cdv A outer s H E hr=>(av (aU gn.nd (aW.l 2) (dS AM (aa (aW.nm 1) aj) B.iY rfl gX (aW.d 0) (aW.g 0)))
  (av (fF (fj (aW.nm 0)) (dh gn.nd (by first|exact Or.inl rfl|exact Or.inr rfl) (by first|exact .inl rfl|exact .inr rfl)) (av (aU gn.nd (aW.l 4) (aD (eg (Nc:=["_law_k","_law_step"]) (bz.look (ai fY) ["_law_form","_law_row","_law_left","_law_step","_law_lead","_law_many_here","_law_k"] (by decide+kernel)) (eN (aW.g 2) B.eK (aa (cw d6 (aa (aW.nm 3) aj) B.d5 rfl c6 (aW.d 1) (aW.g 1)) aj)) (fun _ _ _ _=>(dh (show(["_law_k","_law_step"]:List Str).Nodup by decide+kernel) (by first|exact Or.inl rfl|exact Or.inr rfl) (by first|exact .inl rfl|exact .inr rfl))) (fun _ _ _ _=>(zm (bO pL (bj _) (aD cR cR) ao))) (fun _ _ _ _=>cR) cm) ao))
  (av (aU gn.nd (aW.l 5) (a7 qX (aD (aW.nm 2) (aW.nm 4)) (aD (aW.nm 3) (aW.nm 4))))
  (ay (fF (eN (aW.g 2) B.eK (aa (cw d6 (aa (aW.nm 2) aj) B.d5 rfl c6 (aW.d 1) (aW.g 1)) aj)) (dh gn.nd (by first|exact Or.inl rfl|exact Or.inr rfl) (by first|exact .inl rfl|exact .inr rfl)) (ay (dD (a7 pG (aD (aW.nm 2) (aW.nm 6)) (a7 et (aW.nm 5) (aD (aW.nm 3) (aW.nm 6)))) (aW.nm 2) (aW.nm 6))))))))
  (ay (aP (dS dH (aa (aW.nm 2) aj) B.cW rfl cB (aW.d 3) (aW.g 3))))))) yS
theorem yI:bG (KX w.params) mg "_law_in" "_law_in" kJ ["_law_form","_law_row"] 298 (Hd.fd kJ "_law_in" "_law_in" df 297):=Hd.iS e.X e.G (by kernel_rfl) fun _ _ _ _ _ _ _ _=>rfl
theorem Fq:a8 PW w (KX w.params) mg base cq 2 298 (Hd.fd kJ "_law_in" "_law_in" df 297) ["_law_form","_law_row"] (cv uh):=by
 have B:=Bt e
 have Q:=Qt e
 exact bE (N:=qb) (yI e).fn Cn (fun cdv A outer s H E hr=>(ay (aP (FO (cw (Jp rfl) (aa (aR (sU e) (zZ e) (hr.mono (by decide)) (aa (kR.nm 0) (aa (kR.nm 1) aj)) (kR.d 0) (kR.g 0)) aj) B.L4 rfl La (kR.d 1) (kR.g 1)))))) Dh
theorem rq:bG (KX w.params) mg "_law_stands" "_law_stands" e8 ["_law_rows_here"] 303 (Hd.fd e8 "_law_stands" "_law_stands" df 302):=Hd.qO e.X e.G (by kernel_rfl) fun _ _ _ _ _ _ _=>rfl
theorem y6:a8 PW w (KX w.params) mg base cq 1 303 (Hd.fd e8 "_law_stands" "_law_stands" df 302) ["_law_rows_here"] (cv ng):=by
 have B:=Bt e
 have Q:=Qt e
 exact bE (N:=j9) (rq e).fn gQ (fun cdv A outer s H E hr=>(av (aU gQ.nd (bK.l 1) (jc ao))
  (av (fF (Dz (bK.g 0) B.sQ (aa (bK.nm 0) aj)) (pK rfl gQ.nd (by first|exact Or.inl rfl|exact Or.inr rfl) (by first|exact .inl rfl|exact .inr rfl) (by first|exact Or.inl rfl|exact Or.inr rfl) (by first|exact .inl rfl|exact .inr rfl)) (av (vO gQ.nd (bK.l 4) (Nc:=["_law_k","_law_row"]) (bz.look (ai e8) ["_law_rows_here","_law_last","_law_j","_law_row","_law_some"] (by decide+kernel)) (eN (bK.g 2) B.eK (aa (cw d6 (aa (bK.nm 3) aj) B.d5 rfl c6 (bK.d 1) (bK.g 1)) aj)) (fun _ _ _ _=>(dh (show(["_law_k","_law_row"]:List Str).Nodup by decide+kernel) (by first|exact Or.inl rfl|exact Or.inr rfl) (by first|exact .inl rfl|exact .inr rfl))) (fun _ _ _ _=>(zm (bO pL (bj _) (aD cR cR) ao))) (fun _ _ _ _=>cR) cm)
  (av (dE (jY (i_ (bO (kM hr) (bj _) (bK.nm 4) (ot aj)) (i_ (bO Jm (bj _) (aD (bK.nm 4) ao) (bK.nm 1)) (ll (bO v7 (bj _) (aD (bK.nm 3) (aD (bK.nm 4) ao)) ao))))) (ay (aP iy)) cG)
  (av (aU gQ.nd (bK.l 1) (aD (bK.nm 4) ao))
  (ay (dE (jP (gS (cw (A5 rfl) (aa (eg (Nc:=["_law_above","_law_last","_law_row"]) (bz.look (ai e8) ["_law_rows_here","_law_last","_law_j","_law_row","_law_some"] (by decide+kernel)) (fj (kG (bK.nm 0) kh (kI (bK.nm 2)))) (fun _ _ _ _=>(dh (show(["_law_above","_law_last","_law_row"]:List Str).Nodup by decide+kernel) (by first|exact Or.inl rfl|exact Or.inr rfl) (by first|exact .inl rfl|exact .inr rfl))) (fun _ _ _ _=>cK) (fun _ _ _ _=>(Hi Jm v7 ao (aD cR cR) (aD cR cR))) cm) aj) B.A8 rfl yA (bK.d 3) (bK.g 3)))) (ay (aP iy)) cG))))))
  (ay (aP iy))))) xm
theorem pB:bG (KX w.params) mg "_law_is_space" "_law_is_space" eO ["_law_found","_law_wide"] 308 (Hd.fd eO "_law_is_space" "_law_is_space" df 307):=Hd.iS e.X e.G (by kernel_rfl) fun _ _ _ _ _ _ _ _=>rfl
theorem vM:a8 PW w (KX w.params) mg base cq 2 308 (Hd.fd eO "_law_is_space" "_law_is_space" df 307) ["_law_found","_law_wide"] (cv kn):=by
 have B:=Bt e
 have Q:=Qt e
 exact bE (N:=iP) (pB e).fn n_ (fun cdv A outer s H E hr=>(av (dE (jY (i_ (jP (gS (cw pP (aa (ax.nm 0) (aa (ui B.cW rfl cB (ax.d 0) (ax.g 0)) aj)) B.fD rfl fe (ax.d 1) (ax.g 1)))) (i_ (bO pL (bj _) (cw d6 (aa (ax.nm 0) aj) B.d5 rfl c6 (ax.d 2) (ax.g 2)) ao) (ll (jP (gS (cw pP (aa (aD (ax.nm 0) ao) (aa (ui B.cW rfl cB (ax.d 0) (ax.g 0)) aj)) B.fD rfl fe (ax.d 1) (ax.g 1)))))))) (ay (aP iy)) cG)
  (av (dE (jY (i_ (jP (gS (cw pP (aa (aD (ax.nm 0) ao) (aa (ui B.vc rfl qP (ax.d 3) (ax.g 3)) aj)) B.fD rfl fe (ax.d 1) (ax.g 1)))) (i_ (gS (cw pP (aa (aD (ax.nm 0) ao) (aa (ui B.DH rfl AO (ax.d 4) (ax.g 4)) aj)) B.fD rfl fe (ax.d 1) (ax.g 1))) (ll (bO pL (bj _) (aD (ax.nm 0) ao) (ax.nm 1)))))) (ay (aP iy)) cG)
  (av (fF (fj (aD (ax.nm 0) ao)) (dh n_.nd (by first|exact Or.inl rfl|exact Or.inr rfl) (by first|exact .inl rfl|exact .inr rfl)) (av (dE (jY (i_ (jP (gS (cw pP (aa (ax.nm 2) (aa (ui B.cW rfl cB (ax.d 0) (ax.g 0)) aj)) B.fD rfl fe (ax.d 1) (ax.g 1)))) (ll (bO pL (bj _) (cw d6 (aa (ax.nm 2) aj) B.d5 rfl c6 (ax.d 2) (ax.g 2)) (ax.nm 1))))) (ay (aP iy)) cG)
  (ay (dE (jP (gS (cw (A5 rfl) (aa (eg (Nc:=["_law_one"]) (bz.look (ai eO) ["_law_found","_law_wide","_law_row"] (by decide+kernel)) (fj (ax.nm 2)) (fun _ _ _ _=>(dh (show(["_law_one"]:List Str).Nodup by decide+kernel) (by first|exact Or.inl rfl|exact Or.inr rfl) (by first|exact .inl rfl|exact .inr rfl))) (fun _ _ _ _=>cK) (fun _ _ _ _=>(F8 (cw pP (aa cR (aa (ui B.vc rfl qP (by decide+kernel) rfl) aj)) B.fD rfl fe (by decide+kernel) rfl) (GL (FO (cw pP (aa cR (aa (ui B.DH rfl AO (by decide+kernel) rfl) aj)) B.fD rfl fe (by decide+kernel) rfl))))) cm) aj) B.A8 rfl yA (ax.d 5) (ax.g 5)))) (ay (aP iy)) cG))))
  (ay (aP (aR (rq e) (y6 e) (hr.mono (by decide)) (aa (aD (ax.nm 0) ao) aj) (ax.d 6) (ax.g 6)))))))) uQ
theorem rl:bG (KX w.params) mg "_law_sum" "_law_sum" jE ["_law_weights","_law_rows_here","_law_wide"] 315 (Hd.fd jE "_law_sum" "_law_sum" df 314):=Hd.vd e.X e.G (by kernel_rfl) fun _ _ _ _ _ _ _ _ _=>rfl
theorem wm:a8 PW w (KX w.params) mg base cq 1 315 (Hd.fd jE "_law_sum" "_law_sum" df 314) ["_law_weights","_law_rows_here","_law_wide"] (cv oa):=by
 have B:=Bt e
 have Q:=Qt e
 exact bE (N:=nX) (rl e).fn mr (fun cdv A outer s H E hr=>(av (aU mr.nd (cF.l 3) (a7 DP (ot (aa ao aj)) (cF.nm 2)))
  (av (fF (xC (cF.g 0) B.xr (aa (cF.nm 0) (aa (cF.nm 1) aj))) (pK rfl mr.nd (by first|exact Or.inl rfl|exact Or.inr rfl) (by first|exact .inl rfl|exact .inr rfl) (by first|exact Or.inl rfl|exact Or.inr rfl) (by first|exact .inl rfl|exact .inr rfl)) (ay (fF (eN (cF.g 1) B.eK (aa (cF.nm 2) aj)) (dh mr.nd (by first|exact Or.inl rfl|exact Or.inr rfl) (by first|exact .inl rfl|exact .inr rfl)) (ay (dD (a7 fh (aD (cF.nm 3) (cF.nm 6)) (a7 et (cF.nm 4) (aD (cF.nm 5) (cF.nm 6)))) (cF.nm 3) (cF.nm 6))))))
  (ay (aP (dS dH (aa (cF.nm 3) aj) B.cW rfl cB (cF.d 2) (cF.g 2))))))) Br
theorem l9:bG (KX w.params) mg "_law_product" "_law_product" fb ["_law_rows_here","_law_others","_law_wide"] 320 (Hd.fd fb "_law_product" "_law_product" df 319):=Hd.vd e.X e.G (by kernel_rfl) fun _ _ _ _ _ _ _ _ _=>rfl
theorem qp:a8 PW w (KX w.params) mg base cq 2 320 (Hd.fd fb "_law_product" "_law_product" df 319) ["_law_rows_here","_law_others","_law_wide"] (cv i8):=by
 have B:=Bt e
 have Q:=Qt e
 exact bE (N:=ja) (l9 e).fn vJ (fun cdv A outer s H E hr=>(ay (aP (dS dH (aa (eg (Nc:=["_law_row","_law_others","_law_wide"]) (bz.look (ai fb) ["_law_rows_here","_law_others","_law_wide"] (by decide+kernel)) (fj (md.nm 0)) (fun _ _ _ _=>(dh (show(["_law_row","_law_others","_law_wide"]:List Str).Nodup by decide+kernel) (by first|exact Or.inl rfl|exact Or.inr rfl) (by first|exact .inl rfl|exact .inr rfl))) (fun _ _ _ _=>cK) (fun _ _ _ _=>(aR (rl e) (wm e) (hr.mono (by decide)) (aa cR (aa cR (aa cR aj))) (by decide+kernel) rfl)) cm) aj) B.cW rfl cB (md.d 0) (md.g 0))))) vE
theorem oY:bG (KX w.params) mg "_law_all_sums" "_law_all_sums" ft ["_law_rows_here","_law_others","_law_wide"] 327 (Hd.fd ft "_law_all_sums" "_law_all_sums" df 326):=Hd.vd e.X e.G (by kernel_rfl) fun _ _ _ _ _ _ _ _ _=>rfl
theorem vZ:a8 PW w (KX w.params) mg base cq 7 327 (Hd.fd ft "_law_all_sums" "_law_all_sums" df 326) ["_law_rows_here","_law_others","_law_wide"] (cv kO):=by
 have B:=Bt e
 have Q:=Qt e
 exact bE (N:=iL) (oY e).fn kb (fun cdv A outer s H E hr=>(av (fF (fj (a_.nm 0)) (dh kb.nd (by first|exact Or.inl rfl|exact Or.inr rfl) (by first|exact .inl rfl|exact .inr rfl)) (av (aU kb.nd (a_.l 4) (aR (zD e) (FL e) (hr.mono (by decide)) (aa (a_.nm 1) (aa (a_.nm 3) aj)) (a_.d 0) (a_.g 0)))
  (ay (dE (jY (i_ (bO (rT hr) (bj _) (aD (a_.nm 4) ao) AV) (i_ (bO (rT hr) (bj _) (aR (rl e) (wm e) (hr.mono (by decide)) (aa (aD (a_.nm 4) ao) (aa (a_.nm 1) (aa (a_.nm 2) aj))) (a_.d 1) (a_.g 1)) (a_.nm 3)) (ll (bO pL (bj _) (cw d6 (aa (aD (a_.nm 4) ao) aj) B.d5 rfl c6 (a_.d 2) (a_.g 2)) (cw d6 (aa (a_.nm 1) aj) B.d5 rfl c6 (a_.d 2) (a_.g 2))))))) (ay (aP iy)) cG))))
  (ay (aP iy)))) uD
theorem qV:bG (KX w.params) mg "_law_listed" "_law_listed" fE ["_law_one"] 332 (Hd.fd fE "_law_listed" "_law_listed" df 331):=Hd.qO e.X e.G (by kernel_rfl) fun _ _ _ _ _ _ _=>rfl
theorem zx:a8 PW w (KX w.params) mg base cq 1 332 (Hd.fd fE "_law_listed" "_law_listed" df 331) ["_law_one"] (cv nQ):=by
 have B:=Bt e
 have Q:=Qt e
 exact bE (N:=ke) (qV e).fn xp (fun cdv A outer s H E hr=>(ay (aP (ot (aa (aD (rf.nm 0) ao) (aa (eg (Nc:=["_law_row"]) (bz.look (ai fE) ["_law_one"] (by decide+kernel)) (fj (aD (rf.nm 0) ao)) (fun _ _ _ _=>(dh (show(["_law_row"]:List Str).Nodup by decide+kernel) (by first|exact Or.inl rfl|exact Or.inr rfl) (by first|exact .inl rfl|exact .inr rfl))) (fun _ _ _ _=>cK) (fun _ _ _ _=>(dS lY (aa cR aj) B.iY rfl gX (by decide+kernel) rfl)) cm) aj)))))) xq
theorem Mq:bG (KX w.params) mg "law" "law" jd ["_law_script"] 337 (Hd.fd jd "law" "law" df 336):=Hd.qO e.X e.G (by kernel_rfl) fun _ _ _ _ _ _ _=>rfl
theorem Mz:a8 PW w (KX w.params) mg base cq 8 337 (Hd.fd jd "law" "law" df 336) ["_law_script"] (cv F0):=by
 have B:=Bt e
 have Q:=Qt e
 exact bE (N:=xR) (Mq e).fn fV (fun cdv A outer s H E hr=>(av (aU fV.nd (aw.l 1) (aR (uA e) (Bd e) (hr.mono (by decide)) (aa (aw.nm 0) aj) (aw.d 0) (aw.g 0)))
  (av (JK (aR (sJ e) (zN e) (hr.mono (by decide)) (aa (aw.nm 1) aj) (aw.d 1) (aw.g 1)) (pK rfl fV.nd (by first|exact Or.inl rfl|exact Or.inr rfl) (by first|exact .inl rfl|exact .inr rfl) (by first|exact Or.inl rfl|exact Or.inr rfl) (by first|exact .inl rfl|exact .inr rfl)))
  (av (aU fV.nd (aw.l 4) (aR (vo e) (AE e) (hr.mono (by decide)) (aa (aw.nm 2) (aa (aR (mv e) (qj e) (hr.mono (by decide)) (aa (aw.nm 1) (aa (aR (uK e) (B0 e) (hr.mono (by decide)) (aa (aw.nm 1) (aa (aw.nm 2) (aa (aw.nm 3) aj))) (aw.d 2) (aw.g 2)) (aa (aw.nm 2) aj))) (aw.d 3) (aw.g 3)) aj)) (aw.d 4) (aw.g 4)))
  (av (aU fV.nd (aw.l 5) (aD (ot (aa (a7 fh ao (aR (cZ e) (di e) (hr.mono (by decide)) (aa (aw.nm 1) (aa ao aj)) (aw.d 5) (aw.g 5))) (aa (a7 fh ao (aR (cZ e) (di e) (hr.mono (by decide)) (aa (aw.nm 1) (aa ao aj)) (aw.d 5) (aw.g 5))) aj))) (dS BN (aa (aw.nm 3) aj) B.vc rfl qP (aw.d 6) (aw.g 6))))
  (av (aU fV.nd (aw.l 6) (aR (mv e) (qj e) (hr.mono (by decide)) (aa (aw.nm 1) (aa (aw.nm 2) (aa (aw.nm 5) aj))) (aw.d 3) (aw.g 3)))
  (av (aU fV.nd (aw.l 7) (aR (jz e) (lu e) (hr.mono (by decide)) (aa (aw.nm 4) (aa (aw.nm 6) aj)) (aw.d 7) (aw.g 7)))
  (av (aU fV.nd (aw.l 8) (aR (l9 e) (qp e) (hr.mono (by decide)) (aa (aD (aw.nm 4) ao) (aa (aw.nm 6) (aa (aw.nm 5) aj))) (aw.d 8) (aw.g 8)))
  (av (dE (jY (i_ (jP (gS (aR (pB e) (vM e) (hr.mono (by decide)) (aa (aw.nm 7) (aa (aw.nm 5) aj)) (aw.d 9) (aw.g 9)))) (ll (jP (gS (cw (A5 rfl) (aa (eg (Nc:=["_law_row","_law_found"]) (bz.look (ai jd) ["_law_script","_law_hand_here","_law_wide","_law_great","_law_one","_law_far","_law_rows_here","_law_found","_law_made","_law_told","_law_units","_law_end","_law_more","_law_handed","_law_both"] (by decide+kernel)) (fj (aw.nm 8)) (fun _ _ _ _=>(dh (show(["_law_row","_law_found"]:List Str).Nodup by decide+kernel) (by first|exact Or.inl rfl|exact Or.inr rfl) (by first|exact .inl rfl|exact .inr rfl))) (fun _ _ _ _=>cK) (fun _ _ _ _=>(aR (yI e) (Fq e) (hr.mono (by decide)) (aa (aD cR ao) (aa cR aj)) (by decide+kernel) rfl)) cm) aj) B.A8 rfl yA (aw.d 10) (aw.g 10))))))) (ay (aP iy)) cG)
  (av (dE (bO vj (bj _) (cw d6 (aa (aw.nm 8) aj) B.d5 rfl c6 (aw.d 11) (aw.g 11)) ao) (av (aU fV.nd (aw.l 9) (aR (oA e) (rL e) (hr.mono (by decide)) (aa (aD (aw.nm 4) ao) (aa (aw.nm 6) aj)) (aw.d 12) (aw.g 12)))
  (ay (dE (jY (i_ (bO (rT hr) (bj _) (aw.nm 9) (aw.nm 8)) (ll (jP (gS (aR (oY e) (vZ e) (hr.mono (by decide)) (aa (aD (aw.nm 7) ao) (aa (aw.nm 9) (aa (aw.nm 5) aj))) (aw.d 13) (aw.g 13))))))) (ay (aP iy)) cG))) cG)
  (av (aU fV.nd (aw.l 10) (dS dH (aa (eg (Nc:=["_law_j","_law_wide"]) (bz.look (ai jd) ["_law_script","_law_hand_here","_law_wide","_law_great","_law_one","_law_far","_law_rows_here","_law_found","_law_made","_law_told","_law_units","_law_end","_law_more","_law_handed","_law_both"] (by decide+kernel)) (eN (aw.g 14) B.eK (aa (aw.nm 2) aj)) (fun _ _ _ _=>(dh (show(["_law_j","_law_wide"]:List Str).Nodup by decide+kernel) (by first|exact Or.inl rfl|exact Or.inr rfl) (by first|exact .inl rfl|exact .inr rfl))) (fun _ _ _ _=>cK) (fun _ _ _ _=>(dS dH (aa (eg (Nc:=["_law_k","_law_j"]) (bz.Gx (by decide+kernel)) (eN rfl B.eK (aa cR aj)) (fun _ _ _ _=>(dh (show(["_law_k","_law_j"]:List Str).Nodup by decide+kernel) (by first|exact Or.inl rfl|exact Or.inr rfl) (by first|exact .inl rfl|exact .inr rfl))) (fun _ _ _ _=>cK) (fun _ _ _ _=>(dS BN (aa (xF (kM hr) (bj _) cR cR) aj) B.vc rfl qP (by decide+kernel) rfl)) cm) aj) B.cW rfl cB (by decide+kernel) rfl)) cm) aj) B.cW rfl cB (aw.d 15) (aw.g 15)))
  (av (aU fV.nd (aw.l 11) (a7 fh ao (aR (cZ e) (di e) (hr.mono (by decide)) (aa (aw.nm 1) (aa ao aj)) (aw.d 5) (aw.g 5))))
  (av (aU fV.nd (aw.l 12) (aR (mv e) (qj e) (hr.mono (by decide)) (aa (aw.nm 1) (aa (aw.nm 5) (aa (aw.nm 11) aj))) (aw.d 3) (aw.g 3)))
  (av (vO fV.nd (aw.l 13) (Nc:=["_law_row"]) (bz.look (ai jd) ["_law_script","_law_hand_here","_law_wide","_law_great","_law_one","_law_far","_law_rows_here","_law_found","_law_made","_law_told","_law_units","_law_end","_law_more","_law_handed","_law_both"] (by decide+kernel)) (fj (aw.nm 6)) (fun _ _ _ _=>(dh (show(["_law_row"]:List Str).Nodup by decide+kernel) (by first|exact Or.inl rfl|exact Or.inr rfl) (by first|exact .inl rfl|exact .inr rfl))) (fun _ _ _ _=>cK) (fun _ _ _ _=>(dS lY (aa cR aj) B.iY rfl gX (by decide+kernel) rfl)) cm)
  (av (dE (jY (i_ (bO (rT hr) (bj _) (aR (jz e) (lu e) (hr.mono (by decide)) (aa (aw.nm 4) (aa (aw.nm 10) aj)) (aw.d 7) (aw.g 7)) (aw.nm 4)) (ll (bO (rT hr) (bj _) (aR (jz e) (lu e) (hr.mono (by decide)) (aa (aR (qV e) (zx e) (hr.mono (by decide)) (aa (aw.nm 4) aj) (aw.d 16) (aw.g 16)) (aa (aw.nm 13) aj)) (aw.d 7) (aw.g 7)) (aw.nm 7))))) (ay (aP iy)) cG)
  (av (dE (bO (rT hr) (bj _) (aw.nm 13) (eg (Nc:=["_law_row"]) (bz.look (ai jd) ["_law_script","_law_hand_here","_law_wide","_law_great","_law_one","_law_far","_law_rows_here","_law_found","_law_made","_law_told","_law_units","_law_end","_law_more","_law_handed","_law_both"] (by decide+kernel)) (fj (aw.nm 6)) (fun _ _ _ _=>(dh (show(["_law_row"]:List Str).Nodup by decide+kernel) (by first|exact Or.inl rfl|exact Or.inr rfl) (by first|exact .inl rfl|exact .inr rfl))) (fun _ _ _ _=>cK) (fun _ _ _ _=>(dS lY (aa cR aj) B.iY rfl gX (by decide+kernel) rfl)) cm)) (ay (aP iy)) cG)
  (av (aU fV.nd (aw.l 14) (aR (oA e) (rL e) (hr.mono (by decide)) (aa (aw.nm 6) (aa (aw.nm 12) aj)) (aw.d 12) (aw.g 12)))
  (ay (aP (F8 (xF (kM hr) (bj _) (aw.nm 14) (aR (l9 e) (qp e) (hr.mono (by decide)) (aa (aw.nm 6) (aa (aw.nm 12) (aa (aw.nm 11) aj))) (aw.d 8) (aw.g 8))) (GL (xF (kM hr) (bj _) (aR (jz e) (lu e) (hr.mono (by decide)) (aa (aw.nm 7) (aa (aw.nm 12) aj)) (aw.d 7) (aw.g 7)) (aR (jz e) (lu e) (hr.mono (by decide)) (aa (aw.nm 4) (aa (aw.nm 14) aj)) (aw.d 7) (aw.g 7)))))))))))))))))))))))) Kk
end
noncomputable def dL:DefRec:=match jd with
 | .FunctionDef n a b _ _ _ sc _ _ pos=>⟨n,a,b,sc,pos⟩
 |_=>⟨"",L2.iK (.Pass ⟨0,0,0,0⟩),[],L2.ai (.Pass ⟨0,0,0,0⟩),⟨0,0,0,0⟩⟩
theorem Fp:PySem.Challenge.rw_latticeworks_k66_spaces_carried.wellSaid=true:=by decide+kernel
end Row
open PySem PySem.W PyProof.Rows
set_option maxRecDepth 100000 in
set_option maxHeartbeats 0 in
theorem PySem.Challenge.cw_latticeworks_k66_spaces_carried_holds : PySem.Challenge.rw_latticeworks_k66_spaces_carried.Holds := by
 refine PySem.W.holds_law Row.Fp fun Fp=>?_
 refine PySem.W.holds_open (r:=PySem.Challenge.rw_latticeworks_k66_spaces_carried.row) (q:=PySem.W.view Row.PW [1,2,3,4,5,6,7,9,10,11,12,13,14,15,16,18,19,20,21,22,23,24,26,27,28,29,31,32,34,35,36,37,38,39,40,41,42,43,44,45,46,47,48]) (loose:=[]) (Xt:=fun _=>true) (XP:=fun _ _=>True) (YP:=(PySem.W.kmHook Row.KX Row.KA (fun _=>rfl) [166]).says) (d:=Row.dL) (kwd:=[]) Row.left ((PySem.W.kmHook Row.KX Row.KA (fun _=>rfl) [166]).of) ((PySem.W.kmHook Row.KX Row.KA (fun _=>rfl) [166]).keeps) (fun _ _=>trivial) (fun _ _ _ _ _=>trivial) (by kernel_rfl) (by kernel_rfl) (by kernel_rfl) (fun s _=>PySem.W.recFacts_of (R:=[]) rfl) (by kernel_rfl) Fp (by decide+kernel) ⟨rfl,rfl,rfl,rfl,rfl,by decide+kernel⟩ ?hw ?hc
 case hw=>w_witness2
 refine L2.MM (n:=63) (k:=8) (x:="_law_script") (ts:=[(168,166)]) (K:=Row.KX) (sp:=fun w=>L3.Df (Row.KX w.params) [(168,166)]) rfl (by decide) (by kernel_rfl) ⟨rfl,by decide,by decide⟩ (by kernel_rfl) rfl (fun w h Y=>⟨PySem.W.km_in_of Y,⟨(fun q hq=>by rcases List.mem_cons.mp hq with rfl|hq;kernel_rfl;cases hq),(fun q hq=>by rcases List.mem_cons.mp hq with rfl|hq;kernel_rfl;cases hq),fun q hq=>PySem.W.km_tabs_of Y _ (List.mem_map_of_mem (f:=Prod.snd) hq)⟩⟩) ?F fun _ _ a ns hl hE=>⟨a,ns,rfl,hE,hl,fun _=>rfl⟩
 intro w mg fa h X G hmg
 have e2:=hmg.symm.trans (PySem.W.mg_of (v:= .ref 337) X G (by kernel_rfl))
 cases e2
 exact⟨Hd.fd Row.jd "law" "law" Row.df 336,fun s v=> .of_eq rfl,fun base _ _=>(Row.Mz ⟨X,G⟩).imp fun vs H Q E h=>L3.DU (tl:=[(166,⟨85,32,85,66⟩,"Bench.live_rows.<locals>.<lambda>")]) (by kernel_rfl) rfl (by decide) h⟩
