import PyProof.Rows.All
import Wide.All
import OpenK.AllK
import Wide.FinOn
import Lean
import PyProof.EqAt
import PyProof.EqKinds
import PyProof.TupleCall
import PyProof.NeKinds
import KE.KUnpack
import PySem.Challenge.RW_latticeworks_k14_standing_shown
set_option Elab.async false
set_option linter.all false
set_option maxRecDepth 100000
namespace L2
open PySem PySem.Spec PyProof.Rows
noncomputable abbrev Key:=Sum Int Str
noncomputable def Hi:Key→Value→Bool
 | .inl k,v=>Value.isInt k v
 | .inr x,v=>Value.isStrOf x v
noncomputable def Of(w:World):Key→Int
 | .inl k=>hashInt k
 | .inr x=>hashStr w x
theorem eO:∀ {k:Key} {v:Value},Hi k v=true→(∃i t,k=Sum.inl i∧v=Value.int i t)∨(∃x t,k=Sum.inr x∧v=Value.str x t)
 | .inl i,v,h=>by
   obtain⟨t,e⟩:=Value.isInt_shape (k:=i) (v:=v) h
   exact .inl ⟨i,t,rfl,e⟩
 | .inr x,v,h=>by
   obtain⟨t,e⟩:=Value.isStrOf_shape (x:=x) (v:=v) h
   exact .inr ⟨x,t,rfl,e⟩
theorem K0(a b:Int):decide ((Sum.inl a:Key)=Sum.inl b)=(a==b):=by
 by_cases e:a=b
 · subst e;simp
 · have h:¬(Sum.inl a:Key)=Sum.inl b:=fun q=>e (Sum.inl.inj q)
   rw[decide_eq_false h]
   exact(beq_eq_false_iff_ne.mpr e).symm
theorem JZ(a b:Str):decide ((Sum.inr a:Key)=Sum.inr b)=decide (a=b):=by
 by_cases e:a=b
 · subst e;simp
 · have h:¬(Sum.inr a:Key)=Sum.inr b:=fun q=>e (Sum.inr.inj q)
   rw[decide_eq_false h,decide_eq_false e]
theorem Kz(a:Int)(b:Str):decide ((Sum.inl a:Key)=Sum.inr b)=false:=decide_eq_false (fun q=>nomatch q)
theorem Kv(a:Str)(b:Int):decide ((Sum.inr a:Key)=Sum.inl b)=false:=decide_eq_false (fun q=>nomatch q)
noncomputable def Bd(prog:Program)(w:World):PySem.KeyKind prog w Key where
 is:=Hi
 hash:=Of w
 inj:=fun v a b ha hb=>by
  rcases eO ha with⟨i,t,rfl,rfl⟩|⟨x,t,rfl,rfl⟩
  · rcases eO hb with⟨j,u,rfl,e⟩|⟨y,u,rfl,e⟩
    · injection e with e1 _;rw[e1]
    · exact nomatch e
  · rcases eO hb with⟨j,u,rfl,e⟩|⟨y,u,rfl,e⟩
    · exact nomatch e
    · injection e with e1 _;rw[e1]
 byValue:=fun k v h=>by
  rcases eO h with⟨i,t,rfl,rfl⟩|⟨x,t,rfl,rfl⟩<;>rfl
 pyHash:=fun hv h=>by
  rcases eO hv with⟨i,t,rfl,rfl⟩|⟨x,t,rfl,rfl⟩
  · exact wpAny_pyHash_int h
  · exact wpAny_pyHash_str h
 eqBool:=fun hu hv h=>by
  rcases eO hu with⟨i,t,rfl,rfl⟩|⟨x,t,rfl,rfl⟩
  · rcases eO hv with⟨j,u,rfl,rfl⟩|⟨y,u,rfl,rfl⟩
    · rw[K0]at h;exact wpAny_eqBool_int h
    · rw[Kz]at h;exact SeqAt.EqAt.int_str i t y u _ _ _ _ h
  · rcases eO hv with⟨j,u,rfl,rfl⟩|⟨y,u,rfl,rfl⟩
    · rw[Kv]at h;exact SeqAt.EqAt.str_int x t j u _ _ _ _ h
    · rw[JZ]at h;exact wpAny_eqBool_str h
 «strs» :=fun k x t v h=>by
  rcases eO h with⟨i,u,rfl,e⟩|⟨y,u,rfl,e⟩
  · exact nomatch e
  · injection e with e1 _
    subst e1
    cases v<;>rfl
end L2
namespace L2
open PySem PySem.Spec PyProof.Rows
inductive V where
 |aA|bl (b:Bool)|int (i:Int)|str (x:Str)|tP (b:Array UInt8)|tJ (b:UInt64)|ref (a:Addr)|ty (n:String)
 deriving DecidableEq
noncomputable def RelV:V→Value→Prop
 | .aA,u=>u=Value.none
 | .bl b,u=>u=Value.bool b
 | .int i,u=>∃t,u=Value.int i t
 | .str x,u=>∃t,u=Value.str x t
 | .tP b,u=>∃t,u=Value.bytes b t
 | .tJ b,u=>∃t,u=Value.float b t
 | .ref a,u=>u=Value.ref a
 | .ty n,u=>u=Value.type n
noncomputable abbrev Vals:List V→List Value→Prop:=Paired RelV
theorem Vals.length{xs:List V}{us:List Value}(r:Vals xs us):xs.length=us.length:=Paired.length r
theorem Vals.get:∀ {xs:List V} {us:List Value} {i:Nat} {x:V},Vals xs us→xs[i]?=some x→∃u,us[i]?=some u∧RelV x u
 |_,_,_,_,.nil,e=>by simp at e
 |_,_,0,_,.cons r _,e=>by simp at e;subst e;exact⟨_,rfl,r⟩
 |_,_,i+1,x,.cons _ t,e=>by
  obtain⟨u,h1,h2⟩:=Vals.get (i:=i) (x:=x) t (by simpa using e)
  exact⟨u,by simpa using h1,h2⟩
theorem Vals.set{x:V}{u:Value}(r:RelV x u):∀ {xs:List V} {us:List Value} (i:Nat),Vals xs us→Vals (xs.set i x) (us.set i u)
 |_,_,_,.nil=> .nil
 |_,_,0,.cons _ t=> .cons r t
 |_,_,i+1,.cons q t=> .cons q (Vals.set r i t)
theorem Vals.append:∀ {xs ys:List V} {us ws:List Value},Vals xs us→Vals ys ws→Vals (xs++ys) (us++ws)
 |_,_,_,_,.nil,s=>s
 |_,_,_,_,.cons r t,s=> .cons r (Vals.append t s)
theorem Vals.take:∀ {xs:List V} {us:List Value} (n:Nat),Vals xs us→Vals (xs.take n) (us.take n)
 |_,_,0,_=> .nil
 |_,_,_+1,.nil=> .nil
 |_,_,n+1,.cons r t=> .cons r (Vals.take n t)
theorem Vals.drop:∀ {xs:List V} {us:List Value} (n:Nat),Vals xs us→Vals (xs.drop n) (us.drop n)
 |_,_,0,r=>r
 |_,_,_+1,.nil=> .nil
 |_,_,n+1,.cons _ t=>Vals.drop n t
noncomputable def o8:Option V→Option Value→Prop
 |some v,some u=>RelV v u
 |none,none=>True
 |_,_=>False
noncomputable def KV{κ:Type}:List (κ×V)→List (κ×Value)→Prop:=Paired fun(p:κ×V) (q:κ×Value)=>p.1=q.1∧RelV p.2 q.2
noncomputable def kV:Key→V
 | .inl i=> .int i
 | .inr x=> .str x
inductive HO where
 |lst (xs:List V)
 |tup (xs:List V)
 |dK (kvs:List (Key×V))|dT (kvs:List (List Key×V))
 |set (S:Int→Bool) (n:Nat)
 |ins (C dx:Addr) (fs:List (Str×V))
 |own (x:Addr)
 |xd (fs:List (Str×V))
 |met (f x:Addr)
 |LD (lo hi:Int)
 |gj (o:Obj) (u:HO)
 |kh (ps:Array Value)
 |ext (φ:Heap→Prop)
noncomputable abbrev Hp:=Addr→Option HO
noncomputable def upd(H:Hp)(a:Addr)(o:HO):Hp:=fun b=>if b=a then some o else H b
theorem a5{H:Hp}{a:Addr}{o:HO}:upd H a o a=some o:=by unfold upd;rw[if_pos rfl]
theorem aQ{H:Hp}{a b:Addr}{o:HO}(h:b≠a):upd H a o b=H b:=by unfold upd;rw[if_neg h]
theorem H0{H:Hp}{a:Addr}{o u:HO}:upd (upd H a o) a u=upd H a u:=by
 funext b;unfold upd;split<;>rfl
theorem dq{H:Hp}{a b:Addr}{o:HO}(h:H a=some o)(h':H b=none):a≠b:=by
 intro e;subst e;rw[h]at h';cases h'
section
variable (P:Program)(w:World)
noncomputable def dj(H:Hp)(h:Heap)(a:Addr):HO→Prop
 | .lst xs=>xs.length≤sizeLine∧∃(au:List Value) (n:Nat),Vals xs au∧h.get? a=some {cls:= .type "list",data:= .seq au.toArray n}
 | .tup xs=>xs.length≤sizeLine∧∃au:List Value,Vals xs au∧IsTup h a au.toArray
 | .dK kvs=>kvs.length≤sizeLine∧(a==sysModules)=false∧∃vs,KV kvs vs∧h.DictOf (Bd P w) a vs
 | .dT kvs=>kvs.length≤sizeLine∧(a==sysModules)=false∧∃xs:List (List Key×Addr×Value),
    Paired (fun(p:List Key×V) (q:List Key×Addr×Value)=>p.1=q.1∧H q.2.1=some (.tup (p.1.map kV))∧RelV p.2 q.2.2) kvs xs∧
    ∃o es ep,h.get? a=some o∧o.ExactDict∧o.data= .dict es ep∧es.toList=xs.map (entryOfKey (tupleKind (Bd P w)))∧(xs.map (·.1)).Nodup
 | .set S n=>h.SetOf (intKind P w) a S n
 | .ins C dx fs=>H dx=some (.own a)∧fs.length≤1000∧dx≠a∧h.get? a=some (PySem.W.instObj C dx)∧
    ∃mA,h.Ns1 dx mA∧(∀f,o8 (fs.lookup f) (mA f))∧PySem.Within mA (fs.map (·.1))
 | .own _=>∃o,h.get? a=some o
 | .xd fs=>∃mA,h.Ns1 a mA∧∀f,o8 (fs.lookup f) (mA f)
 | .LD lo hi=>∃t u v,h.get? a=some {cls:= .type "range",data:= .fields #[.int lo t,.int hi u,.int 1 v]}
 | .gj o u=>h.get? a=some o∧dj H h a u
 | .kh ps=>h.get? a=some {cls:= .none,data:= .fields ps}
 | .met f x=>h.get? a=some (PySem.W.methodObj (.ref f) (.ref x))
 | .ext φ=>φ h∧(∃o,h.get? a=some o)∧∀h1 h2:Heap,φ h1→(∀o,h1.get? a=some o→h2.get? a=some o)→φ h2
noncomputable def h7(H:Hp)(h:Heap):Prop:=∀a o,H a=some o→dj P w H h a o
end
section
variable {P:Program}{w:World}{H H':Hp}{h h':Heap}{a:Addr}{o:HO}
theorem dj.lt(x:dj P w H h a o):a<h.objs.size:=by
 cases o with
 |lst xs=>obtain⟨_,_,_,_,e⟩:=x;exact Heap.lt_size e
 |tup xs=>obtain⟨_,_,_,p⟩:=x;exact p.lt
 |dK kvs=>obtain⟨_,_,_,_,o,_,_,e,_⟩:=x;exact Heap.lt_size e
 |dT kvs=>obtain⟨_,_,_,_,o,_,_,e,_⟩:=x;exact Heap.lt_size e
 |set S n=>obtain⟨o,_,_,_,e,_⟩:=x;exact Heap.lt_size e
 |ins C dx fs=>obtain⟨_,_,_,e,_⟩:=x;exact Heap.lt_size e
 |own y=>obtain⟨_,e⟩:=x;exact Heap.lt_size e
 |xd fs=>obtain⟨_,⟨_,_,_,e,_⟩,_⟩:=x;exact Heap.lt_size e
 |LD lo hi=>obtain⟨_,_,_,e⟩:=x;exact Heap.lt_size e
 |gj ob u=>obtain⟨e,_⟩:=x;exact Heap.lt_size e
 |kh ps=>exact Heap.lt_size (show h.get? a=some _ from x)
 |met f y=>exact Heap.lt_size (show h.get? a=some _ from x)
 |ext φ=>obtain⟨_,⟨_,e⟩,_⟩:=x;exact Heap.lt_size e
theorem Paired.F3{α β:Type}{F G:α→β→Prop}:∀ {l₁:List α} {l₂:List β},Paired F l₁ l₂→(∀a b,F a b→G a b)→Paired G l₁ l₂
 |_,_,.nil,_=> .nil
 |_,_,.cons r t,f=> .cons (f _ _ r) (Paired.F3 t f)
theorem dj.i4(x:dj P w H h a o)(k:∀b u,(b=a∨H b=some (.own a))→h.get? b=some u→h'.get? b=some u)
 (ho:∀b,H b=some (.own a)→H' b=some (.own a)) (ht:∀b xs,H b=some (.tup xs)→H' b=some (.tup xs)):dj P w H' h' a o:=by
 induction o with
 |lst xs=>obtain⟨z,au,n,r,e⟩:=x;exact⟨z,au,n,r,k _ _ (.inl rfl) e⟩
 |tup xs=>obtain⟨z,au,r,ob,e,c⟩:=x;exact⟨z,au,r,ob,k _ _ (.inl rfl) e,c⟩
 |dK kvs=>obtain⟨z,y,vs,r,ob,es,ep,e,c⟩:=x;exact⟨z,y,vs,r,ob,es,ep,k _ _ (.inl rfl) e,c⟩
 |dT kvs=>
  obtain⟨z,y,xs,r,ob,es,ep,e,c⟩:=x
  exact⟨z,y,xs,Paired.F3 r fun p q z=>⟨z.1,ht _ _ z.2.1,z.2.2⟩,ob,es,ep,k _ _ (.inl rfl) e,c⟩
 |set S n=>obtain⟨ob,es,ep,t,e,c⟩:=x;exact⟨ob,es,ep,t,k _ _ (.inl rfl) e,c⟩
 |ins C dx fs=>
  obtain⟨d,z,ne,e,mA,⟨od,es,ep,e2,c⟩,r⟩:=x
  exact⟨ho _ d,z,ne,k _ _ (.inl rfl) e,mA,⟨od,es,ep,k _ _ (.inr d) e2,c⟩,r⟩
 |own y=>obtain⟨ob,e⟩:=x;exact⟨ob,k _ _ (.inl rfl) e⟩
 |xd fs=>obtain⟨mA,⟨od,es,ep,e,c⟩,r⟩:=x;exact⟨mA,⟨od,es,ep,k _ _ (.inl rfl) e,c⟩,r⟩
 |LD lo hi=>obtain⟨t,u,v,e⟩:=x;exact⟨t,u,v,k _ _ (.inl rfl) e⟩
 |gj ob u ih=>obtain⟨e,q⟩:=x;exact⟨k _ _ (.inl rfl) e,ih q⟩
 |kh ps=>
  have e:h.get? a=some {cls:= .none,data:= .fields ps}:=x
  show h'.get? a=some {cls:= .none,data:= .fields ps}
  exact k a _ (.inl rfl) e
 |met f y=>
  have e:h.get? a=some (PySem.W.methodObj (.ref f) (.ref y)):=x
  show h'.get? a=some (PySem.W.methodObj (.ref f) (.ref y))
  exact k a _ (.inl rfl) e
 |ext φ=>obtain⟨p,⟨o,e⟩,st⟩:=x;exact⟨st _ _ p fun o q=>k _ _ (.inl rfl) q,⟨o,k _ _ (.inl rfl) e⟩,st⟩
theorem h7.lt(x:h7 P w H h)(e:H a=some o):a<h.objs.size:=(x a o e).lt
theorem h7.fresh(x:h7 P w H h)(e:h.objs.size≤a):H a=none:=by
 cases q:H a with
 |none=>rfl
 |some u=>exact absurd (Nat.lt_of_lt_of_le (x.lt q) e) (Nat.lt_irrefl _)
theorem h7.kept(x:h7 P w H h)(k:∀b u,h.get? b=some u→h'.get? b=some u):h7 P w H h':=fun a o e=>
 (x a o e).i4 (fun b u _ q=>k b u q) (fun _ q=>q) fun _ _ q=>q
theorem h7.laid(x:h7 P w H h)(k:∀b u,h.get? b=some u→h'.get? b=some u)(hp:h.objs.size≤a)(new:dj P w (upd H a o) h' a o):h7 P w (upd H a o) h':=fun b u e=>by
 have hn:=x.fresh hp
 by_cases hb:b=a
 · subst hb;rw[a5]at e;cases e;exact new
 · rw[aQ hb]at e
   exact(x b u e).i4 (fun c v _ q=>k c v q) (fun c q=>by rw[aQ (dq q hn)];exact q) fun c xs q=>by rw[aQ (dq q hn)];exact q
end
noncomputable def Rd(H:Hp)(a:Addr)(u:HO):Prop:=H a=some u∨∃o,H a=some (.gj o u)
theorem Rd.of{H:Hp}{a:Addr}{u:HO}(h:H a=some u):Rd H a u:= .inl h
theorem Rd.ok{P:Program}{w:World}{H:Hp}{h:Heap}{a:Addr}{u:HO}(r:Rd H a u)(x:h7 P w H h):dj P w H h a u:=by
 rcases r with r|⟨o,r⟩
 · exact x a u r
 · obtain⟨_,q⟩:=x a _ r
   exact q
noncomputable def GU:Option HO→Prop
 |some (.lst _)=>True
 |some (.dK _)=>True
 |some (.dT _)=>True
 |some (.set _ _)=>True
 |some (.ins _ _ _)=>True
 |some (.ext _)=>True
 |_=>False
section
variable {P:Program}{w:World}{H:Hp}{h h':Heap}{x e:Addr}{o':HO}
theorem h7.write(ok:h7 P w H h)(mu:GU (H x))(he:e=x∨H e=some (.own x))(k:∀b u,b≠e→h.get? b=some u→h'.get? b=some u)(heo:∃u,h'.get? e=some u)
 (new:dj P w (upd H x o') h' x o'):h7 P w (upd H x o') h':=fun b u q=>by
 have nown:∀c y,H c=some (.own y)→c≠x:=fun c y r z=>by subst z;rw[r]at mu;exact mu
 have ntup:∀c xs,H c=some (.tup xs)→c≠x:=fun c xs r z=>by subst z;rw[r]at mu;exact mu
 by_cases hb:b=x
 · subst hb;rw[a5]at q;cases q;exact new
 · rw[aQ hb]at q
   by_cases hbe:b=e
   · have q':H b=some (.own x):=by
      rcases he with z|z
      · exact absurd (hbe.trans z) hb
      · rw[hbe];exact z
     rw[q]at q';cases q'
     obtain⟨v,hv⟩:=heo
     exact⟨v,by rw[hbe];exact hv⟩
   · refine(ok b u q).i4 (fun c v hc r=>k c v ?_ r) (fun c r=>by rw[aQ (nown c b r)];exact r) fun c xs r=>by rw[aQ (ntup c xs r)];exact r
     rcases hc with rfl|hc
     · exact hbe
     · rintro rfl
       rcases he with z|z
       · exact nown c b hc z
       · rw[hc]at z;cases z;exact hb rfl
end
structure Un(fs ex:List Addr)(H H':Hp)(h h':Heap):Prop where
 keep:∀b o,h.get? b=some o→H b=none→b∉fs→b∉ex→h'.get? b=some o
 slot:∀b o,h.get? b=some o→H b=none→b∈fs→b∉ex→∃sl,h'.get? b=some {o with slots:=sl}
 free:∀b o,h.get? b=some o→H b=none→b∉ex→H' b=none
 there:∀b o,h.get? b=some o→b∉ex→∃o',h'.get? b=some o'
 o3:∀b xs,H b=some (.tup xs)→H' b=some (.tup xs)
 nM:∀b o u,H b=some (.gj o u)→H' b=some (.gj o u)
 nQ:∀b ps,H b=some (.kh ps)→∃more,H' b=some (.kh (ps++more))
section
variable {fs fs' ex ex':List Addr}{H H1 H2:Hp}{h h1 h2 h':Heap}{a x e:Addr}{o:HO}
theorem Un.any(u:Un fs ex H H1 h h1){b:Addr}{ob:Obj}(q:h.get? b=some ob)(n:H b=none)(hx:b∉ex):∃sl,h1.get? b=some {ob with slots:=sl}:=by
 by_cases hb:b∈fs
 · exact u.slot b ob q n hb hx
 · exact⟨ob.slots,u.keep b ob q n hb hx⟩
theorem Un.kept(k:∀b u,h.get? b=some u→h'.get? b=some u):Un fs ex H H h h':=
 ⟨fun b ob q _ _ _=>k b ob q,fun b ob q _ _ _=>⟨ob.slots,k b ob q⟩,fun _ _ _ n _=>n,fun b ob q _=>⟨ob,k b ob q⟩,fun _ _ q=>q,fun _ _ _ q=>q,fun _ ps q=>⟨#[],by rw[q];simp⟩⟩
theorem Un.refl:Un fs ex H H h h:=Un.kept fun _ _ q=>q
theorem Un.laid(k:∀b u,h.get? b=some u→h'.get? b=some u)(hp:h.objs.size≤a)(hn:H a=none):Un fs ex H (upd H a o) h h' where
 keep:=fun b u q _ _ _=>k b u q
 slot:=fun b u q _ _ _=>⟨u.slots,k b u q⟩
 free:=fun b u q n _=>by rw[aQ (Nat.ne_of_lt (Nat.lt_of_lt_of_le (Heap.lt_size q) hp))];exact n
 there:=fun b u q _=>⟨u,k b u q⟩
 o3:=fun b xs q=>by rw[aQ (dq q hn)];exact q
 nM:=fun b u xs q=>by rw[aQ (dq q hn)];exact q
 nQ:=fun b ps q=>⟨#[],by rw[aQ (dq q hn),q];simp⟩
theorem Un.write(mu:GU (H x))(he:e=x∨H e=some (.own x))(k:∀b u,b≠e→h.get? b=some u→h'.get? b=some u)(heo:∃u,h'.get? e=some u):Un fs ex H (upd H x o) h h':=by
 have hx:∀b,H b=none→b≠x:=fun b n z=>by subst z;rw[n]at mu;exact mu
 have hb:∀b,H b=none→b≠e:=fun b n z=>by
  subst z
  rcases he with r|r
  · exact hx b n r
  · rw[n]at r;cases r
 have hm:∀b u,H b=some u→¬GU (some u)→b≠x:=fun b u q nm z=>by subst z;rw[q]at mu;exact nm mu
 refine⟨fun b u q n _ _=>k b u (hb b n) q,fun b u q n _ _=>⟨u.slots,k b u (hb b n) q⟩,fun b u q n _=>by rw[aQ (hx b n)];exact n,fun b u q _=>?_,
  fun b xs q=>by rw[aQ (hm b _ q fun z=>z)];exact q,fun b u xs q=>by rw[aQ (hm b _ q fun z=>z)];exact q,fun b ps q=>⟨#[],by rw[aQ (hm b _ q fun z=>z),q];simp⟩⟩
 by_cases hbe:b=e
 · subst hbe;exact heo
 · exact⟨u,k b u hbe q⟩
end
noncomputable def GP(h:Heap)(H:Hp):List Addr:=(List.range h.objs.size).filter fun a=>(H a).isSome
noncomputable def o7(h:Heap)(H:Hp):Heap:=PySem.W.hideAll h (GP h H)
theorem EZ(h:Heap)(H:Hp):(o7 h H).objs.size=h.objs.size:=PySem.W.hideAll_size _ _
theorem pZ{h:Heap}{H:Hp}{b:Addr}{o:Obj}(e:h.get? b=some o)(n:H b=none):(o7 h H).get? b=some o:=
 PySem.W.hideAll_get _ e fun hm=>by
  have q:(H b).isSome=true:=(List.mem_filter.mp hm).2
  rw[n]at q;simp at q
theorem HB{h:Heap}{H:Hp}{b:Addr}{o:Obj}(e:(o7 h H).get? b=some o):h.get? b=some o∧H b=none:=by
 have e':h.get? b=some o:=PySem.W.of_hideAll (GP h H) e
 refine⟨e',?_⟩
 cases q:H b with
 |none=>rfl
 |some x=>
  have hm:b∈GP h H:=List.mem_filter.mpr ⟨List.mem_range.mpr (Heap.lt_size e'),by simp[q]⟩
  have z:(o7 h H).get? b=none:=PySem.W.hideAll_none (GP h H) hm
  rw[z]at e;cases e
noncomputable def Iw(g h:Heap)(L:Addr):List (Addr×Obj):=(List.range h.objs.size).filterMap fun a=>if a=L∨(g.get? a).isSome=true then none else(h.get? a).map fun o=>(a,o)
noncomputable def rest(g h:Heap)(L d:Addr):List (Addr×Obj):=(Iw g h L).filter fun p=>decide (p.1≠d)
end L2
namespace L2
open PySem PySem.Spec PyProof.Rows
structure Mod(K:PySem.W.Frag)(mg:Str→Option Value)(base:Heap):Prop where
 EC:K.In base
 glob:base.Ns mainGlobals mg
 blt:∃mb,base.Ns builtinsNs mb∧∀x:Str,x≠"__name__"→mb x=bootBuiltins x
 nolimit:base.NoLimit
 seer:base.NoSeer
 bmain:∃bm ob,mg "__builtins__"=some (.ref bm)∧bm≠builtinsNs∧base.get? bm=some ob∧ob.cls= .type "module"∧ob.dict=some builtinsNs∧ob.data= .plain
structure Cx where
 prog:Program
 w:World
 K:PySem.W.Frag
 mg:Str→Option Value
 base:Heap
 A:Around
 N:List Str
 s₀:Shared
 H₀:Hp
 env:Env
 outer:List Env
 stack:List Env
 ex:List Addr
 fn:Str→Bool
 calm:Bool
 pn:List (Addr×Obj)
 xe:Value→Shared→Prop
noncomputable def pG(l:List Env):List Addr:=l.filterMap (·.frame)
noncomputable abbrev Cx.fs(X:Cx):List Addr:=pG X.outer
noncomputable def yI(sc:Scope)(x:Str):Prop:=sc.names.lookup x=some .local∨sc.names.lookup x=some .cell∨sc.names.lookup x=some .free
noncomputable def Loc(sc:Scope)(x:Str):Prop:=sc.names.lookup x=some .local∨sc.names.lookup x=some .cell
noncomputable def Look(env:Env)(h:Heap)(m:Str→Option Value)(x:Str)(u:Value):Prop:=
 (env.kindOf x=some .local∧m x=some u)∨((env.kindOf x=some .cell∨env.kindOf x=some .free)∧∃c,env.cells.lookup x=some c∧h.IsCell c (some u))
structure Cx.Ok(X:Cx):Prop where
 mod:Mod X.K X.mg X.base
 kind:X.env.scope.kind= .function
 glob:X.env.globals=mainGlobals
 blt:X.env.builtins=builtinsNs
 above:X.s₀.heap.objs.size≤X.env.locals
 inj:∀x y c,X.env.cells.lookup x=some c→X.env.cells.lookup y=some c→x=y
 has:∀x,(X.env.kindOf x=some .cell∨X.env.kindOf x=some .free)→∃c,X.env.cells.lookup x=some c
 zr:∀x c,X.fn x=true→X.env.cells.lookup x=some c→X.s₀.heap.objs.size≤c
 hd:X.calm=true→X.A.handled=none
 frames:X.A.frames=some X.stack
 BC:X.stack=X.outer∨(X.stack=X.env::X.outer∧X.env.frame=some X.env.locals)
 D1:∀b∈X.ex,b≠X.env.locals∧∀x c,X.env.cells.lookup x=some c→c≠b
 bs:∀b o,X.base.get? b=some o→X.s₀.heap.get? b=some o∧X.H₀ b=none
 qY:X.base.objs.size≤X.s₀.heap.objs.size
 uv:∀b o,X.base.get? b=some o→b∉X.ex
 uH:∀b∈X.ex,b∉X.fs
 kP:X.s₀.heap.FunFrames X.base X.outer
 uV:∀b∈X.fs,X.H₀ b=none
 gt:X.prog.given.tree=none
structure Inv(X:Cx)(pins:List (Addr×Obj))(σ:List (Option V))(H:Hp)(s:Shared):Prop where
 ok:X.Ok
 os:s.os=X.s₀.os
 bare:AllBare s.gens
 base:Un X.fs X.ex X.H₀ H X.s₀.heap s.heap
 loc:∃m,s.heap.Ns X.env.locals m∧∀(i:Nat) (x:Str) (v:V),X.N[i]?=some x→σ[i]?=some (some v)→yI X.env.scope x→∃u,RelV v u∧Look X.env s.heap m x u
 cell:∀x c,X.env.cells.lookup x=some c→∃v,s.heap.IsCell c v
 free:H X.env.locals=none
 iI:∀x c,X.env.cells.lookup x=some c→H c=none
 pin:∀p∈X.pn++pins,s.heap.get? p.1=some p.2∧H p.1=none∧p.1≠X.env.locals∧p.1∉X.fs∧∀v,p.2.data≠ .cell v
 aI:h7 X.prog X.w H s.heap
 len:σ.length=X.N.length
section
variable {X:Cx}{pins:List (Addr×Obj)}{σ:List (Option V)}{H H':Hp}{s:Shared}{h':Heap}
theorem Cx.Ok.OD(ok:X.Ok){b:Addr}{o:Obj}(e:X.base.get? b=some o):b∉X.fs:=fun hb=>by
 have:=(ok.kP.mem hb).1
 rw[e]at this;cases this
theorem Inv.bs(I:Inv X pins σ H s):∀b o,X.base.get? b=some o→s.heap.get? b=some o∧H b=none:=fun b o e=>
 ⟨I.base.keep b o (I.ok.bs b o e).1 (I.ok.bs b o e).2 (I.ok.OD e) (I.ok.uv b o e),I.base.free b o (I.ok.bs b o e).1 (I.ok.bs b o e).2 (I.ok.uv b o e)⟩
theorem Inv.bk(I:Inv X pins σ H s):∀b o,X.base.get? b=some o→s.heap.get? b=some o:=fun b o e=>(I.bs b o e).1
theorem Inv.mod(I:Inv X pins σ H s):Mod X.K X.mg X.base:=I.ok.mod
theorem Inv.gY(I:Inv X pins σ H s):X.K.In s.heap:=I.ok.mod.EC.keeps I.bk
theorem Inv.nolimit(I:Inv X pins σ H s):s.heap.NoLimit:=I.ok.mod.nolimit.keeps I.bk
theorem Inv.lt(I:Inv X pins σ H s):X.env.locals<s.heap.objs.size:=let⟨_,hn,_⟩:=I.loc;hn.lt
theorem Inv.sz(I:Inv X pins σ H s):X.s₀.heap.objs.size≤s.heap.objs.size:=Nat.le_trans I.ok.above (Nat.le_of_lt I.lt)
theorem Inv.Kh(I:Inv X pins σ H s){a:Addr}(h:s.heap.objs.size≤a):a∉X.fs:=fun hb=>by
 obtain⟨_,o,ho,_⟩:=I.ok.kP.mem hb
 exact absurd (Nat.lt_of_lt_of_le (Heap.lt_size ho) (Nat.le_trans I.sz h)) (Nat.lt_irrefl _)
theorem Inv.yP(I:Inv X pins σ H s):∀x c,X.env.cells.lookup x=some c→c≠X.env.locals:=fun x c e z=>by
 obtain⟨v,o,ho,hd⟩:=I.cell x c e
 obtain⟨m,⟨o',es,ep,ho',hd',_⟩,_⟩:=I.loc
 rw[z,ho']at ho;cases ho;rw[hd']at hd;cases hd
theorem Inv.kP(I:Inv X pins σ H s):s.heap.FunFrames X.base X.outer:=by
 have all:∀(l:List Env),(∀b∈pG l,b∈X.fs)→X.s₀.heap.FunFrames X.base l→s.heap.FunFrames X.base l:=by
  intro l
  induction l with
  |nil=>intro _ _;trivial
  |cons env r ih=>
   intro hs hl
   obtain⟨hk,⟨L,o,hf,hn,ho,hd⟩,hr⟩:=hl
   have hL:L∈X.fs:=hs L (by unfold pG;rw[List.filterMap_cons,hf];exact List.mem_cons_self)
   obtain⟨sl,e⟩:=I.base.slot L o ho (I.ok.uV L hL) hL fun z=>I.ok.uH L z hL
   exact⟨hk,⟨L,_,hf,hn,e,hd⟩,ih (fun b hb=>hs b (by unfold pG;rw[List.filterMap_cons,hf];exact List.mem_cons_of_mem _ hb)) hr⟩
 exact all X.outer (fun _ hb=>hb) I.ok.kP
theorem Inv.stack(I:Inv X pins σ H s):s.heap.FunFrames X.base X.stack:=by
 rcases I.ok.BC with e|⟨e,hf⟩
 · rw[e];exact I.kP
 · rw[e]
   obtain⟨m,hn,_⟩:=I.loc
   refine .cons (by rw[I.ok.kind];decide) hf hn ?_ I.kP
   exact Heap.get?_none_of_le (Nat.le_trans I.ok.qY I.ok.above)
theorem Inv.yN(I:Inv X pins σ H s):∀b∈pG X.stack,b∈X.env.locals::X.fs:=fun b hb=>by
 rcases I.ok.BC with e|⟨e,hf⟩
 · rw[e]at hb;exact List.mem_cons_of_mem _ hb
 · rw[e]at hb
   unfold pG at hb
   rw[List.filterMap_cons,hf]at hb
   exact hb
theorem Inv.wM(I:Inv X pins σ H s):∀b∈pG X.stack,H b=none:=fun b hb=>by
 rcases List.mem_cons.mp (I.yN b hb)with e|hb
 · rw[e];exact I.free
 · obtain⟨_,o,ho,_⟩:=I.ok.kP.mem hb
   exact I.base.free b o ho (I.ok.uV b hb) fun z=>I.ok.uH b z hb
theorem Inv.step{g':Array GenState}{t':Nat}{d':Drawn}{ch:List Addr}(I:Inv X pins σ H s)
 (hch:∀b∈ch,(b∈X.ex∨X.s₀.heap.objs.size≤b)∧b≠X.env.locals∧(∀x c,X.env.cells.lookup x=some c→c≠b)∧∀p∈X.pn++pins,p.1≠b)
 (keep:∀b o,b≠X.env.locals→b∉X.fs→b∉ch→s.heap.get? b=some o→H b=none→h'.get? b=some o)
 (slot:∀b o,b≠X.env.locals→b∈X.fs→b∉ch→s.heap.get? b=some o→H b=none→∃sl,h'.get? b=some {o with slots:=sl}) (free:∀b o,b∉ch→s.heap.get? b=some o→H b=none→H' b=none)
 (there:∀b o,b∉ch→s.heap.get? b=some o→∃o',h'.get? b=some o')
 (o3:∀b xs,H b=some (.tup xs)→H' b=some (.tup xs)) (nM:∀b o u,H b=some (.gj o u)→H' b=some (.gj o u)) (nQ:∀b ps,H b=some (.kh ps)→∃more,H' b=some (.kh (ps++more)))
 (ns:∀m,s.heap.Ns X.env.locals m→h'.Ns X.env.locals m) (aI:h7 X.prog X.w H' h') (hg:AllBare g'):
 Inv X pins σ H' {s with heap:=h',gens:=g',drawn:=d',toks:=t'}:=by
 have neL:∀b o,X.s₀.heap.get? b=some o→b≠X.env.locals:=fun b o e=>Nat.ne_of_lt (Nat.lt_of_lt_of_le (Heap.lt_size e) I.ok.above)
 have neC:∀b o,X.s₀.heap.get? b=some o→b∉X.ex→b∉ch:=fun b o e hx hb=>by
  rcases(hch b hb).1 with z|z
  · exact hx z
  · exact absurd (Nat.lt_of_lt_of_le (Heap.lt_size e) z) (Nat.lt_irrefl _)
 have cellK:∀x c,X.env.cells.lookup x=some c→∀v,s.heap.IsCell c v→h'.IsCell c v:=fun x c e v ⟨o,ho,hd⟩=>by
  have nch:c∉ch:=fun z=>(hch c z).2.2.1 x c e rfl
  by_cases hc:c∈X.fs
  · obtain⟨sl,q⟩:=slot c o (I.yP x c e) hc nch ho (I.iI x c e)
    exact⟨_,q,hd⟩
  · exact⟨o,keep c o (I.yP x c e) hc nch ho (I.iI x c e),hd⟩
 refine⟨I.ok,I.os,hg,⟨fun b o e n hb hx=>?_,fun b o e n hb hx=>?_,fun b o e n hx=>?_,fun b o e hx=>?_,fun b xs e=>o3 b xs (I.base.o3 b xs e),fun b o xs e=>nM b o xs (I.base.nM b o xs e),fun b ps e=>?_⟩,?_,fun x c e=>?_,?_,fun x c e=>?_,fun p hp=>?_,aI,I.len⟩
 · exact keep b o (neL b o e) hb (neC b o e hx) (I.base.keep b o e n hb hx) (I.base.free b o e n hx)
 · obtain⟨sl,e1⟩:=I.base.slot b o e n hb hx
   obtain⟨sl',e2⟩:=slot b _ (neL b o e) hb (neC b o e hx) e1 (I.base.free b o e n hx)
   exact⟨sl',e2⟩
 · obtain⟨o',e1⟩:=I.base.there b o e hx
   exact free b o' (neC b o e hx) e1 (I.base.free b o e n hx)
 · obtain⟨o',e1⟩:=I.base.there b o e hx
   exact there b o' (neC b o e hx) e1
 · obtain⟨m1,e1⟩:=I.base.nQ b ps e
   obtain⟨m2,e2⟩:=nQ b _ e1
   exact⟨m1++m2,by rw[e2,Array.append_assoc]⟩
 · obtain⟨m,hn,hl⟩:=I.loc
   refine⟨m,ns m hn,fun i x v e1 e2 e3=>?_⟩
   obtain⟨u,r,l⟩:=hl i x v e1 e2 e3
   refine⟨u,r,?_⟩
   rcases l with l|⟨k,c,e,z⟩
   · exact .inl l
   · exact .inr ⟨k,c,e,cellK x c e _ z⟩
 · obtain⟨v,z⟩:=I.cell x c e
   exact⟨v,cellK x c e v z⟩
 · obtain⟨m,⟨o,_,_,ho,_⟩,_⟩:=I.loc
   exact free _ o (fun z=>(hch _ z).2.1 rfl) ho I.free
 · obtain⟨v,o,ho,hd⟩:=I.cell x c e
   exact free c o (fun z=>(hch c z).2.2.1 x c e rfl) ho (I.iI x c e)
 · obtain⟨e,n,ne,nf,d⟩:=I.pin p hp
   have nch:p.1∉ch:=fun z=>(hch p.1 z).2.2.2 p hp rfl
   exact⟨keep p.1 p.2 ne nf nch e n,free p.1 p.2 nch e n,ne,nf,d⟩
theorem Inv.un{t':Nat}(I:Inv X pins σ H s)(u:Un X.fs [] H H' s.heap h')(aI:h7 X.prog X.w H' h'):Inv X pins σ H' {s with heap:=h',toks:=t'}:=by
 obtain⟨m,⟨o,es,ep,ho,r⟩,_⟩:=id I.loc
 obtain⟨sl,hL⟩:=u.any ho I.free (by simp)
 exact I.step (g':=s.gens) (d':=s.drawn) (ch:=[]) (fun _ z=>nomatch z) (fun b o _ hb _ e n=>u.keep b o e n hb (by simp)) (fun b o _ hb _ e n=>u.slot b o e n hb (by simp)) (fun b o _ e n=>u.free b o e n (by simp)) (fun b o _ e=>u.there b o e (by simp)) u.o3 u.nM u.nQ (fun m' hm=>by
  obtain⟨o',es',ep',ho',r'⟩:=hm
  rw[ho]at ho';cases ho'
  exact⟨_,es',ep',hL,r'⟩) aI I.bare
theorem Inv.call{g':Array GenState}{t':Nat}{d':Drawn}{ch:List Addr}(I:Inv X pins σ H s)(u:Un (pG X.stack) ch H H' s.heap h')(aI:h7 X.prog X.w H' h')(hg:AllBare g')
 (hch:∀b∈ch,(b∈X.ex∨X.s₀.heap.objs.size≤b)∧b≠X.env.locals∧(∀x c,X.env.cells.lookup x=some c→c≠b)∧∀p∈X.pn++pins,p.1≠b):
 Inv X pins σ H' {s with heap:=h',gens:=g',drawn:=d',toks:=t'}:=by
 obtain⟨m,⟨o,es,ep,ho,r⟩,_⟩:=id I.loc
 obtain⟨sl,hL⟩:=u.any ho I.free fun z=>(hch _ z).2.1 rfl
 exact I.step (ch:=ch) hch (fun b o hL hb hc e n=>u.keep b o e n (fun z=>(List.mem_cons.mp (I.yN b z)).elim hL hb) hc) (fun b o _ _ hc e n=>u.any e n hc) (fun b o hc e n=>u.free b o e n hc) (fun b o hc e=>u.there b o e hc) u.o3 u.nM u.nQ (fun m' hm=>by
  obtain⟨o',es',ep',ho',r'⟩:=hm
  rw[ho]at ho';cases ho'
  exact⟨_,es',ep',hL,r'⟩) aI hg
theorem Inv.turned{t':Nat}{it:Addr}(I:Inv X pins σ H s)(k:∀b o,b≠it→s.heap.get? b=some o→h'.get? b=some o)(hn:H it=none)(hL:it≠X.env.locals)
 (h1:it∈X.ex∨X.s₀.heap.objs.size≤it) (h2:∀x c,X.env.cells.lookup x=some c→c≠it) (h3:∀p∈X.pn++pins,p.1≠it):Inv X pins σ H {s with heap:=h',toks:=t'}:=by
 have nit:∀b u,H b=some u→b≠it:=fun b u e z=>by rw[z,hn]at e;cases e
 refine I.step (g':=s.gens) (d':=s.drawn) (ch:=[it]) (fun b hb=>?_) (fun b o _ _ hc e _=>k b o (fun z=>hc (by simp[z])) e) (fun b o _ _ hc e _=>⟨o.slots,k b o (fun z=>hc (by simp[z])) e⟩) (fun _ _ _ _ n=>n)
  (fun b o hc e=>⟨o,k b o (fun z=>hc (by simp[z])) e⟩) (fun _ _ e=>e) (fun _ _ _ e=>e) (fun b ps e=>⟨#[],by rw[e];simp⟩) (fun m hm=>?_) (fun b u e=>?_) I.bare
 · have e:b=it:=by simpa using hb
   subst e
   exact⟨h1,hL,h2,h3⟩
 · obtain⟨o,es,ep,ho,r⟩:=hm
   exact⟨o,es,ep,k _ o (Ne.symm hL) ho,r⟩
 · refine(I.aI b u e).i4 (fun c v hc q=>k c v ?_ q) (fun _ q=>q) fun _ _ q=>q
   rcases hc with z|z
   · rw[z];exact nit b u e
   · exact nit c _ z
theorem Inv.tok(I:Inv X pins σ H s)(t:Nat):Inv X pins σ H {s with toks:=t}:=I.un (h':=s.heap) (t':=t) Un.refl I.aI
theorem Inv.kept{t':Nat}(I:Inv X pins σ H s)(k:∀b u,s.heap.get? b=some u→h'.get? b=some u):Inv X pins σ H {s with heap:=h',toks:=t'}:=I.un (Un.kept k) (I.aI.kept k)
theorem Inv.laid{a:Addr}{o:HO}{t':Nat}(I:Inv X pins σ H s)(k:∀b u,s.heap.get? b=some u→h'.get? b=some u)(hp:s.heap.objs.size≤a)(new:dj X.prog X.w (upd H a o) h' a o):
 Inv X pins σ (upd H a o) {s with heap:=h',toks:=t'}:=I.un (Un.laid k hp (I.aI.fresh hp)) (I.aI.laid k hp new)
theorem Inv.write{x e:Addr}{o:HO}{t':Nat}(I:Inv X pins σ H s)(mu:GU (H x))(he:e=x∨H e=some (.own x))(k:∀b u,b≠e→s.heap.get? b=some u→h'.get? b=some u)(heo:∃u,h'.get? e=some u)
 (new:dj X.prog X.w (upd H x o) h' x o):Inv X pins σ (upd H x o) {s with heap:=h',toks:=t'}:=I.un (Un.write mu he k heo) (I.aI.write mu he k heo new)
theorem Inv.sD{pins':List (Addr×Obj)}(I:Inv X pins σ H s)(h:∀p∈pins',s.heap.get? p.1=some p.2∧H p.1=none∧p.1≠X.env.locals∧p.1∉X.fs∧∀v,p.2.data≠ .cell v):Inv X pins' σ H s:=
 ⟨I.ok,I.os,I.bare,I.base,I.loc,I.cell,I.free,I.iI,fun p hp=>(List.mem_append.mp hp).elim (fun z=>I.pin p (List.mem_append_left _ z)) (h p),I.aI,I.len⟩
theorem Az{N:List Str}(hN:N.Nodup){i j:Nat}{x:Str}(a:N[i]?=some x)(b:N[j]?=some x):i=j:=by
 obtain⟨h1,e1⟩:=List.getElem?_eq_some_iff.mp a
 obtain⟨h2,e2⟩:=List.getElem?_eq_some_iff.mp b
 exact(List.getElem_inj hN).mp (e1.trans e2.symm)
theorem w6{M:Model}{A:Around}{E:Value→Shared→Prop}{i:Nat}{x:Str}{v:V}{u:Value}{Q:Unit→Shared→Prop}(I:Inv X pins σ H s)(hN:X.N.Nodup)(hi:X.N[i]?=some x)(hx:Loc X.env.scope x)(r:RelV v u)
 (h:∀s',Inv X pins (σ.set i (some v)) H s'→(∃a,Heap.SameBut a s.heap s'.heap∧(a=X.env.locals∨X.env.cells.lookup x=some a))→Q () s') (hf:X.fn x=true∨X.env.scope.names.lookup x=some .local:=by first|exact .inl rfl|exact .inr rfl|assumption):wpAny M A (storeName X.env x u) Q E s:=by
 obtain⟨m,hn,hl⟩:=id I.loc
 have hcls:(X.env.scope.kind== .class||(X.env.scope.kind== .module&&X.env.locals != X.env.globals))=false:=by rw[I.ok.kind];rfl
 have hiσ:i<σ.length:=by rw[I.len];exact(List.getElem?_eq_some_iff.mp hi).1
 have yP:=I.yP
 have tracked:∀ {a:Addr} {h':Heap},(∃o,s.heap.get? a=some o∧H a=none)→Heap.SameBut a s.heap h'→h7 X.prog X.w H h':=fun{a h'} ha hs b ob e=>by
  obtain⟨_,_,hfree⟩:=ha
  refine(I.aI b ob e).i4 (fun c w' hc q=>(hs.2 c ?_).trans q) (fun _ q=>q) fun _ _ q=>q
  rintro rfl
  rcases hc with rfl|hc
  · rw[hfree]at e;cases e
  · rw[hfree]at hc;cases hc
 rcases hx with hk|hk
 · refine wpAny_storeName_local hk hn (fun h' hn' hs=>?_) hcls
   obtain⟨oL,_,_,hoL,_⟩:=id hn
   refine h _ ⟨I.ok,I.os,I.bare,⟨fun b o e n hb hx=>?_,fun b o e n hb hx=>?_,I.base.free,fun b o e hx=>?_,I.base.o3,I.base.nM,I.base.nQ⟩,⟨_,hn',fun j y v' e1 e2 e3=>?_⟩,fun y c e=>?_,I.free,I.iI,fun p hp=>?_,tracked ⟨oL,hoL,I.free⟩ hs,by simpa using I.len⟩ ⟨_,hs,.inl rfl⟩
   · exact(hs.2 b (Nat.ne_of_lt (Nat.lt_of_lt_of_le (Heap.lt_size e) I.ok.above))).trans (I.base.keep b o e n hb hx)
   · obtain⟨sl,e1⟩:=I.base.slot b o e n hb hx
     exact⟨sl,(hs.2 b (Nat.ne_of_lt (Nat.lt_of_lt_of_le (Heap.lt_size e) I.ok.above))).trans e1⟩
   · obtain⟨o',e1⟩:=I.base.there b o e hx
     exact⟨o',(hs.2 b (Nat.ne_of_lt (Nat.lt_of_lt_of_le (Heap.lt_size e) I.ok.above))).trans e1⟩
   · by_cases hj:j=i
     · subst hj
       rw[hi]at e1;cases e1
       rw[List.getElem?_set_self hiσ]at e2
       cases e2
       exact⟨u,r,.inl ⟨hk,by simp⟩⟩
     · rw[List.getElem?_set_ne (Ne.symm hj)]at e2
       obtain⟨u',r',q⟩:=hl j y v' e1 e2 e3
       refine⟨u',r',?_⟩
       rcases q with⟨k,e⟩|⟨k,c,e,z⟩
       · refine .inl ⟨k,?_⟩
         have:y≠x:=fun e=>hj (Az hN e1 (e▸hi))
         simp[this,e]
       · exact .inr ⟨k,c,e,z.sameBut hs (yP y c e)⟩
   · obtain⟨w',z⟩:=I.cell y c e
     exact⟨w',z.sameBut hs (yP y c e)⟩
   · obtain⟨e,n,ne,nf,d⟩:=I.pin p hp
     exact⟨(hs.2 p.1 ne).trans e,n,ne,nf,d⟩
 · have hfn:X.fn x=true:=by
    rcases hf with z|z
    · exact z
    · rw[z]at hk;cases hk
   obtain⟨c,hc⟩:=I.ok.has x (.inl hk)
   obtain⟨w',z⟩:=I.cell x c hc
   refine wpAny_storeName_cell I.ok.kind hk hc z (fun h' hc' hs=>?_)
   obtain⟨oc,hoc,hocd⟩:=id z
   refine h {s with heap:=h'} ⟨I.ok,I.os,I.bare,⟨fun b o e n hb hx=>?_,fun b o e n hb hx=>?_,I.base.free,fun b o e hx=>?_,I.base.o3,I.base.nM,I.base.nQ⟩,⟨m,hn.sameBut hs (Ne.symm (yP x c hc)),fun j y v' e1 e2 e3=>?_⟩,fun y c' e=>?_,I.free,I.iI,fun p hp=>?_,tracked ⟨oc,hoc,I.iI x c hc⟩ hs,by simpa using I.len⟩ ⟨c,hs,.inr hc⟩
   · exact(hs.2 b (Nat.ne_of_lt (Nat.lt_of_lt_of_le (Heap.lt_size e) (I.ok.zr x c hfn hc)))).trans (I.base.keep b o e n hb hx)
   · obtain⟨sl,e1⟩:=I.base.slot b o e n hb hx
     exact⟨sl,(hs.2 b (Nat.ne_of_lt (Nat.lt_of_lt_of_le (Heap.lt_size e) (I.ok.zr x c hfn hc)))).trans e1⟩
   · obtain⟨o',e1⟩:=I.base.there b o e hx
     exact⟨o',(hs.2 b (Nat.ne_of_lt (Nat.lt_of_lt_of_le (Heap.lt_size e) (I.ok.zr x c hfn hc)))).trans e1⟩
   · by_cases hj:j=i
     · subst hj
       rw[hi]at e1;cases e1
       rw[List.getElem?_set_self hiσ]at e2
       cases e2
       exact⟨u,r,.inr ⟨.inl hk,c,hc,hc'⟩⟩
     · rw[List.getElem?_set_ne (Ne.symm hj)]at e2
       obtain⟨u',r',q⟩:=hl j y v' e1 e2 e3
       refine⟨u',r',?_⟩
       rcases q with q|⟨k,c',e,z'⟩
       · exact .inl q
       · refine .inr ⟨k,c',e,z'.sameBut hs ?_⟩
         rintro rfl
         exact hj (Az hN e1 (I.ok.inj _ _ _ e hc▸hi))
   · by_cases hcc:c'=c
     · subst hcc;exact⟨_,hc'⟩
     · obtain⟨w2,z2⟩:=I.cell y c' e
       exact⟨w2,z2.sameBut hs hcc⟩
   · obtain⟨e,n,ne,nf,d⟩:=I.pin p hp
     refine⟨(hs.2 p.1 ?_).trans e,n,ne,nf,d⟩
     intro q
     rw[q,hoc]at e
     have q':oc=p.2:=Option.some.inj e
     exact d w' (by rw[←q'];exact hocd)
theorem nY{M:Model}{A:Around}{E:Value→Shared→Prop}{i:Nat}{x:Str}{v:V}{u:Value}{Q:Unit→Shared→Prop}(I:Inv X pins σ H s)(hN:X.N.Nodup)(hi:X.N[i]?=some x)(hx:Loc X.env.scope x)(r:RelV v u)
 (h:∀s',Inv X pins (σ.set i (some v)) H s'→Q () s') (hf:X.fn x=true∨X.env.scope.names.lookup x=some .local:=by first|exact .inl rfl|exact .inr rfl|assumption):wpAny M A (storeName X.env x u) Q E s:=
 w6 I hN hi hx r (fun s' I' _=>h s' I') hf
theorem Inv.Cp{s':Shared}{ch:List Addr}(I:Inv X pins σ H s)(ho:s'.os=s.os)(u:Un (pG X.stack) ch H H' s.heap s'.heap)(aI:h7 X.prog X.w H' s'.heap)(hg:AllBare s'.gens)
 (hch:∀b∈ch,(b∈X.ex∨X.s₀.heap.objs.size≤b)∧b≠X.env.locals∧(∀x c,X.env.cells.lookup x=some c→c≠b)∧∀p∈X.pn++pins,p.1≠b):Inv X pins σ H' s':=by
 obtain⟨h',g',d',t',o'⟩:=s'
 have e:o'=s.os:=ho
 subst e
 exact I.call (g':=g') (t':=t') (d':=d') u aI hg hch
end
noncomputable abbrev XK:=Value→Option Addr→Hp→Prop
noncomputable abbrev St:=List (Option V)
noncomputable abbrev VK:=V→Hp→Prop
noncomputable abbrev TE:=St→Hp→VK→Prop
noncomputable abbrev TT:=St→Hp→(Bool→Hp→Prop)→Prop
noncomputable abbrev TA:=St→Hp→(List V→Hp→Prop)→Prop
structure Ends where
 nx:St→Hp→Prop
 rt:VK
 bk:St→Hp→Prop:=fun _ _=>False
 ct:St→Hp→Prop:=fun _ _=>False
noncomputable abbrev TS:=Ends→St→Hp→Prop
noncomputable def EP(X:Cx)(pins:List (Addr×Obj))(σ:St)(Q:VK)(u:Value)(s':Shared):Prop:=∃v H',Inv X pins σ H' s'∧RelV v u∧Q v H'
noncomputable def TP(X:Cx)(pins:List (Addr×Obj))(σ:St)(Q:Bool→Hp→Prop)(b:Bool)(s':Shared):Prop:=∃H',Inv X pins σ H' s'∧Q b H'
noncomputable def AP(X:Cx)(pins:List (Addr×Obj))(σ:St)(Q:List V→Hp→Prop)(us:List Value)(s':Shared):Prop:=∃vs H',Inv X pins σ H' s'∧Vals vs us∧Q vs H'
noncomputable def SP(X:Cx)(pins:List (Addr×Obj))(D:Ends)(f:Flow)(s':Shared):Prop:=
 match f with
 | .next=>∃σ' H',Inv X pins σ' H' s'∧D.nx σ' H'
 | .brk=>∃σ' H',Inv X pins σ' H' s'∧D.bk σ' H'
 | .cont=>∃σ' H',Inv X pins σ' H' s'∧D.ct σ' H'
 | .ret u=>∃v σ' H',Inv X pins σ' H' s'∧RelV v u∧D.rt v H'
noncomputable def PE(X:Cx)(e:Expr)(t:TE):Prop:=
 ∀(pins:List (Addr×Obj)) (s:Shared) (σ:St) (H:Hp) (Q:VK),Inv X pins σ H s→t σ H Q→wpAny (model X.prog X.w) X.A (eval e X.env) (EP X pins σ Q) X.xe s
noncomputable def PT(X:Cx)(e:Expr)(t:TT):Prop:=
 ∀(pins:List (Addr×Obj)) (s:Shared) (σ:St) (H:Hp) (Q:Bool→Hp→Prop),Inv X pins σ H s→t σ H Q→wpAny (model X.prog X.w) X.A (isTrue e X.env (eval e X.env)) (TP X pins σ Q) X.xe s
noncomputable def PW(X:Cx)(e:Expr)(t:TT):Prop:=
 ∀(whole:Sem Value) (pins:List (Addr×Obj)) (s:Shared) (σ:St) (H:Hp) (Q:Bool→Hp→Prop),Inv X pins σ H s→t σ H Q→wpAny (model X.prog X.w) X.A (isTrue e X.env whole) (TP X pins σ Q) X.xe s
theorem PW.pt{X:Cx}{e:Expr}{t:TT}(h:PW X e t):PT X e t:=h _
noncomputable def PA(X:Cx)(es:List Expr)(t:TA):Prop:=
 ∀(pos:Pos) (pins:List (Addr×Obj)) (s:Shared) (σ:St) (H:Hp) (Q:List V→Hp→Prop),Inv X pins σ H s→t σ H Q→wpAny (model X.prog X.w) X.A (spliced (backTo pos (starEach es X.env))) (AP X pins σ Q) X.xe s
noncomputable def PS(X:Cx)(st:Stmt)(t:TS):Prop:=
 ∀(pins:List (Addr×Obj)) (s:Shared) (σ:St) (H:Hp) (D:Ends),Inv X pins σ H s→t D σ H→wpAny (model X.prog X.w) X.A (exec st X.env) (SP X pins D) X.xe s
noncomputable def gT(X:Cx)(st:List Stmt)(t:TS):Prop:=
 ∀(pins:List (Addr×Obj)) (s:Shared) (σ:St) (H:Hp) (D:Ends),Inv X pins σ H s→t D σ H→wpAny (model X.prog X.w) X.A (execs st X.env) (SP X pins D) X.xe s
theorem bZ{α:Type}{t:Sem α}{Q Q':α→Shared→Prop}{M:Model}{A:Around}{E:Value→Shared→Prop}{s:Shared}(h:wpAny M A t Q E s)(hQ:∀a s,Q a s→Q' a s):wpAny M A t Q' E s:=wpAny_mono h hQ fun _ _ x=>x
end L2
namespace L2
open PySem PySem.Spec PyProof.Rows
section
variable {X:Cx}
noncomputable def Lm(i:Nat):TE:=fun σ H Q=>∃v,σ[i]?=some (some v)∧Q v H
noncomputable def tC(v:V):TE:=fun _ H Q=>Q v H
theorem LF{i:Nat}{x:Str}{pos:Pos}(hN:X.N[i]?=some x)(hv:yI X.env.scope x)(hd:(x==("__debug__":Str))=false:=by decide)(hcd:(x==("__classdict__":Str))=false:=by decide):PE X (.Name x pos) (Lm i):=by
 intro pins s σ H Q I h
 obtain⟨v,e,h⟩:=h
 obtain⟨m,hn,hl⟩:=I.loc
 obtain⟨u,r,l⟩:=hl i x v hN e hv
 have fin:EP X pins σ Q u s:=⟨v,H,I,r,h⟩
 rcases l with⟨hk,hm⟩|⟨hk,c,hc,hcell⟩
 · exact wpAny_Name (wpAny_loadName_local I.ok.kind hk hn hm fin) hd
 · rcases hk with hk|hk
   · exact wpAny_Name (wpAny_loadName_cell I.ok.kind hk hc hcell fin) hd
   · exact wpAny_Name (wpAny_loadName_free I.ok.kind hk hc hcell fin hcd) hd
theorem Jl{i j pos}:PE X (.Constant (.int i) j pos) (tC (.int i)):=fun _ _ _ H _ I h=>wpAny_Constant_int ⟨.int i,H,I.tok _,⟨_,rfl⟩,h⟩
theorem M9{b j pos}:PE X (.Constant (.bool b) j pos) (tC (.bl b)):=fun _ _ _ H _ I h=>Constant_bool ⟨.bl b,H,I,rfl,h⟩
theorem JD{j pos}:PE X (.Constant .none j pos) (tC .aA):=fun _ _ _ H _ I h=>Constant_none ⟨.aA,H,I,rfl,h⟩
theorem J_{x j pos}:PE X (.Constant (.str x) j pos) (tC (.str x)):=fun _ _ _ H _ I h=>Calls.Constant_str ⟨.str x,H,I.tok _,⟨_,rfl⟩,h⟩
noncomputable def Gl(X:Cx)(x:Str):Prop:=X.env.kindOf x=some .globalImplicit
theorem Bh{E:Value→Shared→Prop}{pins:List (Addr×Obj)}{s:Shared}{σ:St}{H:Hp}{x:Str}{u:Value}{pos:Pos}{Q:Value→Shared→Prop}(I:Inv X pins σ H s)(hg:Gl X x)(hm:X.mg x=some u)(h:Q u s)
 (hd:(x==("__debug__":Str))=false:=by decide):wpAny (model X.prog X.w) X.A (eval (.Name x pos) X.env) Q E s:=
 Calls.Name_function_global I.ok.kind hg (Calls.loadGlobal_global (by rw[I.ok.glob];exact I.mod.glob.keeps I.bk) hm h) hd
theorem l8{E:Value→Shared→Prop}{pins:List (Addr×Obj)}{s:Shared}{σ:St}{H:Hp}{x:Str}{u:Value}{pos:Pos}{Q:Value→Shared→Prop}(I:Inv X pins σ H s)(hg:Gl X x)(hm:X.mg x=none)(hv:bootBuiltins x=some u)(h:Q u s)
 (hn:x≠"__name__":=by decide) (hd:(x==("__debug__":Str))=false:=by decide):wpAny (model X.prog X.w) X.A (eval (.Name x pos) X.env) Q E s:=by
 obtain⟨mb,h1,h2⟩:=I.mod.blt
 exact Calls.Name_function_global I.ok.kind hg (Calls.loadGlobal_builtin (by rw[I.ok.glob];exact I.mod.glob.keeps I.bk) hm (by rw[I.ok.blt];exact h1.keeps I.bk) ((h2 x hn).trans hv) h) hd
theorem Ii{x:Str}{v:V}{u:Value}{pos:Pos}(hg:Gl X x)(hm:X.mg x=none)(hv:bootBuiltins x=some u)(r:RelV v u)(hn:x≠"__name__":=by decide)(hd:(x==("__debug__":Str))=false:=by decide):PE X (.Name x pos) (tC v):=
 fun _ _ _ H _ I h=>l8 I hg hm hv ⟨v,H,I,r,h⟩ hn hd
variable {a b:Expr}{ta tb:TE}{pos:Pos}
noncomputable def tB(t:TE):TT:=fun σ H Q=>t σ H fun x H1=>∃c,x= .bl c∧Q c H1
theorem Kd{e:Expr}{t:TE}(h:PE X e t)(he:∀whole,isTrue e X.env whole=(do let v ←whole;standAt e.pos;holding [v] (truthy v)):=by intro _;rfl):PT X e (tB t):=by
 intro pins s σ H Q I hw
 refine isTrue_plain (bZ (h pins s σ H _ I hw) fun v s1 ⟨x,H1,I1,r1,q1⟩=>?_) (he _)
 obtain⟨d,rfl,q⟩:=q1
 cases r1
 exact wpAny_truthy_bool ⟨H1,I1,q⟩
variable {tA tB':TT}{rest:List Expr}
noncomputable def Ls(t u:TT):TT:=fun σ H Q=>t σ H fun c H1=>if c=true then u σ H1 Q else Q false H1
noncomputable def Nv(t u:TT):TT:=fun σ H Q=>t σ H fun c H1=>if c=true then Q true H1 else u σ H1 Q
noncomputable def N6(t:TT):TT:=fun σ H Q=>t σ H fun c H1=>Q (!c) H1
theorem pw_and1(ha:PT X a tA):PW X (.BoolOp .And [a] pos) tA:=by
 intro wh pins s σ H Q I h
 refine isTrue_and (bZ (ha pins s σ H Q I h) fun c s1 e=>?_)
 cases c with
 |true=>exact isTrue_and_nil e
 |false=>exact e
theorem pw_or1(ha:PT X a tA):PW X (.BoolOp .Or [a] pos) tA:=by
 intro wh pins s σ H Q I h
 refine isTrue_or (bZ (ha pins s σ H Q I h) fun c s1 e=>?_)
 cases c with
 |false=>exact isTrue_or_nil e
 |true=>exact e
theorem pw_and(ha:PT X a tA)(hb:PW X (.BoolOp .And (b::rest) pos) tB'):PW X (.BoolOp .And (a::b::rest) pos) (Ls tA tB'):=by
 intro wh pins s σ H Q I h
 refine isTrue_and (bZ (ha pins s σ H _ I h) fun c s1 ⟨H1,I1,q1⟩=>?_)
 cases c with
 |true=>exact hb wh pins s1 σ H1 Q I1 q1
 |false=>exact⟨H1,I1,q1⟩
theorem pw_or(ha:PT X a tA)(hb:PW X (.BoolOp .Or (b::rest) pos) tB'):PW X (.BoolOp .Or (a::b::rest) pos) (Nv tA tB'):=by
 intro wh pins s σ H Q I h
 refine isTrue_or (bZ (ha pins s σ H _ I h) fun c s1 ⟨H1,I1,q1⟩=>?_)
 cases c with
 |true=>exact⟨H1,I1,q1⟩
 |false=>exact hb wh pins s1 σ H1 Q I1 q1
theorem Lw(ha:PT X a tA):PT X (.UnaryOp .Not a pos) (N6 tA):=by
 intro pins s σ H Q I h
 exact isTrue_not (ha pins s σ H (fun c H1=>Q (!c) H1) I h)
noncomputable def MQ(ta tb:TE):TE:=fun σ H Q=>ta σ H fun x H1=>∃c,x= .bl c∧if c=true then tb σ H1 Q else Q (.bl false) H1
noncomputable def OA(ta tb:TE):TE:=fun σ H Q=>ta σ H fun x H1=>∃c,x= .bl c∧if c=true then Q (.bl true) H1 else tb σ H1 Q
noncomputable def M4(ta:TE):TE:=fun σ H Q=>ta σ H fun x H1=>∃c,x= .bl c∧Q (.bl (!c)) H1
theorem Ke{op}{t:TE}(h:PE X a t):PE X (.BoolOp op [a] pos) t:=fun pins s σ H Q I hw=>BoolOp_one (h pins s σ H Q I hw)
theorem Lc(ha:PE X a ta)(hb:PE X (.BoolOp .And (b::rest) pos) tb):PE X (.BoolOp .And (a::b::rest) pos) (MQ ta tb):=by
 intro pins s σ H Q I h
 refine BoolOp_and (bZ (ha pins s σ H _ I h) fun v s1 ⟨x,H1,I1,r1,q1⟩=>?_)
 obtain⟨c,rfl,q1⟩:=q1
 cases r1
 refine wpAny_truthy_bool ?_
 cases c with
 |true=>exact hb pins s1 σ H1 Q I1 q1
 |false=>exact⟨.bl false,H1,I1,rfl,q1⟩
theorem M_(ha:PE X a ta)(hb:PE X (.BoolOp .Or (b::rest) pos) tb):PE X (.BoolOp .Or (a::b::rest) pos) (OA ta tb):=by
 intro pins s σ H Q I h
 refine BoolOp_or (bZ (ha pins s σ H _ I h) fun v s1 ⟨x,H1,I1,r1,q1⟩=>?_)
 obtain⟨c,rfl,q1⟩:=q1
 cases r1
 refine wpAny_truthy_bool ?_
 cases c with
 |false=>exact hb pins s1 σ H1 Q I1 q1
 |true=>exact⟨.bl true,H1,I1,rfl,q1⟩
theorem Kq(ha:PE X a ta):PE X (.UnaryOp .Not a pos) (M4 ta):=by
 intro pins s σ H Q I h
 refine UnaryOp_ (bZ (ha pins s σ H _ I h) fun v s1 ⟨x,H1,I1,r1,q1⟩=>?_)
 obtain⟨c,rfl,q1⟩:=q1
 cases r1
 exact not_of (wpAny_truthy_bool ⟨.bl (!c),H1,I1,rfl,q1⟩)
noncomputable def OJ(t:TT)(ta tb:TE):TE:=fun σ H Q=>t σ H fun c H1=>if c=true then ta σ H1 Q else tb σ H1 Q
theorem FC{c:Expr}(hc:PT X c tA)(ha:PE X a ta)(hb:PE X b tb):PE X (.IfExp c a b pos) (OJ tA ta tb):=by
 intro pins s σ H Q I h
 refine wpAny_IfExp (bZ (hc pins s σ H _ I h) fun d s1 ⟨H1,I1,q1⟩=>?_)
 cases d with
 |true=>exact ha pins s1 σ H1 Q I1 q1
 |false=>exact hb pins s1 σ H1 Q I1 q1
end
end L2
namespace L2
open PySem PySem.Spec PyProof.Rows
noncomputable def lY(K:PySem.W.Frag)(H:Hp)(a:Addr)(xs:List V):Prop:=
 Rd H a (.lst xs)∨
  ∃(o:Obj) (au:Array Value) (n:Nat),K.lookup a=some o∧o.cls= .type "list"∧o.dict=none∧o.data= .seq au n∧au.size≤sizeLine∧Vals xs au.toList
noncomputable def iX(K:PySem.W.Frag)(H:Hp)(a:Addr)(xs:List V):Prop:=
 Rd H a (.tup xs)∨
  ∃(o:Obj) (au:Array Value) (n:Nat),K.lookup a=some o∧o.cls= .type "tuple"∧o.data= .seq au n∧au.size≤sizeLine∧Vals xs au.toList
noncomputable def Ou:Value→Option V
 | .none=>some .aA
 | .bool b=>some (.bl b)
 | .int i _=>some (.int i)
 | .str x _=>some (.str x)
 | .bytes b _=>some (.tP b)
 | .float b _=>some (.tJ b)
 | .ref a=>some (.ref a)
 | .type n=>some (.ty n)
 |_=>none
theorem RelV.abs{x:V}{u:Value}(r:RelV x u):Ou u=some x:=by
 cases x with
 |aA=>cases r;rfl
 |bl _=>cases r;rfl
 |int _=>obtain⟨t,rfl⟩:=r;rfl
 |str _=>obtain⟨t,rfl⟩:=r;rfl
 |tP _=>obtain⟨t,rfl⟩:=r;rfl
 |tJ _=>obtain⟨t,rfl⟩:=r;rfl
 |ref _=>cases r;rfl
 |ty _=>cases r;rfl
theorem RelV.inj{x y:V}{u:Value}(r:RelV x u)(q:RelV y u):x=y:=Option.some.inj (r.abs.symm.trans q.abs)
theorem Vals.inj:∀ {xs ys:List V} {us:List Value},Vals xs us→Vals ys us→xs=ys
 |_,_,_,.nil,.nil=>rfl
 |_,_,_,.cons r t,.cons r' t'=>by rw[r.inj r',Vals.inj t t']
section
variable {X:Cx}{pins:List (Addr×Obj)}{σ:St}{H:Hp}{s:Shared}{a:Addr}{xs ys:List V}
theorem lY.of{K:PySem.W.Frag}(h:H a=some (.lst xs)):lY K H a xs:= .inl (.inl h)
theorem iX.of{K:PySem.W.Frag}(h:H a=some (.tup xs)):iX K H a xs:= .inl (.inl h)
theorem Inv.list(I:Inv X pins σ H s)(h:lY X.K H a xs):∃au:List Value,Vals xs au∧PlainL s.heap a au.toArray∧xs.length≤sizeLine:=by
 rcases h with h|⟨o,au,n,hk,hc,hd,hs,hz,r⟩
 · obtain⟨z,au,n,r,e⟩:=h.ok I.aI
   exact⟨au,r,⟨_,n,e,rfl,rfl,rfl⟩,z⟩
 · refine⟨au.toList,r,⟨o,n,I.gY a o hk,hc,hd,by simpa using hs⟩,?_⟩
   have e:=r.length
   simp only[Array.length_toList]at e
   omega
theorem Inv.tuple(I:Inv X pins σ H s)(h:iX X.K H a xs):∃au:List Value,Vals xs au∧IsTup s.heap a au.toArray∧xs.length≤sizeLine:=by
 rcases h with h|⟨o,au,n,hk,hc,hs,hz,r⟩
 · obtain⟨z,au,r,p⟩:=h.ok I.aI
   exact⟨au,r,p,z⟩
 · refine⟨au.toList,r,⟨o,I.gY a o hk,hc,n,by simpa using hs⟩,?_⟩
   have e:=r.length
   simp only[Array.length_toList]at e
   omega
theorem Inv.zz(I:Inv X pins σ H s)(h:lY X.K H a xs)(h':lY X.K H a ys):xs=ys:=by
 obtain⟨au,r,⟨o,n,e,_,_,d⟩,_⟩:=I.list h
 obtain⟨its',r',⟨o',n',e',_,_,d'⟩,_⟩:=I.list h'
 rw[e]at e';cases e'
 rw[d]at d'
 injection d' with d1 _
 have:au=its':=by simpa using congrArg Array.toList d1
 subst this
 exact r.inj r'
theorem Inv.xy(I:Inv X pins σ H s)(h:iX X.K H a xs)(h':iX X.K H a ys):xs=ys:=by
 obtain⟨au,r,⟨o,e,_,n,d⟩,_⟩:=I.tuple h
 obtain⟨its',r',⟨o',e',_,n',d'⟩,_⟩:=I.tuple h'
 rw[e]at e';cases e'
 rw[d]at d'
 injection d' with d1 _
 have:au=its':=by simpa using congrArg Array.toList d1
 subst this
 exact r.inj r'
end
noncomputable abbrev Cx.ph(X:Cx)(E:Value→Shared→Prop):Cx:={X with xe:=E}
noncomputable abbrev Cx.vD(X:Cx):Cx:=X.ph fun _ _=>False
theorem Cx.Ok.ph{X:Cx}(ok:X.Ok)(E:Value→Shared→Prop):(X.ph E).Ok:=
 ⟨ok.mod,ok.kind,ok.glob,ok.blt,ok.above,ok.inj,ok.has,ok.zr,ok.hd,ok.frames,ok.BC,ok.D1,ok.bs,ok.qY,ok.uv,ok.uH,ok.kP,ok.uV,ok.gt⟩
theorem Cx.Ok.l_{X:Cx}{E:Value→Shared→Prop}(ok:(X.ph E).Ok):X.Ok:=
 ⟨ok.mod,ok.kind,ok.glob,ok.blt,ok.above,ok.inj,ok.has,ok.zr,ok.hd,ok.frames,ok.BC,ok.D1,ok.bs,ok.qY,ok.uv,ok.uH,ok.kP,ok.uV,ok.gt⟩
section
variable {X:Cx}{pins:List (Addr×Obj)}{σ:St}{H:Hp}{s:Shared}{E:Value→Shared→Prop}
theorem Inv.ph(I:Inv X pins σ H s)(E:Value→Shared→Prop):Inv (X.ph E) pins σ H s:=⟨I.ok.ph E,I.os,I.bare,I.base,I.loc,I.cell,I.free,I.iI,I.pin,I.aI,I.len⟩
theorem Inv.l_(I:Inv (X.ph E) pins σ H s):Inv X pins σ H s:=⟨I.ok.l_,I.os,I.bare,I.base,I.loc,I.cell,I.free,I.iI,I.pin,I.aI,I.len⟩
theorem SP.l_{D:Ends}{f:Flow}{s':Shared}(h:SP (X.ph E) pins D f s'):SP X pins D f s':=by
 cases f with
 |next=>obtain⟨σ',H',I,q⟩:=h;exact⟨σ',H',I.l_,q⟩
 |brk=>obtain⟨σ',H',I,q⟩:=h;exact⟨σ',H',I.l_,q⟩
 |cont=>obtain⟨σ',H',I,q⟩:=h;exact⟨σ',H',I.l_,q⟩
 |ret u=>obtain⟨v,σ',H',I,r,q⟩:=h;exact⟨v,σ',H',I.l_,r,q⟩
theorem gT.vD{st:List Stmt}{t:TS}(h:gT X.vD st t):gT X st t:=fun pins s σ H D I hw=>
 wpAny_mono (h pins s σ H D (I.ph _) hw) (fun _ _ q=>q.l_) fun _ _ z=>False.elim z
end
section
variable {X:Cx}{st:Stmt}{rest:List Stmt}{t u:TS}{e:Expr}{te:TE}{pos:Pos}
noncomputable def MN:TS:=fun D σ H=>D.nx σ H
noncomputable def N4(t u:TS):TS:=fun D σ H=>t {D with nx:=u D} σ H
theorem HG:gT X [] MN:=fun _ _ σ H _ I h=>wpAny_execs_nil ⟨σ,H,I,h⟩
theorem Fx(h1:PS X st t)(h2:gT X rest u):gT X (st::rest) (N4 t u):=by
 intro pins s σ H D I h
 refine wpAny_execs_cons (bZ (h1 pins s σ H {D with nx:=u D} I h) fun f s1 q=>?_)
 cases f with
 |next=>
  obtain⟨σ',H',I',q⟩:=q
  exact h2 pins s1 σ' H' D I' q
 |ret v=>exact q
 |brk=>exact q
 |cont=>exact q
theorem IF(h1:PS X st t):gT X [st] t:=by
 intro pins s σ H D I h
 refine wpAny_execs_cons (bZ (h1 pins s σ H D I h) fun f s1 q=>?_)
 cases f with
 |next=>exact wpAny_execs_nil q
 |ret v=>exact q
 |brk=>exact q
 |cont=>exact q
theorem Inv.quiet{pins:List (Addr×Obj)}{σ:St}{H:Hp}{s:Shared}(I:Inv X pins σ H s):interactive X.env=false:=by simp[interactive,I.ok.kind]
noncomputable def L4(te:TE):TS:=fun D σ H=>te σ H fun _ H1=>D.nx σ H1
theorem Hz(he:PE X e te)(hs:swapsWith e none pos.line X.env=pure false:=by rfl):PS X (.Expr e pos) (L4 te):=by
 intro pins s σ H D I h
 exact wpAny_Expr_any (bZ (he pins s σ H _ I h) fun v s1 ⟨x,H1,I1,r1,q1⟩=>⟨σ,H1,I1,q1⟩) I.quiet hs
noncomputable def Oc(te:TE):TS:=fun D σ H=>te σ H D.rt
theorem Ko(he:PE X e te):PS X (.Return (some e) pos) (Oc te):=by
 intro pins s σ H D I h
 exact wpAny_Return_some (bZ (he pins s σ H _ I h) fun v s1 ⟨x,H1,I1,r1,q1⟩=>⟨x,σ,H1,I1,r1,q1⟩)
noncomputable def NY(c:TT)(t u:TS):TS:=fun D σ H=>c σ H fun b H1=>if b=true then t D σ H1 else u D σ H1
theorem Mn{c:Expr}{a b:List Stmt}{tc:TT}(hc:PT X c tc)(ha:gT X a t)(hb:gT X b u):PS X (.If c a b pos) (NY tc t u):=by
 intro pins s σ H D I h
 refine wpAny_If (bZ (hc pins s σ H _ I h) fun d s1 ⟨H1,I1,q1⟩=>?_)
 cases d with
 |true=>exact ha pins s1 σ H1 D I1 q1
 |false=>exact hb pins s1 σ H1 D I1 q1
end
noncomputable abbrev TG:=V→St→Hp→(St→Hp→Prop)→Prop
noncomputable abbrev vG:=List V→St→Hp→(St→Hp→Prop)→Prop
noncomputable def PG(X:Cx)(target:Expr)(t:TG):Prop:=
 ∀(pins:List (Addr×Obj)) (s:Shared) (σ:St) (H:Hp) (v:V) (u:Value) (Q:St→Hp→Prop),Inv X pins σ H s→RelV v u→t v σ H Q→
  wpAny (model X.prog X.w) X.A (assign target X.env u) (fun _ s'=>∃σ' H',Inv X pins σ' H' s'∧Q σ' H') X.xe s
noncomputable def Al(X:Cx)(ts:List Expr)(t:vG):Prop:=
 ∀(pins:List (Addr×Obj)) (s:Shared) (σ:St) (H:Hp) (vs:List V) (us:List Value) (Q:St→Hp→Prop),Inv X pins σ H s→Vals vs us→t vs σ H Q→
  wpAny (model X.prog X.w) X.A (assignInOrder ((assignEach ts X.env).map (·.2)) us) (fun _ s'=>∃σ' H',Inv X pins σ' H' s'∧Q σ' H') X.xe s
noncomputable abbrev FP:=V→V→V→Hp→(Hp→Prop)→Prop
noncomputable def KH(X:Cx)(t:FP):Prop:=
 ∀(pins:List (Addr×Obj)) (s:Shared) (σ:St) (H:Hp) (o i v:V) (ov iv u:Value) (Q:Hp→Prop),Inv X pins σ H s→RelV o ov→RelV i iv→RelV v u→t o i v H Q→
  wpAny (model X.prog X.w) X.A (setItem ov iv u) (fun _ s'=>∃H',Inv X pins σ H' s'∧Q H') X.xe s
noncomputable abbrev Hk:=V→V→Hp→VK→Prop
noncomputable def Jw(X:Cx)(op:Operator)(t:Hk):Prop:=
 ∀(pins:List (Addr×Obj)) (s:Shared) (σ:St) (H:Hp) (x y:V) (v u:Value) (Q:VK),Inv X pins σ H s→RelV x v→RelV y u→t x y H Q→
  wpAny (model X.prog X.w) X.A (inplaceOp op v u) (EP X pins σ Q) X.xe s
section
variable {X:Cx}{pos:Pos}
noncomputable def fu(i:Nat):TG:=fun v σ H Q=>Q (σ.set i (some v)) H
theorem jf{i:Nat}{x:Str}(hN:X.N.Nodup)(hi:X.N[i]?=some x)(hx:Loc X.env.scope x)(hf:X.fn x=true∨X.env.scope.names.lookup x=some .local:=by first|exact .inl rfl|exact .inr rfl|assumption):PG X (.Name x pos) (fu i):=by
 intro pins s σ H v u Q I r h
 exact wpAny_assign_Name (nY I hN hi hx r (fun s' I'=>⟨_,H,I',h⟩) hf)
noncomputable def wD:vG:=fun vs σ H Q=>vs=[]∧Q σ H
noncomputable def iL(t:TG)(u:vG):vG:=fun vs σ H Q=>∃v r,vs=v::r∧t v σ H fun σ' H'=>u r σ' H' Q
theorem si:Al X [] wD:=by
 intro pins s σ H vs us Q I r h
 obtain⟨e,h⟩:=h
 subst e
 cases r
 exact assignInOrder_nil ⟨σ,H,I,h⟩
theorem gf{e:Expr}{es:List Expr}{t:TG}{u:vG}(h1:PG X e t)(h2:Al X es u)
 (hs:(assignEach (e::es) X.env).map (·.2)=assign e X.env::(assignEach es X.env).map (·.2):=by rfl):Al X (e::es) (iL t u):=by
 intro pins s σ H vs us Q I r h
 obtain⟨v,vr,e1,h⟩:=h
 subst e1
 cases r with
 |cons r rr=>
  rw[hs]
  refine assignInOrder_cons (bZ (h1 pins s σ H _ _ _ I r h) fun _ s1 ⟨σ1,H1,I1,q1⟩=>?_)
  exact h2 pins s1 σ1 H1 _ _ Q I1 rr q1
noncomputable def C0(K:PySem.W.Frag)(n:Nat)(t:vG):TG:=fun v σ H Q=>∃a xs,v= .ref a∧iX K H a xs∧xs.length=n∧t xs σ H Q
theorem vw{es:List Expr}{k:Nat}{t:vG}{n:Nat}(hc:X.calm=true)(h:Al X es t)
 (hn:(assignEach es X.env).length=n:=by rfl) (hst:(assignEach es X.env).findIdx? (·.1)=none:=by rfl):PG X (.Tuple es k pos) (C0 X.K n t):=by
 intro pins s σ H v u Q I r hw
 obtain⟨a,xs,e1,hq,hl,hw⟩:=hw
 subst e1
 cases r
 obtain⟨au,rv,ht,hz⟩:=I.tuple hq
 refine assign_Tuple_tuple (I.ok.hd hc) ht (by simp[hn,←hl,rv.length]) hst fun h' hx=>?_
 have I1:Inv X pins σ H {s with heap:=h'}:=I.kept (t':=s.toks) fun b o e=>hx b o (Nat.ne_of_lt (Heap.lt_size e)) e
 exact h pins _ σ H xs _ Q I1 (by simpa using rv) hw
noncomputable def wU(to ti:TE)(t:FP):TG:=fun v σ H Q=>to σ H fun o H1=>ti σ H1 fun i H2=>t o i v H2 fun H3=>Q σ H3
theorem uU{o i:Expr}{to ti:TE}{t:FP}(ho:PE X o to)(hi:PE X i ti)(hs:KH X t)
 (ha:∀v,assign (.Subscript o i pos) X.env v=(do
   let ov ←holding [v] (eval o X.env)
   let iv ←holding [v,ov] (eval i X.env)
   standAt pos
   holding [v,ov,iv] (setItem ov iv v)
   release [v,ov,iv] []):=by intro _;rfl):PG X (.Subscript o i pos) (wU to ti t):=by
 intro pins s σ H v u Q I r h
 rw[ha]
 refine wpAny_bind (wpAny_holding (bZ (ho pins s σ H _ I h) fun ov s1 ⟨x,H1,I1,r1,q1⟩=>?_))
 refine wpAny_bind (wpAny_holding (bZ (hi pins s1 σ H1 _ I1 q1) fun iv s2 ⟨y,H2,I2,r2,q2⟩=>?_))
 refine wpAny_bind (wpAny_standAt (wpAny_bind (wpAny_holding (bZ (hs pins s2 σ H2 x y v ov iv u _ I2 r1 r2 r q2) fun _ s3 ⟨H3,I3,q3⟩=>?_))))
 exact wpAny_release ⟨σ,H3,I3,q3⟩
noncomputable def lB(te:TE)(g:TG):TS:=fun D σ H=>te σ H fun x H1=>g x σ H1 D.nx
theorem rl{tg e:Expr}{te:TE}{g:TG}(he:PE X e te)(hg:PG X tg g)(hs:swapsWithSole [tg] e pos.line X.env=pure false:=by rfl)(hw:swappedStores [tg] e X.env=pure none:=by rfl)
 (h1:(assignEach [tg] X.env).map (·.2)=[assign tg X.env]:=by rfl):PS X (.Assign [tg] e pos) (lB te g):=by
 intro pins s σ H D I h
 refine wpAny_Assign_stores (bZ (he pins s σ H _ I h) fun v s1 ⟨x,H1,I1,r1,q1⟩=>?_) hs hw
 rw[h1]
 exact bZ (hg pins s1 σ H1 x v _ I1 r1 q1) fun _ s2 q=>q
theorem Lj{i:Nat}{x:Str}{e:Expr}{te:TE}{pos':Pos}(hN:X.N.Nodup)(hi:X.N[i]?=some x)(hx:Loc X.env.scope x)(he:PE X e te)(hs:swapsWith e (some (.Name x pos')) pos.line X.env=pure false:=by rfl)(hf:X.fn x=true∨X.env.scope.names.lookup x=some .local:=by first|exact .inl rfl|exact .inr rfl|assumption):
 PS X (.Assign [.Name x pos'] e pos) (lB te (fu i)):=by
 intro pins s σ H D I h
 refine wpAny_Assign_Name (bZ (he pins s σ H _ I h) fun v s1 ⟨y,H1,I1,r1,q1⟩=>?_) hs
 exact nY I1 hN hi hx r1 (fun s2 I2=>⟨_,H1,I2,q1⟩) hf
noncomputable def Jj(i j:Nat)(ta:TA):TS:=fun D σ H=>ta σ H fun vs H1=>∃v w,vs=[v,w]∧D.nx ((σ.set i (some v)).set j (some w)) H1
theorem Li{i j:Nat}{x y:Str}{a b:Expr}{ta:TA}{px py pt:Pos}{kt k2 pt2}(hc:X.calm=true)(hN:X.N.Nodup)(hi:X.N[i]?=some x)(hj:X.N[j]?=some y)(hij:i≠j)
 (hx:X.env.scope.names.lookup x=some .local) (hy:X.env.scope.names.lookup y=some .local) (ha:PA X [a,b] ta)
 (hw:swappedStores [.Tuple [.Name x px,.Name y py] kt pt] (.Tuple [a,b] k2 pt2) X.env=pure (some [x,y]))
 (hs:swapsWithSole [.Tuple [.Name x px,.Name y py] kt pt] (.Tuple [a,b] k2 pt2) pos.line X.env=pure false:=by rfl):
 PS X (.Assign [.Tuple [.Name x px,.Name y py] kt pt] (.Tuple [a,b] k2 pt2) pos) (Jj i j ta):=by
 intro pins s σ H D I h
 rw[exec_Assign_arm]
 refine wpAny_bind (wpAny_standAt ?_)
 rw[hs]
 refine wpAny_bind (wpAny_pure ?_)
 rw[if_neg (by decide)]
 refine wpAny_bind (Tuple_ (bZ (ha _ pins s σ H _ I h) fun us s1 ⟨vs,H1,I1,r1,q1⟩=>?_))
 obtain⟨v,w,e1,q1⟩:=q1
 subst e1
 obtain⟨u1,u2,rfl,rv,rw'⟩:∃u1 u2,us=[u1,u2]∧RelV v u1∧RelV w u2:=by
  cases r1 with
  |cons p q=>
   cases q with
   |cons p' q'=>
    cases q'
    exact⟨_,_,rfl,p,p'⟩
 refine wpAny_newObj_type ?_ (by show 2≤sizeLine;decide)
 have I2:Inv X pins σ H1 {s1 with heap:=s1.heap.push {cls:= .type "tuple",data:= .seq [u1,u2].toArray}}:=I1.kept (t':=s1.toks) fun b o e=>Heap.get?_push_of_some _ e
 rw[hw]
 refine wpAny_bind (wpAny_pure ?_)
 show wpAny (model X.prog X.w) X.A (do rule "assign.swapped-stores";let items ←unpackItems (.ref s1.heap.objs.size) 2 none;assignInOrder [fun v=>bindName X.env y v,fun v=>bindName X.env x v] items.reverse;pure Flow.next) _ _ _
 refine wpAny_bind (wpAny_rule (wpAny_bind (unpackItems_tuple (items:= #[u1,u2]) (I.ok.hd hc) (IsTup.new s1.heap _) fun h' hx'=>?_)))
 have I3:=I2.kept (h':=h') (t':=s1.toks) fun b o e=>hx' b o (Nat.ne_of_lt (Heap.lt_size e)) e
 show wpAny _ _ (assignInOrder [fun v=>bindName X.env y v,fun v=>bindName X.env x v] [u2,u1] >>= fun _=>pure Flow.next) _ _ _
 refine wpAny_bind (assignInOrder_cons (wpAny_bindName (nY I3 hN hj (.inl hy) rw' (fun s2 I4=>?_) (.inr hy))))
 refine assignInOrder_cons (wpAny_bindName (nY I4 hN hi (.inl hx) rv (fun s3 I5=>assignInOrder_nil (wpAny_pure ?_)) (.inr hx)))
 rw[List.set_comm _ _ (Ne.symm hij)]at I5
 exact⟨_,H1,I5,q1⟩
noncomputable def Je(i:Nat)(te:TE)(ti:Hk):TS:=fun D σ H=>∃x,σ[i]?=some (some x)∧te σ H fun y H1=>ti x y H1 fun z H2=>D.nx (σ.set i (some z)) H2
theorem KP{i:Nat}{x:Str}{e:Expr}{te:TE}{op:Operator}{ti:Hk}{pos':Pos}(hN:X.N.Nodup)(hi:X.N[i]?=some x)(hx:Loc X.env.scope x)(he:PE X e te)(ho:Jw X op ti)(hf:X.fn x=true∨X.env.scope.names.lookup x=some .local:=by first|exact .inl rfl|exact .inr rfl|assumption):
 PS X (.AugAssign (.Name x pos') op e pos) (Je i te ti):=by
 intro pins s σ H D I h
 obtain⟨v,e1,h⟩:=h
 obtain⟨m,hn,hl⟩:=I.loc
 have vis:yI X.env.scope x:=by rcases hx with k|k;exact .inl k;exact .inr (.inl k)
 obtain⟨u,r,l⟩:=hl i x v hi e1 vis
 refine wpAny_AugAssign_Name ?_
 have go:wpAny (model X.prog X.w) X.A (eval e X.env) (fun w s₂=>wpAny (model X.prog X.w) X.A (inplaceOp op u w) (fun r s₃=>wpAny (model X.prog X.w) X.A (storeName X.env x r) (fun _=>SP X pins D .next) X.xe s₃) X.xe s₂) X.xe s:=by
  refine bZ (he pins s σ H _ I h) fun w s1 ⟨y,H1,I1,r1,q1⟩=>?_
  refine bZ (ho pins s1 σ H1 v y u w _ I1 r r1 q1) fun z s2 ⟨zv,H2,I2,r2,q2⟩=>?_
  exact nY I2 hN hi hx r2 (fun s3 I3=>⟨_,H2,I3,q2⟩) hf
 rcases l with⟨hk,hm⟩|⟨hk,c,hc,hcell⟩
 · exact wpAny_loadName_local I.ok.kind hk hn hm go
 · rcases hk with hk|hk
   · exact wpAny_loadName_cell I.ok.kind hk hc hcell go
   · rcases hx with k|k
     · have:X.env.scope.names.lookup x=some .free:=hk
       rw[k]at this;cases this
     · have:X.env.scope.names.lookup x=some .free:=hk
       rw[k]at this;cases this
noncomputable def JV(f:Int→Int→Int):Hk:=fun x y H Q=>∃i j,x= .int i∧y= .int j∧Q (.int (f i j)) H
theorem Jy:Jw X .Add (JV fun i j=>i+j):=by
 intro pins s σ H x y v u Q I r1 r2 h
 obtain⟨i,j,e1,e2,q⟩:=h
 subst e1;subst e2
 obtain⟨t,rfl⟩:=r1
 obtain⟨t',rfl⟩:=r2
 exact iadd_int ⟨.int _,H,I.tok _,⟨_,rfl⟩,q⟩
end
section
variable {X:Cx}{pos:Pos}
noncomputable def DN(c:TT)(tb:TS):TS:=fun D σ H=>∃W:Nat→St→Hp→Prop,(∃m,W m σ H)∧∀m σ H,W m σ H→
 c σ H fun b H1=>if b=true then∃N:St→Hp→Prop,(∀σ' H',N σ' H'→∃m',m'<m∧W m' σ' H')∧tb {D with nx:=N,ct:=N,bk:=D.nx} σ H1 else D.nx σ H1
theorem Gm{c:Expr}{body:List Stmt}{tc:TT}{tb:TS}(hp:PassesOwn (model X.prog X.w) X.A X.env X.xe)(hc:PT X c tc)(hb:gT X body tb):PS X (.While c body [] pos) (DN tc tb):=by
 intro pins s σ H D I h
 obtain⟨W,⟨m0,w0⟩,turn⟩:=h
 refine wpAny_While (codeAny_whileLoop (fun n s'=>∃σ' H',Inv X pins σ' H' s'∧W n σ' H') ?_ m0 ⟨σ,H,I,w0⟩)
 rintro n s1 ⟨σ1,H1,I1,w1⟩
 refine wpAny_passesOwn hp (bZ (hc pins s1 σ1 H1 _ I1 (turn n σ1 H1 w1)) fun b s2 ⟨H2,I2,q2⟩=>?_)
 cases b with
 |true=>
  obtain⟨N,hN,q2⟩:=q2
  rw[if_pos rfl]
  refine wpAny_passesOwn hp (bZ (hb pins s2 σ1 H2 _ I2 q2) fun f s3 q3=>?_)
  cases f with
  |next=>
   obtain⟨σ3,H3,I3,n3⟩:=q3
   obtain⟨m',hm,w3⟩:=hN σ3 H3 n3
   exact⟨m',hm,σ3,H3,I3,w3⟩
  |cont=>
   obtain⟨σ3,H3,I3,n3⟩:=q3
   obtain⟨m',hm,w3⟩:=hN σ3 H3 n3
   exact⟨m',hm,σ3,H3,I3,w3⟩
  |brk=>exact q3
  |ret v=>exact q3
 |false=>
  rw[if_neg Bool.false_ne_true]
  exact wpAny_execs_nil ⟨σ1,H2,I2,q2⟩
end
structure It where
 go:Nat→Hp→Prop
 pE:Nat→Hp→V→Hp→Prop
 stop:Nat→Hp→Prop
noncomputable def kW(X:Cx)(pins:List (Addr×Obj))(H:Hp)(b:Addr):Prop:=
 H b=none∧b≠X.env.locals∧b∉X.fs∧(b∈X.ex∨X.s₀.heap.objs.size≤b)∧(∀x c,X.env.cells.lookup x=some c→c≠b)∧∀p∈X.pn++pins,p.1≠b
theorem Inv.wg{X:Cx}{pins:List (Addr×Obj)}{σ:St}{H H':Hp}{s:Shared}{b:Addr}(I:Inv X pins σ H s)(hb:s.heap.objs.size≤b)(hn:H' b=none):kW X pins H' b:=by
 refine⟨hn,Nat.ne_of_gt (Nat.lt_of_lt_of_le I.lt hb),I.Kh hb,.inr (Nat.le_trans I.sz hb),fun x c e z=>?_,fun p hp z=>?_⟩
 · obtain⟨v,q⟩:=I.cell x c e
   exact absurd (Nat.lt_of_lt_of_le q.lt (by rw[z];exact hb)) (Nat.lt_irrefl _)
 · exact absurd (Nat.lt_of_lt_of_le (Heap.lt_size (I.pin p hp).1) (by rw[z];exact hb)) (Nat.lt_irrefl _)
structure Turn(P:Program)(w:World)(K:PySem.W.Frag)(tg:Expr)(J:It)(fp:List Addr)(it:Addr)(tn:Nat→Heap→Prop):Prop where
 mem:it∈fp
 obj:∀i h,tn i h→∀b∈fp,∃o,h.get? b=some o∧∀v,o.data≠ .cell v
 keep:∀i h h',tn i h→(∀b∈fp,∀o,h.get? b=some o→h'.get? b=some o)→tn i h'
 item:∀(X:Cx),X.prog=P→X.w=w→X.K=K→X.calm=true→∀(i:Nat) (pins:List (Addr×Obj)) (s:Shared) (σ:St) (H:Hp) (E:Value→Shared→Prop),Inv X pins σ H s→(∀b∈fp,kW X pins H b)→tn i s.heap→J.go i H→
  wpAny (model P w) X.A (pyNext (.ref it)) (fun r s1=>∃u,r=some u∧
   wpAny (model P w) X.A (letOwnedTupleGo tg (.ref it) u) (fun _ s2=>∃x H',Inv X pins σ H' s2∧RelV x u∧J.pE i H x H'∧tn (i+1) s2.heap∧∀b∈fp,H' b=none) E s1) E s
 done:∀(X:Cx),X.prog=P→X.w=w→X.K=K→X.calm=true→∀(i:Nat) (pins:List (Addr×Obj)) (s:Shared) (σ:St) (H:Hp) (E:Value→Shared→Prop),Inv X pins σ H s→(∀b∈fp,kW X pins H b)→tn i s.heap→J.stop i H→
  wpAny (model P w) X.A (pyNext (.ref it)) (fun r s1=>r=none∧Inv X pins σ H s1) E s
 self:∀(A:Around) (i:Nat) (s:Shared) (Q:Value→Shared→Prop) (E:Value→Shared→Prop),tn i s.heap→Q (.ref it) s→wpAny (model P w) A (pyIter (.ref it)) Q E s
noncomputable abbrev TI:=St→Hp→(It→Hp→Prop)→Prop
noncomputable def G0(X:Cx)(pins:List (Addr×Obj))(σ:St)(tg:Expr)(R:It→Hp→Prop)(itv:Value)(s2:Shared):Prop:=
 ∃(it:Addr) (fp:List Addr) (tn:Nat→Heap→Prop) (J:It) (H':Hp),itv= .ref it∧Inv X pins σ H' s2∧Turn X.prog X.w X.K tg J fp it tn∧tn 0 s2.heap∧(∀b∈fp,kW X pins H' b)∧R J H'
noncomputable def PI(X:Cx)(tg iter:Expr)(wi:TI):Prop:=
 ∀(pins:List (Addr×Obj)) (s:Shared) (σ:St) (H:Hp) (R:It→Hp→Prop),Inv X pins σ H s→wi σ H R→
  wpAny (model X.prog X.w) X.A (eval iter X.env) (fun v s1=>wpAny (model X.prog X.w) X.A (pyIter v) (G0 X pins σ tg R) X.xe s1) X.xe s
theorem Ck{M:Model}{A:Around}{E:Value→Shared→Prop}{s:Shared}{tg:Expr}{it:Addr}{u:Value}{o:Obj}{n:String}{vs:Array Value}{Q:Unit→Shared→Prop}(ho:s.heap.get? it=some o)(hc:o.cls= .type n)(hd:o.data= .fields vs)
 (hn: ["enumerate","zip","dict_itemiterator","dict_reverseitemiterator","odict_iterator","itertools.zip_longest","itertools.pairwise"].contains n=false) (hQ:Q () s):wpAny M A (letOwnedTupleGo tg (.ref it) u) Q E s:=by
 unfold letOwnedTupleGo
 cases tg<;>first
  |exact wpAny_pure hQ
  |(cases u<;>first
     |exact wpAny_pure hQ
     |(refine wpAny_bind (wpAny_load ho ?_)
       rw[hc,hd]
       show wpAny M A (if(["enumerate","zip","dict_itemiterator","dict_reverseitemiterator","odict_iterator","itertools.zip_longest","itertools.pairwise"].contains n&&vs[0]?==some (rawInt _))=true then _ else _) Q E s
       rw[if_neg (by intro h;rw[hn,Bool.false_and]at h;cases h)]
       exact wpAny_pure hQ))
noncomputable def Lh(K:PySem.W.Frag)(a:Addr):It:=
 ⟨fun i H=>∃xs x,lY K H a xs∧xs[i]?=some x,fun i H x H'=>H'=H∧∀xs,lY K H a xs→xs[i]?=some x,fun i H=>∃xs,lY K H a xs∧xs.length≤i⟩
noncomputable def Kr(K:PySem.W.Frag)(a:Addr):It:=
 ⟨fun i H=>∃xs x,iX K H a xs∧xs[i]?=some x,fun i H x H'=>H'=H∧∀xs,iX K H a xs→xs[i]?=some x,fun i H=>∃xs,iX K H a xs∧xs.length≤i⟩
noncomputable def xa(lo:Int)(n:Nat):It:=⟨fun i _=>i<n,fun i H x H'=>H'=H∧x= .int (lo+i),fun i _=>n≤i⟩
theorem DL{P:Program}{w:World}{K:PySem.W.Frag}{tg:Expr}(a it:Addr):Turn P w K tg (Lh K a) [it] it (fun i h=>h.IsListIter it a i) where
 mem:=by simp
 obj:=fun i h st b hb=>by
  have e:b=it:=by simpa using hb
  subst e
  obtain⟨o,e,c,d⟩:=st
  exact⟨o,e,fun v z=>by rw[d]at z;cases z⟩
 keep:=fun i h h' st k=>st.at fun o e=>k it (by simp) o e
 item:=by
  intro X hP hw hK hc i pins s σ H E I hf st hg
  subst hP hw hK
  obtain⟨xs,x,hq,hx⟩:=hg
  obtain⟨au,rv,p,hz⟩:=I.list hq
  obtain⟨u,hu,ru⟩:=rv.get hx
  obtain⟨f0,f1,f2,f3,f4,f5⟩:=hf it (by simp)
  refine wpAny_pyNext_list_item st p.isList (x:=u) (by simpa using hu) fun h' st' sb=>?_
  have I1:Inv X pins σ H {s with heap:=h'}:=I.turned (t':=s.toks) (fun b o hb e=>(sb.2 b hb).trans e) f0 f1 f3 f4 f5
  obtain⟨o,e,c,d⟩:=id st'
  exact⟨u,rfl,Ck (s:={s with heap:=h'}) e c d (by decide) ⟨x,H,I1,ru,⟨rfl,fun ys hy=>by rw[I.zz hy hq];exact hx⟩,st',fun b hb=>(hf b hb).1⟩⟩
 done:=by
  intro X hP hw hK hc i pins s σ H E I hf st hg
  subst hP hw hK
  obtain⟨xs,hq,hx⟩:=hg
  obtain⟨au,rv,p,hz⟩:=I.list hq
  obtain⟨f0,f1,f2,f3,f4,f5⟩:=hf it (by simp)
  have hl:=rv.length
  exact wpAny_pyNext_list_end (I.ok.hd hc) st p.isList (by simp;omega) fun h' eb=>⟨rfl,I.turned (t':=s.toks) (fun b o hb e=>eb b o hb e) f0 f1 f3 f4 f5⟩
 self:=fun _ _ _ _ _ st h=>wpAny_pyIter_listiter st h
theorem CF{P:Program}{w:World}{K:PySem.W.Frag}{tg:Expr}(a it:Addr):Turn P w K tg (Kr K a) [it] it (fun i h=>h.IsTupleIter it a i) where
 mem:=by simp
 obj:=fun i h st b hb=>by
  have e:b=it:=by simpa using hb
  subst e
  obtain⟨o,e,c,d⟩:=st
  exact⟨o,e,fun v z=>by rw[d]at z;cases z⟩
 keep:=fun i h h' st k=>st.at fun o e=>k it (by simp) o e
 item:=by
  intro X hP hw hK hc i pins s σ H E I hf st hg
  subst hP hw hK
  obtain⟨xs,x,hq,hx⟩:=hg
  obtain⟨au,rv,p,hz⟩:=I.tuple hq
  obtain⟨u,hu,ru⟩:=rv.get hx
  obtain⟨f0,f1,f2,f3,f4,f5⟩:=hf it (by simp)
  refine wpAny_pyNext_tuple_item st (show s.heap.IsTuple a au.toArray from p) (x:=u) (by simpa using hu) fun h' st' sb=>?_
  have I1:Inv X pins σ H {s with heap:=h'}:=I.turned (t':=s.toks) (fun b o hb e=>(sb.2 b hb).trans e) f0 f1 f3 f4 f5
  obtain⟨o,e,c,d⟩:=id st'
  exact⟨u,rfl,Ck (s:={s with heap:=h'}) e c d (by decide) ⟨x,H,I1,ru,⟨rfl,fun ys hy=>by rw[I.xy hy hq];exact hx⟩,st',fun b hb=>(hf b hb).1⟩⟩
 done:=by
  intro X hP hw hK hc i pins s σ H E I hf st hg
  subst hP hw hK
  obtain⟨xs,hq,hx⟩:=hg
  obtain⟨au,rv,p,hz⟩:=I.tuple hq
  obtain⟨f0,f1,f2,f3,f4,f5⟩:=hf it (by simp)
  have hl:=rv.length
  exact wpAny_pyNext_tuple_end (I.ok.hd hc) st (show s.heap.IsTuple a au.toArray from p) (by simp;omega) fun h' eb=>⟨rfl,I.turned (t':=s.toks) (fun b o hb e=>eb b o hb e) f0 f1 f3 f4 f5⟩
 self:=fun _ _ _ _ _ st h=>wpAny_pyIter_tupleiter st h
theorem CH{P:Program}{w:World}{K:PySem.W.Frag}{tg:Expr}(it:Addr)(lo:Int)(n:Nat):Turn P w K tg (xa lo n) [it] it (fun i h=>IsRangeIter h it (lo+(i:Nat)*1) ((n:Int)-(i:Nat)) 1) where
 mem:=by simp
 obj:=fun i h st b hb=>by
  have e:b=it:=by simpa using hb
  subst e
  exact⟨_,st,fun v z=>by
   have z':Data.fields _=Data.cell v:=z
   cases z'⟩
 keep:=fun i h h' st k=>k it (by simp) _ st
 item:=by
  intro X hP hw hK hc i pins s σ H E I hf st hg
  subst hP hw hK
  obtain⟨f0,f1,f2,f3,f4,f5⟩:=hf it (by simp)
  have W:=Walks.range (prog:=X.prog) (w:=X.w) (I.ok.hd hc) it lo 1 n
  refine W.item i s _ _ hg st fun v h' tk hv st' kk=>?_
  obtain⟨t,rfl⟩:=hv
  have I1:Inv X pins σ H {s with heap:=h',toks:=tk}:=I.turned (fun b o hb e=>kk b o (by simpa using hb) e) f0 f1 f3 f4 f5
  refine⟨_,rfl,Ck (s:={s with heap:=h',toks:=tk}) (n:="range_iterator") st' rfl rfl (by decide) ⟨.int (lo+i),H,I1,⟨t,?_⟩,⟨rfl,rfl⟩,st',fun b hb=>(hf b hb).1⟩⟩
  rw[Int.mul_one]
 done:=by
  intro X hP hw hK hc i pins s σ H E I hf st hg
  subst hP hw hK
  obtain⟨f0,f1,f2,f3,f4,f5⟩:=hf it (by simp)
  exact wpAny_pyNext_range_end (I.ok.hd hc) st (by have:n≤i:=hg;omega) fun h' eb=>⟨rfl,I.turned (t':=s.toks) (fun b o hb e=>eb b o hb e) f0 f1 f3 f4 f5⟩
 self:=fun _ _ _ _ _ st h=>wpAny_pyIter_rangeiter st h
end L2
namespace L2
open PySem PySem.Spec PyProof.Rows
section
variable {X:Cx}{tg:Expr}
theorem y9{pins:List (Addr×Obj)}{σ:St}{H:Hp}{s:Shared}{R:It→Hp→Prop}{E:Value→Shared→Prop}{lo hi:Int}{t u v:Tok}{tk:Nat}(I:Inv X pins σ H s)(h1: -(2^62)≤lo)(h2:lo<2^62)(h3: -(2^62)≤hi)(h4:hi<2^62)
 (q:R (xa lo (hi-lo).toNat) H):wpAny (model X.prog X.w) X.A (pyIter (.ref s.heap.objs.size)) (G0 X pins σ tg R) E {s with heap:=s.heap.push {cls:= .type "range",data:= .fields #[.int lo t,.int hi u,.int 1 v]},toks:=tk}:=by
 refine wpAny_pyIter_range (IsRange.new ..) (small_one h1 h2 h3 h4) ?_
 have I1:Inv X pins σ H {s with heap:=s.heap.push {cls:= .type "range",data:= .fields #[.int lo t,.int hi u,.int 1 v]},toks:=tk}:=I.kept fun b o e=>Heap.get?_push_of_some _ e
 refine⟨(s.heap.push {cls:= .type "range",data:= .fields #[.int lo t,.int hi u,.int 1 v]}).objs.size,[(s.heap.push {cls:= .type "range",data:= .fields #[.int lo t,.int hi u,.int 1 v]}).objs.size],_,_,H,rfl,
  I1.kept (t':=tk) fun b o e=>Heap.get?_push_of_some _ e,CH _ lo (hi-lo).toNat,?_,fun b hb=>?_,q⟩
 · have e1:lo+((0:Nat):Int)*1=lo:=by simp
   have e2:(((hi-lo).toNat:Nat):Int)-((0:Nat):Int)=Builtin.Range.rangeSize lo hi 1:=by rw[rangeSize_one];split<;>omega
   show IsRangeIter _ _ (lo+((0:Nat):Int)*1) ((((hi-lo).toNat:Nat):Int)-((0:Nat):Int)) 1
   rw[e1,e2]
   exact Heap.get?_push_size _ rfl
 · have e:b=(s.heap.push {cls:= .type "range",data:= .fields #[.int lo t,.int hi u,.int 1 v]}).objs.size:=by simpa using hb
   subst e
   exact I1.wg (Nat.le_refl _) (I1.aI.fresh (Nat.le_refl _))
noncomputable def Cr(ta:TA):TI:=fun σ H R=>ta σ H fun vs H1=>∃j:Int,vs=[.int j]∧ -(2^62)≤j∧j<2^62∧R (xa 0 j.toNat) H1
noncomputable def Cm(ta:TA):TI:=fun σ H R=>ta σ H fun vs H1=>∃i j:Int,vs=[.int i,.int j]∧(-(2^62)≤i∧i<2^62∧ -(2^62)≤j∧j<2^62)∧R (xa i (j-i).toNat) H1
theorem EM{a:Expr}{ta:TA}{p pos:Pos}(hg:Gl X "range")(hm:X.mg "range"=none)(ha:PA X [a] ta)(hs:starEach [a] X.env=[(false,eval a X.env)]:=by rfl):PI X tg (.Call (.Name "range" p) [a] [] pos) (Cr ta):=by
 intro pins s σ H R I h
 refine Call_ (l8 I hg hm boot_range (PyProof.Rows.callWith_type1 (bZ (ha pos pins s σ H _ I h) fun us s1 ⟨vs,H1,I1,r1,q1⟩=>?_) hs rfl))
 obtain⟨j,e,q1,q2,q⟩:=q1
 subst e
 cases r1 with
 |cons r rr=>
  cases rr
  obtain⟨t,rfl⟩:=r
  exact call_range_1 (y9 I1 (by omega) (by omega) q1 q2 (by simpa using q))
theorem DJ{a b:Expr}{ta:TA}{p pos:Pos}(hg:Gl X "range")(hm:X.mg "range"=none)(ha:PA X [a,b] ta)(hs:starEach [a,b] X.env=[(false,eval a X.env),(false,eval b X.env)]:=by rfl)(hs2:starEach [b] X.env=[(false,eval b X.env)]:=by rfl):
 PI X tg (.Call (.Name "range" p) [a,b] [] pos) (Cm ta):=by
 intro pins s σ H R I h
 refine Call_ (l8 I hg hm boot_range (PyProof.Rows.callWith_type1 (bZ (ha pos pins s σ H _ I h) fun us s1 ⟨vs,H1,I1,r1,q1⟩=>?_) (by rw[hs,hs2]) (by rw[hs2];rfl)))
 obtain⟨i,j,e,⟨q1,q2,q3,q4⟩,q⟩:=q1
 subst e
 cases r1 with
 |cons r rr=>
  cases rr with
  |cons r' rr=>
   cases rr
   obtain⟨t,rfl⟩:=r
   obtain⟨t',rfl⟩:=r'
   exact call_range_2 (y9 I1 q1 q2 q3 q4 q)
noncomputable def JL(wi:TI)(g:TG)(tb:TS):TS:=fun D σ H=>wi σ H fun J H1=>∃W:Nat→Nat→St→Hp→Prop,(∃m,W 0 m σ H1)∧∀i m σ H,W i m σ H→
 (J.stop i H∧D.nx σ H)∨(J.go i H∧∃N:St→Hp→Prop,(∀σ' H',N σ' H'→∃m',m'<m∧W (i+1) m' σ' H')∧∀x H',J.pE i H x H'→g x σ H' fun σ2 H2=>tb {D with nx:=N,ct:=N,bk:=D.nx} σ2 H2)
noncomputable def rW(fp:List Addr)(h:Heap):List (Addr×Obj):=fp.filterMap fun b=>(h.get? b).map fun o=>(b,o)
theorem m4{fp:List Addr}{h:Heap}{b:Addr}{o:Obj}(hb:b∈fp)(e:h.get? b=some o):(b,o)∈rW fp h:=List.mem_filterMap.mpr ⟨b,hb,by rw[e];rfl⟩
theorem DY{fp:List Addr}{h:Heap}{p:Addr×Obj}(hp:p∈rW fp h):p.1∈fp∧h.get? p.1=some p.2:=by
 obtain⟨b,hb,e⟩:=List.mem_filterMap.mp hp
 cases q:h.get? b with
 |none=>rw[q]at e;cases e
 |some o=>
  rw[q]at e
  have e':(b,o)=p:=Option.some.inj e
  subst e'
  exact⟨hb,q⟩
theorem Inv.pinned{pins:List (Addr×Obj)}{σ:St}{H:Hp}{s:Shared}{fp:List Addr}(I:Inv X pins σ H s)(hf:∀b∈fp,kW X pins H b)(ho:∀b∈fp,∃o,s.heap.get? b=some o∧∀v,o.data≠ .cell v):Inv X (pins++rW fp s.heap) σ H s:=
 I.sD fun p hp=>(List.mem_append.mp hp).elim (fun z=>I.pin p (List.mem_append_right _ z)) fun z=>by
  obtain⟨hb,e⟩:=DY z
  obtain⟨f0,f1,f2,_⟩:=hf p.1 hb
  obtain⟨o,e',d⟩:=ho p.1 hb
  rw[e]at e';cases e'
  exact⟨e,f0,f1,f2,d⟩
theorem Inv.hO{pins pl:List (Addr×Obj)}{σ:St}{H:Hp}{s:Shared}(I:Inv X (pins++pl) σ H s):Inv X pins σ H s:=I.sD fun p hp=>I.pin p (List.mem_append_right _ (List.mem_append_left _ hp))
theorem LP{iter:Expr}{body:List Stmt}{wi:TI}{g:TG}{tb:TS}{pos:Pos}(hp:PassesOwn (model X.prog X.w) X.A X.env X.xe)(hc:X.calm=true)(hi:PI X tg iter wi)(hg:PG X tg g)(hb:gT X body tb)
 (hs:∀x,foldedSetIterable iter X.env x=pure x:=by intro _;rfl):PS X (.For tg iter body [] pos) (JL wi g tb):=by
 intro pins s σ H D I h
 refine wpAny_For (bZ (hi pins s σ H _ I h) fun v s1 h1=>bZ h1 fun itv s2 h2=>?_) hs
 obtain⟨it,fp,tn,J,H2,e,I2,T,st2,f2,W,⟨m0,w0⟩,turn⟩:=h2
 subst e
 have stat:∀ {H':Hp},(∀b∈fp,H' b=none)→∀b∈fp,kW X pins H' b:=fun hn b hb=>⟨hn b hb,(f2 b hb).2⟩
 refine codeAny_forLoop_any (fun n s'=>∃i σ' H',Inv X pins σ' H' s'∧tn i s'.heap∧(∀b∈fp,H' b=none)∧W i n σ' H') ?_ m0 ⟨0,σ,H2,I2,st2,fun b hb=>(f2 b hb).1,w0⟩
 rintro n s3 ⟨i,σ3,H3,I3,st3,fr3,w3⟩
 rcases turn i n σ3 H3 w3 with⟨stop,qn⟩|⟨go,N,hN,step⟩
 · refine wpAny_passesOwn hp (bZ (T.done X rfl rfl rfl hc i pins s3 σ3 H3 X.xe I3 (stat fr3) st3 stop) fun r s4 ⟨hr,I4⟩=>?_)
   subst hr
   exact wpAny_execs_nil ⟨σ3,H3,I4,qn⟩
 · refine wpAny_passesOwn hp (bZ (T.item X rfl rfl rfl hc i pins s3 σ3 H3 X.xe I3 (stat fr3) st3 go) fun r s4 ⟨u,hr,h4⟩=>?_)
   subst hr
   refine wpAny_passesOwn hp (bZ h4 fun _ s5 ⟨x,H5,I5,r5,y5,st5,fr5⟩=>?_)
   have I5':=I5.pinned (stat fr5) (T.obj _ _ st5)
   refine wpAny_passesOwn hp (bZ (hg _ s5 σ3 H5 x u _ I5' r5 (step x H5 y5)) fun _ s6 ⟨σ6,H6,I6,q6⟩=>?_)
   refine wpAny_passesOwn hp (bZ (hb _ s6 σ6 H6 _ I6 q6) fun f s7 q7=>?_)
   have again:∀ {σ7:St} {H7:Hp},Inv X (pins++rW fp s5.heap) σ7 H7 s7→N σ7 H7→∃m,m<n∧∃i σ' H',Inv X pins σ' H' s7∧tn i s7.heap∧(∀b∈fp,H' b=none)∧W i m σ' H':=fun{σ7 H7} I7 n7=>by
    obtain⟨m',hm,w7⟩:=hN σ7 H7 n7
    refine⟨m',hm,i+1,σ7,H7,I7.hO,T.keep _ _ _ st5 fun b hb o e=>(I7.pin (b,o) (List.mem_append_right _ (List.mem_append_right _ (m4 hb e)))).1,fun b hb=>?_,w7⟩
    obtain⟨o,e,d⟩:=T.obj _ _ st5 b hb
    exact(I7.pin (b,o) (List.mem_append_right _ (List.mem_append_right _ (m4 hb e)))).2.1
   cases f with
   |next=>obtain⟨σ7,H7,I7,n7⟩:=q7;exact again I7 n7
   |cont=>obtain⟨σ7,H7,I7,n7⟩:=q7;exact again I7 n7
   |brk=>obtain⟨σ7,H7,I7,q7⟩:=q7;exact⟨σ7,H7,I7.hO,q7⟩
   |ret v=>obtain⟨x7,σ7,H7,I7,r7,q7⟩:=q7;exact⟨x7,σ7,H7,I7.hO,r7,q7⟩
end
theorem iR{lo:Int}{n:Nat}{g:TG}{tb:TS}{D:Ends}{σ:St}{H:Hp}(Pv:Nat→St→Hp→Prop)(h0:Pv 0 σ H)
 (hs:∀i σ H,i<n→Pv i σ H→g (.int (lo+i)) σ H fun σ2 H2=>tb {D with nx:=Pv (i+1),ct:=Pv (i+1),bk:=D.nx} σ2 H2) (hd:∀σ H,Pv n σ H→D.nx σ H):
 ∃W:Nat→Nat→St→Hp→Prop,(∃m,W 0 m σ H)∧∀i m σ H,W i m σ H→
  ((xa lo n).stop i H∧D.nx σ H)∨((xa lo n).go i H∧∃N:St→Hp→Prop,(∀σ' H',N σ' H'→∃m',m'<m∧W (i+1) m' σ' H')∧∀x H',(xa lo n).pE i H x H'→g x σ H' fun σ2 H2=>tb {D with nx:=N,ct:=N,bk:=D.nx} σ2 H2):=by
 refine⟨fun i m σ H=>m=n-i∧i≤n∧Pv i σ H,⟨n,by simp,Nat.zero_le _,h0⟩,?_⟩
 rintro i m σ H ⟨rfl,hi,p⟩
 by_cases hlt:i<n
 · refine .inr ⟨hlt,Pv (i+1),fun σ' H' p'=>⟨n-(i+1),by omega,rfl,hlt,p'⟩,fun x H' y=>?_⟩
   obtain⟨e,y⟩:=y
   subst e y
   exact hs i σ _ hlt p
 · have e:i=n:=by omega
   subst e
   exact .inl ⟨Nat.le_refl _,hd σ H p⟩
end L2
namespace L2
open PySem PySem.Spec PyProof.Rows
noncomputable abbrev R2:=V→V→Hp→VK→Prop
noncomputable def bR(X:Cx)(f:Value→Value→Sem Value)(r:R2):Prop:=
 ∀(pins:List (Addr×Obj)) (s:Shared) (σ:St) (H:Hp) (x y:V) (v u:Value) (Q:VK),Inv X pins σ H s→RelV x v→RelV y u→r x y H Q→
  wpAny (model X.prog X.w) X.A (f v u) (EP X pins σ Q) X.xe s
noncomputable def Bz(X:Cx)(f:Value→Sem Value)(r:V→Hp→VK→Prop):Prop:=
 ∀(pins:List (Addr×Obj)) (s:Shared) (σ:St) (H:Hp) (x:V) (v:Value) (Q:VK),Inv X pins σ H s→RelV x v→r x H Q→
  wpAny (model X.prog X.w) X.A (f v) (EP X pins σ Q) X.xe s
noncomputable def cp(X:Cx)(f:Value)(r:List V→Hp→VK→Prop):Prop:=
 ∀(pins:List (Addr×Obj)) (s:Shared) (σ:St) (H:Hp) (xs:List V) (us:List Value) (Q:VK),Inv X pins σ H s→Vals xs us→r xs H Q→
  wpAny (model X.prog X.w) X.A (call f us) (EP X pins σ Q) X.xe s
noncomputable def Eg(r:R2)(ta tb:TE):TE:=fun σ H Q=>ta σ H fun x H1=>tb σ H1 fun y H2=>r x y H2 Q
noncomputable def NG(r:V→Hp→VK→Prop)(ta:TE):TE:=fun σ H Q=>ta σ H fun x H1=>r x H1 Q
noncomputable def rI(C:Int→Int→Prop)(g:Int→Int→V):R2:=fun x y H Q=>∃i j,x= .int i∧y= .int j∧C i j∧Q (g i j) H
noncomputable def uZ(g:Int→Int→V):R2:=fun x y H Q=>∃i j,x= .int i∧y= .int j∧Q (g i j) H
noncomputable def rU(g:Int→V):V→Hp→VK→Prop:=fun x H Q=>∃i,x= .int i∧Q (g i) H
section
variable {X:Cx}{a b c:Expr}{ta tb tc:TE}{pos:Pos}
theorem Fh(ha:PE X a ta)(hb:PE X b tb){pins:List (Addr×Obj)}{s:Shared}{σ:St}{H:Hp}{R:V→V→Hp→Prop}(I:Inv X pins σ H s)
 (h:ta σ H fun x H1=>tb σ H1 fun y H2=>R x y H2) {Q:Value→Shared→Prop} {f:Value→Value→Sem Value}
 (hf:∀v u s2 x y H2,Inv X pins σ H2 s2→RelV x v→RelV y u→R x y H2→wpAny (model X.prog X.w) X.A (f v u) Q X.xe s2):
 wpAny (model X.prog X.w) X.A (eval a X.env) (fun v s₁=>wpAny (model X.prog X.w) X.A (eval b X.env) (fun u s₂=>wpAny (model X.prog X.w) X.A (f v u) Q X.xe s₂) X.xe s₁) X.xe s:=by
 refine bZ (ha pins s σ H _ I h) fun v s1 ⟨x,H1,I1,r1,q1⟩=>?_
 refine bZ (hb pins s1 σ H1 _ I1 q1) fun u s2 ⟨y,H2,I2,r2,q2⟩=>?_
 exact hf v u s2 x y H2 I2 r1 r2 q2
theorem MV{op:Operator}{r:R2}(ho:bR X (binaryOp op) r)(ha:PE X a ta)(hb:PE X b tb):PE X (.BinOp a op b pos) (Eg r ta tb):=by
 intro pins s σ H Q I h
 exact wpAny_BinOp (Fh ha hb I h fun v u s2 x y H2 I2 rx ry q=>ho pins s2 σ H2 x y v u Q I2 rx ry q)
theorem LX{op:UnaryOp}{r:V→Hp→VK→Prop}(ho:Bz X (unaryOp op) r)(ha:PE X a ta):PE X (.UnaryOp op a pos) (NG r ta):=by
 intro pins s σ H Q I h
 exact UnaryOp_ (bZ (ha pins s σ H _ I h) fun v s1 ⟨x,H1,I1,r1,q1⟩=>ho pins s1 σ H1 x v Q I1 r1 q1)
theorem Gr{f:Value→Value→Sem Value}{C:Int→Int→Prop}{g:Int→Int→Int}
 (rule:∀(i j:Int) (t u:Tok) (s:Shared) (Q:Value→Shared→Prop) (E:Value→Shared→Prop),C i j→Q (.int (g i j) s.toks) {s with toks:=s.toks+1}→wpAny (model X.prog X.w) X.A (f (.int i t) (.int j u)) Q E s):
 bR X f (rI C fun i j=> .int (g i j)):=by
 intro pins s σ H x y v u Q I rx ry h
 obtain⟨i,j,rfl,rfl,hc,q⟩:=h
 obtain⟨t,rfl⟩:=rx
 obtain⟨t',rfl⟩:=ry
 exact rule i j t t' s _ _ hc ⟨.int (g i j),H,I.tok _,⟨_,rfl⟩,q⟩
theorem Lq{f:Value→Value→Sem Value}{g:Int→Int→Int}
 (rule:∀(i j:Int) (t u:Tok) (s:Shared) (Q:Value→Shared→Prop) (E:Value→Shared→Prop),Q (.int (g i j) s.toks) {s with toks:=s.toks+1}→wpAny (model X.prog X.w) X.A (f (.int i t) (.int j u)) Q E s):
 bR X f (uZ fun i j=> .int (g i j)):=by
 intro pins s σ H x y v u Q I rx ry h
 obtain⟨i,j,rfl,rfl,q⟩:=h
 obtain⟨t,rfl⟩:=rx
 obtain⟨t',rfl⟩:=ry
 exact rule i j t t' s _ _ ⟨.int (g i j),H,I.tok _,⟨_,rfl⟩,q⟩
theorem Cg{f:Value→Value→Sem Value}{g:Int→Int→Bool}
 (rule:∀(i j:Int) (t u:Tok) (s:Shared) (Q:Value→Shared→Prop) (E:Value→Shared→Prop),Q (.bool (g i j)) s→wpAny (model X.prog X.w) X.A (f (.int i t) (.int j u)) Q E s):
 bR X f (uZ fun i j=> .bl (g i j)):=by
 intro pins s σ H x y v u Q I rx ry h
 obtain⟨i,j,rfl,rfl,q⟩:=h
 obtain⟨t,rfl⟩:=rx
 obtain⟨t',rfl⟩:=ry
 exact rule i j t t' s _ _ ⟨.bl (g i j),H,I,rfl,q⟩
noncomputable def E_(i j:Int):Prop:=0≤j∧j≤1000000∧i.natAbs<2^64
theorem Kf:bR X (binaryOp .Add) (uZ fun i j=> .int (i+j)):=Lq fun _ _ _ _ _ _ _ q=>add_int q
theorem KJ:bR X (binaryOp .Sub) (uZ fun i j=> .int (i-j)):=Lq fun _ _ _ _ _ _ _ q=>sub_int q
theorem Hr:bR X (binaryOp .Mod) (rI (fun _ j=>j≠0) fun i j=> .int (i.fmod j)):=Gr fun _ _ _ _ _ _ _ hc q=>mod_int' hc q
theorem J6:bR X (binaryOp .Pow) (rI E_ fun i j=> .int (i^j.toNat)):=Gr fun _ _ _ _ _ _ _ hc q=>pow_int_small hc.1 hc.2.1 hc.2.2 q
theorem OV{f:Value→Sem Value}{g:Int→Int}
 (rule:∀(i:Int) (t:Tok) (s:Shared) (Q:Value→Shared→Prop) (E:Value→Shared→Prop),Q (.int (g i) s.toks) {s with toks:=s.toks+1}→wpAny (model X.prog X.w) X.A (f (.int i t)) Q E s):
 Bz X f (rU fun i=> .int (g i)):=by
 intro pins s σ H x v Q I rx h
 obtain⟨i,rfl,q⟩:=h
 obtain⟨t,rfl⟩:=rx
 exact rule i t s _ _ ⟨.int (g i),H,I.tok _,⟨_,rfl⟩,q⟩
theorem K7:Bz X (unaryOp .USub) (rU fun i=> .int (-i)):=OV fun _ _ _ _ _ q=>neg_int q
end
noncomputable def OI:V→V→Bool
 | .aA,.aA=>true| .aA,.int _=>true| .int _,.aA=>true| .aA,.bl _=>true| .bl _,.aA=>true| .aA,.str _=>true| .str _,.aA=>true
 | .int _,.int _=>true| .bl _,.bl _=>true| .str _,.str _=>true| .tP _,.tP _=>true
 | .int _,.str _=>true| .str _,.int _=>true| .bl _,.str _=>true| .str _,.bl _=>true
 |_,_=>false
noncomputable def O3:R2:=fun x y H Q=>OI x y=true∧Q (.bl (!decide (x=y))) H
theorem HP{i j:Int}:decide (V.int i=V.int j)=(i==j):=by
 rw[Bool.eq_iff_iff]
 simp
theorem JH{i j:Bool}:decide (V.bl i=V.bl j)=(i==j):=by
 rw[Bool.eq_iff_iff]
 simp
theorem Ja{i j:Str}:decide (V.str i=V.str j)=(i==j):=by
 rw[Bool.eq_iff_iff]
 simp
theorem HX{i j:Array UInt8}:decide (V.tP i=V.tP j)=(i.toList==j.toList):=by
 rw[Bool.eq_iff_iff]
 cases i
 cases j
 simp
section
variable {X:Cx}{a b c:Expr}{ta tb tc:TE}{pos:Pos}
theorem eY{pins:List (Addr×Obj)}{σ:St}{H:Hp}{s:Shared}{Q:VK}{k k':Bool}(I:Inv X pins σ H s)(q:Q (.bl k) H)(e:k=k'):EP X pins σ Q (.bool k') s:=by
 subst e
 exact⟨.bl k,H,I,rfl,q⟩
theorem Mq:bR X (compareOp .NotEq) O3:=by
 intro pins s σ H x y v u Q I rx ry h
 obtain⟨hs,q⟩:=h
 cases x with
 |aA=>
  cases rx
  cases y with
  |aA=>cases ry;exact PySem.EqNone.ne_none_none (eY I q (by simp))
  |bl j=>cases ry;exact PySem.EqNone.ne_none_bool (eY I q (by simp))
  |int j=>obtain⟨t',rfl⟩:=ry;exact PySem.EqNone.ne_none_int (eY I q (by simp))
  |str j=>obtain⟨t',rfl⟩:=ry;exact PySem.EqNone.ne_none_str (eY I q (by simp))
  |_=>exact absurd (show false=true from hs) Bool.false_ne_true
 |bl i=>
  cases rx
  cases y with
  |aA=>cases ry;exact PySem.EqNone.ne_bool_none (eY I q (by simp))
  |bl j=>cases ry;exact ne_bool (eY I q (congrArg not JH))
  |str j=>obtain⟨t',rfl⟩:=ry;exact PySem.EqMixed.ne_bool_str (eY I q (by simp))
  |_=>exact absurd (show false=true from hs) Bool.false_ne_true
 |int i=>
  obtain⟨t,rfl⟩:=rx
  cases y with
  |aA=>cases ry;exact PySem.EqNone.ne_int_none (eY I q (by simp))
  |int j=>obtain⟨t',rfl⟩:=ry;exact ne_int (eY I q (congrArg not HP))
  |str j=>obtain⟨t',rfl⟩:=ry;exact PySem.EqMixed.ne_int_str (eY I q (by simp))
  |_=>exact absurd (show false=true from hs) Bool.false_ne_true
 |str i=>
  obtain⟨t,rfl⟩:=rx
  cases y with
  |aA=>cases ry;exact PySem.EqNone.ne_str_none (eY I q (by simp))
  |bl j=>cases ry;exact PySem.EqMixed.ne_str_bool (eY I q (by simp))
  |int j=>obtain⟨t',rfl⟩:=ry;exact PySem.EqMixed.ne_str_int (eY I q (by simp))
  |str j=>obtain⟨t',rfl⟩:=ry;exact ne_str (eY I q (congrArg not Ja))
  |_=>exact absurd (show false=true from hs) Bool.false_ne_true
 |tP i=>
  obtain⟨t,rfl⟩:=rx
  cases y with
  |tP j=>obtain⟨t',rfl⟩:=ry;exact PySem.W.ne_bytes (eY I q (congrArg not HX))
  |_=>exact absurd (show false=true from hs) Bool.false_ne_true
 |_=>cases y<;>exact absurd (show false=true from hs) Bool.false_ne_true
theorem L7:bR X (compareOp .Lt) (uZ fun i j=> .bl (decide (i<j))):=Cg fun _ _ _ _ _ _ _ q=>lt_int q
theorem L5:bR X (compareOp .LtE) (uZ fun i j=> .bl (decide (i≤j))):=Cg fun _ _ _ _ _ _ _ q=>le_int q
theorem Np:bR X (compareOp .Gt) (uZ fun i j=> .bl (decide (j<i))):=Cg fun _ _ _ _ _ _ _ q=>gt_int q
theorem Mr:bR X (compareOp .GtE) (uZ fun i j=> .bl (decide (j≤i))):=Cg fun _ _ _ _ _ _ _ q=>ge_int q
theorem Jz:bR X (compareOp .Is) (fun x y H Q=>y= .aA∧Q (.bl (decide (x= .aA))) H):=by
 intro pins s σ H x y v u Q I rx ry h
 obtain⟨rfl,q⟩:=h
 cases ry
 refine is_none_gen (eY I q ?_)
 cases x<;>first
  |(cases rx;rfl)
  |(obtain⟨t,rfl⟩:=rx;rfl)
theorem Ig:bR X (compareOp .IsNot) (fun x y H Q=>y= .aA∧Q (.bl (!decide (x= .aA))) H):=by
 intro pins s σ H x y v u Q I rx ry h
 obtain⟨rfl,q⟩:=h
 cases ry
 refine isnot_none_gen (eY I q ?_)
 cases x<;>first
  |(cases rx;rfl)
  |(obtain⟨t,rfl⟩:=rx;rfl)
theorem aU(b:Expr){op:CmpOp}(h:op≠ .In:=by decide)(h2:op≠ .NotIn:=by decide):behindInMarks op b=false:=by
 have e1:(op==CmpOp.In)=false:=by cases op<;>first|rfl|exact absurd rfl h
 have e2:(op==CmpOp.NotIn)=false:=by cases op<;>first|rfl|exact absurd rfl h2
 cases b<;>simp[behindInMarks,e1,e2]
theorem Hw{op:CmpOp}{r:R2}(ho:bR X (compareOp op) r)(ha:PE X a ta)(hb:PE X b tb)(hm:behindInMarks op b=false):PE X (.Compare a [op] [b] pos) (Eg r ta tb):=by
 intro pins s σ H Q I h
 exact wpAny_Compare1 (Fh ha hb I h fun v u s2 x y H2 I2 rx ry q=>ho pins s2 σ H2 x y v u Q I2 rx ry q) hm
noncomputable def Me(t:TE):TT:=fun σ H Q=>t σ H fun x H'=>∃k,x= .bl k∧Q k H'
theorem H_{op:CmpOp}{r:R2}(ho:bR X (compareOp op) r)(ha:PE X a ta)(hb:PE X b tb)(hm:behindInMarks op b=false):PT X (.Compare a [op] [b] pos) (Me (Eg r ta tb)):=by
 intro pins s σ H Q I h
 refine wpAny_isTrue_Compare1 (bZ (ha pins s σ H _ I h) fun v s1 ⟨x,H1,I1,r1,q1⟩=>bZ (hb pins s1 σ H1 _ I1 q1) fun u s2 ⟨y,H2,I2,r2,q2⟩=>
  bZ (ho pins s2 σ H2 x y v u _ I2 r1 r2 q2) fun c s3 ⟨z,H3,I3,r3,k,e,q3⟩=>?_) hm
 subst e
 cases r3
 exact wpAny_truthy_bool ⟨H3,I3,q3⟩
noncomputable def Dt(r r':R2)(ta tb tc:TE):TE:=fun σ H Q=>ta σ H fun x H1=>tb σ H1 fun y H2=>r x y H2 fun z H3=>∃k,z= .bl k∧
 (if k=true then tc σ H3 fun w' H4=>r' y w' H4 Q else Q (.bl false) H3)
theorem FV{op op':CmpOp}{r r':R2}(ho:bR X (compareOp op) r)(ho':bR X (compareOp op') r')(ha:PE X a ta)(hb:PE X b tb)(hc:PE X c tc)
 (hm:lastMarks [op,op'] [b,c]=false:=by with_unfolding_all rfl):PE X (.Compare a [op,op'] [b,c] pos) (Dt r r' ta tb tc):=by
 intro pins s σ H Q I h
 refine Compare_chain (bZ (ha pins s σ H _ I h) fun v s1 ⟨x,H1,I1,r1,q1⟩=>chain_link (bZ (hb pins s1 σ H1 _ I1 q1) fun u s2 ⟨y,H2,I2,r2,q2⟩=>
  bZ (ho pins s2 σ H2 x y v u _ I2 r1 r2 q2) fun d s3 ⟨z,H3,I3,r3,k,e,q3⟩=>?_)) hm
 subst e
 cases r3
 refine wpAny_truthy_bool ?_
 cases k with
 |false=>exact ite_ff ⟨.bl false,H3,I3,rfl,q3⟩
 |true=>exact ite_tt (chain_last (bZ (hc pins s3 σ H3 _ I3 q3) fun w' s4 ⟨z',H4,I4,r4,q4⟩=>ho' pins s4 σ H4 y z' u w' Q I4 r2 r4 q4))
theorem rL:(sizeLine:Nat)<2^63:=by rw[sizeLine_eq];decide
theorem Dd:bR X (binaryOp .Add) (fun x y H Q=>∃i j,x= .str i∧y= .str j∧i.length+j.length≤sizeLine∧Q (.str (i++j)) H):=by
 intro pins s σ H x y v u Q I rx ry h
 obtain⟨i,j,rfl,rfl,hz,q⟩:=h
 obtain⟨t,rfl⟩:=rx
 obtain⟨t',rfl⟩:=ry
 exact add_str (fun t' tk=>⟨.str (i++j),H,I.tok _,⟨_,rfl⟩,q⟩) hz
theorem vals1{x:V}{us:List Value}(r:Vals [x] us):∃u,us=[u]∧RelV x u:=by
 cases r with
 |cons r1 r2=>cases r2;exact⟨_,rfl,r1⟩
theorem vals2{x y:V}{us:List Value}(r:Vals [x,y] us):∃u w',us=[u,w']∧RelV x u∧RelV y w':=by
 cases r with
 |cons r1 r2=>
  cases r2 with
  |cons r3 r4=>cases r4;exact⟨_,_,rfl,r1,r3⟩
theorem Fo:cp X (.builtin "abs") (fun xs H Q=>∃i,xs=[.int i]∧Q (.int (if i<0 then-i else i)) H):=by
 intro pins s σ H xs us Q I r h
 obtain⟨i,rfl,q⟩:=h
 obtain⟨u,rfl,t,rfl⟩:=vals1 r
 exact call_abs_int fun u tk=>⟨.int (if i<0 then-i else i),H,I.tok _,⟨_,rfl⟩,q⟩
theorem Dv(hc:X.calm=true):cp X (.builtin "max") (fun xs H Q=>∃i j,xs=[.int i,.int j]∧Q (.int (if j>i then j else i)) H):=by
 intro pins s σ H xs us Q I r h
 obtain⟨i,j,rfl,q⟩:=h
 obtain⟨u,w',rfl,⟨t,rfl⟩,⟨t',rfl⟩⟩:=vals2 r
 refine max_two_ints (I.ok.hd hc) fun h' tk k=>⟨_,H,I.kept k,?_,q⟩
 by_cases hj:j>i
 · rw[if_pos hj,if_pos hj];exact⟨_,rfl⟩
 · rw[if_neg hj,if_neg hj];exact⟨_,rfl⟩
theorem D7:cp X (.type "int") (fun xs H Q=>(∃i,xs=[.int i]∧Q (.int i) H)∨∃k,xs=[.bl k]∧Q (.int (if k then 1 else 0)) H):=by
 intro pins s σ H xs us Q I r h
 rcases h with⟨i,rfl,q⟩|⟨k,rfl,q⟩
 · obtain⟨u,rfl,t,rfl⟩:=vals1 r
   exact call_int_int ⟨.int i,H,I,⟨_,rfl⟩,q⟩
 · obtain⟨u,rfl,r1⟩:=vals1 r
   cases r1
   exact call_int_bool ⟨.int (if k then 1 else 0),H,I.tok _,⟨_,rfl⟩,q⟩
end
end L2
namespace L2
open PySem PySem.Spec PyProof.Rows
structure uJ(h:Heap)(x dx C:Addr)(mA:Str→Option Value):Prop where
 obj:h.get? x=some (PySem.W.instObj C dx)
 ns:h.Ns1 dx mA
 ne:dx≠x
theorem E3{h:Heap}{dx:Addr}{mA:Str→Option Value}(n:h.Ns1 dx mA):∃od,h.get? dx=some od∧∀name,PySem.W.lookIn name od=some (mA name):=by
 obtain⟨o,es,ep,ho,hd,hk,_,hm⟩:=n
 refine⟨o,ho,fun name=>?_⟩
 have e:=hm name
 unfold nsFind findBy at e
 rw[←Array.find?_toList]at e
 unfold PySem.W.lookIn
 rw[hd]
 dsimp only
 split
 · rename_i y q
   rw[q]at e
   exact congrArg some e
 · rename_i q
   rw[q]at e
   have a:es.toList.any (·.refKey)=false:=by
    rw[List.any_eq_false]
    intro y hy
    obtain⟨z,t,hkey⟩:=hk y (Array.mem_toList_iff.mp hy)
    simp[DictEntry.refKey,hkey]
   have a':¬es.toList.any (·.refKey)=true:=by rw[a];exact Bool.false_ne_true
   rw[if_neg a']
   exact congrArg some e
theorem uJ.look{h:Heap}{x dx C:Addr}{mA:Str→Option Value}(I:uJ h x dx C mA):∃od,PySem.W.InstAt h x (PySem.W.instObj C dx) C (some od)∧∀name,PySem.W.lookIn name od=some (mA name):=
 let⟨od,ho,hl⟩:=E3 I.ns
 ⟨od,⟨I.obj,rfl,rfl,ho⟩,hl⟩
section
variable {prog:Program}{w:World}{A:Around}{E:Value→Shared→Prop}{s:Shared}{K:PySem.W.Frag}{x dx C f:Addr}{mA:Str→Option Value}{name:Str}{v:Value}
theorem get_map{expr:Bool}{Q:Value→Shared→Prop}(X:K.In s.heap)(I:uJ s.heap x dx C mA)(hg:PySem.W.plainGet K C name=true)(hh:PySem.W.hasDictIn K C=true)
 (ha:PySem.W.findIn K (.ref C) name=some none) (hv:mA name=some v) (hv':PySem.W.handedIn v=true) (h:Q v {s with toks:=s.toks+1}):
 wpAny (model prog w) A (getAttr (.ref x) name expr) Q E s:=by
 obtain⟨od,J,hl⟩:=I.look
 exact PySem.W.get_value X J (PySem.W.plainGet_of hg).1 (PySem.W.findObj_own hh ha rfl (by rw[hl,hv])) hv' h
theorem FL{pl:Sem Bool}{Q:Value×List Value→Shared→Prop}(X:K.In s.heap)(I:uJ s.heap x dx C mA)(hg:PySem.W.plainGet K C name=true)
 (hf:PySem.W.findIn K (.ref C) name=some (some (.ref f))) (ht:PySem.W.isFn K (.ref f)=true) (hv:mA name=none) (h:Q (.ref f,[.ref x]) s):
 wpAny (model prog w) A (getMethod (.ref x) name pl) Q E s:=by
 obtain⟨od,J,hl⟩:=I.look
 exact PySem.W.method_fn X J (PySem.W.plainGet_of hg).1 (PySem.W.plainGet_of hg).2 hf (beq_iff_eq.mp ht) (by show(PySem.W.lookIn name od).map (·.isSome)=some false;rw[hl,hv];rfl) h
theorem ib{ns:List Str}{Q:Unit→Shared→Prop}(X:K.In s.heap)(I:uJ s.heap x dx C mA)
 (hs:PySem.W.findIn K (.ref C) "__setattr__"=some (some (.builtin "object.__setattr__"))) (hp:PySem.W.plainOver K C=true) (ht:PySem.W.takerIn K C name=some none) (hh:PySem.W.hasDictIn K C=true)
 (hw:PySem.Within mA ns) (hsz:ns.length≤sizeLine)
 (h:∀h',uJ h' x dx C (fun y=>if y=name then some v else mA y)→Heap.SameBut dx s.heap h'→Q () {s with heap:=h',toks:=s.toks+2}):
 wpAny (model prog w) A (setAttr (.ref x) name v) Q E s:=by
 obtain⟨od,J,hl⟩:=I.look
 refine PySem.W.set_plain X J hs (PySem.W.osa_open (s:={s with toks:=s.toks+1}) (r:=none) X J hp ht fun b=>?_)
 obtain⟨cd,hc,hd'⟩:=PySem.W.any_some hh
 have hx:s.heap.get? x=some ⟨.ref C,some dx,.plain,#[]⟩:=I.obj
 refine wpAny_bind (wpAny_pure (wpAny_bind (wpAny_bind (wpAny_loadPart hx (wpAny_bind (PySem.W.Looks.here (s:={s with toks:=s.toks+1}) (PySem.W.looks_clsIn X hc) ?_))))))
 rw[hd']
 refine wpAny_pure (a:=some dx) (wpAny_bind (wpAny_pure (wpAny_bind ?_)))
 refine wpAny_nsSet1 (s:={s with toks:=s.toks+1}) I.ns fun h' hn2 hs2=>?_
 obtain⟨oD,esD,epD,hoD,hdD,hcD⟩:=hn2.count (PySem.Within.cons name v hw)
 refine wpAny_bind (wpAny_lookBehind hoD (by rw[hdD];exact pastItsLine_dict (Nat.le_trans hcD (by rw[List.length_cons];omega))) ?_)
 exact wpAny_pure (h _ ⟨(hs2.2 _ (Ne.symm I.ne)).trans I.obj,hn2,I.ne⟩ hs2)
theorem F8{R:Result→Shared→Prop}{vs:List Value}{kw:List (Str×Value)}(X:K.In s.heap)(hm:PySem.W.makesIn K C=true)
 (hi:PySem.W.findIn K (.ref C) "__init__"=some (some (.ref f))) (hf:PySem.W.typeIn K (.ref f)=some (.type "function"))
 (h:codeAny (model prog w) (A.under (.builtin "type.__call__" ⟨.ref C::vs,kw⟩)) (.call (.ref f) ⟨.ref (s.heap.objs.size+1)::vs,kw⟩) (PySem.W.InitBack (s.heap.objs.size+1) R)
   {s with heap:=(s.heap.push PySem.W.emptyDict).push (PySem.W.instObj C s.heap.objs.size)}):
 codeAny (model prog w) A (.call (.ref C) ⟨vs,kw⟩) R s:=by
 obtain⟨hh,g,d,t,os⟩:=s
 exact PySem.W.make_core (PySem.W.makes_of X hm) (PySem.W.looks_findIn X hi) (fun self=>PySem.W.bind_fn X self hf) (.inl rfl) h
end
noncomputable def gL(f:Str)(v:V):List (Str×V)→List (Str×V)
 | []=>[(f,v)]
 |(g,x)::r=>if g=f then(g,v)::r else(g,x)::gL f v r
theorem tO(f g:Str)(v:V):∀fs:List (Str×V),(gL f v fs).lookup g=if g=f then some v else fs.lookup g
 | []=>by
   show List.lookup g [(f,v)]=_
   by_cases h:g=f
   · have hb:(g==f)=true:=beq_iff_eq.mpr h
     simp only[List.lookup,hb,if_pos h]
   · have hb:(g==f)=false:=beq_eq_false_iff_ne.mpr h
     simp only[List.lookup,hb,if_neg h]
 |(k,x)::r=>by
  have ih:=tO f g v r
  rw[show gL f v ((k,x)::r)=(if k=f then(k,v)::r else(k,x)::gL f v r)from rfl]
  by_cases hk:k=f
  · rw[if_pos hk]
    by_cases h:g=k
    · have hb:(g==k)=true:=beq_iff_eq.mpr h
      simp only[List.lookup,hb,if_pos (h.trans hk)]
    · have hb:(g==k)=false:=beq_eq_false_iff_ne.mpr h
      simp only[List.lookup,hb,if_neg (fun e:g=f=>h (e.trans hk.symm))]
  · rw[if_neg hk]
    by_cases h:g=k
    · have hb:(g==k)=true:=beq_iff_eq.mpr h
      simp only[List.lookup,hb,if_neg (fun e:g=f=>hk (h.symm.trans e))]
    · have hb:(g==k)=false:=beq_eq_false_iff_ne.mpr h
      simp only[List.lookup,hb]
      exact ih
theorem rN(f:Str)(v:V):∀fs:List (Str×V),f∈(gL f v fs).map (·.1)∧∀g,g∈fs.map (·.1)→g∈(gL f v fs).map (·.1)
 | []=>⟨by simp[gL],fun g h=>by simp at h⟩
 |(k,x)::r=>by
  obtain⟨i1,i2⟩:=rN f v r
  rw[show gL f v ((k,x)::r)=(if k=f then(k,v)::r else(k,x)::gL f v r)from rfl]
  by_cases hk:k=f
  · rw[if_pos hk]
    subst hk
    exact⟨by simp,fun g h=>by simpa using h⟩
  · rw[if_neg hk]
    refine⟨?_,fun g h=>?_⟩
    · rw[List.map_cons]
      exact List.mem_cons_of_mem _ i1
    · rw[List.map_cons]at h⊢
      rcases List.mem_cons.mp h with e|e
      · exact List.mem_cons.mpr (.inl e)
      · exact List.mem_cons_of_mem _ (i2 g e)
theorem tS(f:Str)(v:V):∀fs:List (Str×V),(gL f v fs).length≤fs.length+1
 | []=>by simp[gL]
 |(k,x)::r=>by
  have ih:=tS f v r
  rw[show gL f v ((k,x)::r)=(if k=f then(k,v)::r else(k,x)::gL f v r)from rfl]
  by_cases hk:k=f
  · rw[if_pos hk,List.length_cons,List.length_cons];omega
  · rw[if_neg hk,List.length_cons,List.length_cons];omega
theorem o8.some_of{v:V}{o:Option Value}(r:o8 (some v) o):∃u,o=some u∧RelV v u:=by
 cases o with
 |none=>exact(show False from r).elim
 |some u=>exact⟨u,rfl,r⟩
theorem o8.none_of{o:Option Value}(r:o8 none o):o=none:=by
 cases o with
 |none=>rfl
 |some u=>exact(show False from r).elim
theorem EL{v:V}{u:Value}(r:RelV v u):PySem.W.handedIn u=true:=by
 cases v with
 |aA=>cases (show u=Value.none from r);rfl
 |bl b=>cases (show u=Value.bool b from r);rfl
 |int i=>obtain⟨t,e⟩:=(show∃t,u=Value.int i t from r);cases e;rfl
 |str x=>obtain⟨t,e⟩:=(show∃t,u=Value.str x t from r);cases e;rfl
 |tP b=>obtain⟨t,e⟩:=(show∃t,u=Value.bytes b t from r);cases e;rfl
 |tJ b=>obtain⟨t,e⟩:=(show∃t,u=Value.float b t from r);cases e;rfl
 |ref a=>cases (show u=Value.ref a from r);rfl
 |ty n=>cases (show u=Value.type n from r);rfl
section
variable {P:Program}{w:World}{H H':Hp}{h h':Heap}{a C dx:Addr}{fs fs':List (Str×V)}
theorem sP(aI:h7 P w H h)(e:H a=some (.ins C dx fs)):∃mA,uJ h a dx C mA∧(∀f,o8 (fs.lookup f) (mA f))∧PySem.Within mA (fs.map (·.1))∧fs.length≤1000∧H dx=some (.own a):=by
 obtain⟨d,z,ne,ob,mA,n,r,q⟩:=(show dj P w H h a (.ins C dx fs)from aI a _ e)
 exact⟨mA,⟨ob,n,ne⟩,r,q,z,d⟩
end
structure nH(K:PySem.W.Frag)(C:Addr):Prop where
 pg:PySem.W.plainGet K C Str.empty=true
 hd:PySem.W.hasDictIn K C=true
 po:PySem.W.plainOver K C=true
 sa:PySem.W.findIn K (.ref C) "__setattr__"=some (some (.builtin "object.__setattr__"))
theorem nH.get{K:PySem.W.Frag}{C:Addr}(c:nH K C)(f:Str):PySem.W.plainGet K C f=true:=c.pg
noncomputable def fT(K:PySem.W.Frag)(C:Addr)(f:Str):Prop:=PySem.W.findIn K (.ref C) f=some none
theorem fT.MD{K:PySem.W.Frag}{C:Addr}{f:Str}(n:fT K C f):PySem.W.takerIn K C f=some none:=by
 unfold PySem.W.takerIn
 rw[show PySem.W.findIn K (.ref C) f=some none from n]
 rfl
structure Meth(K:PySem.W.Frag)(C:Addr)(m:Str)(f:Addr):Prop where
 at_:PySem.W.findIn K (.ref C) m=some (some (.ref f))
 fn:PySem.W.isFn K (.ref f)=true
 kp:PySem.W.keepIn K (.ref f)=true
section
variable {X:Cx}{pins:List (Addr×Obj)}{σ:St}{H:Hp}{s:Shared}{a C dx:Addr}{fs:List (Str×V)}{f:Str}{v:V}{A:Around}{E:Value→Shared→Prop}
theorem C8{b:Bool}{Q:Value→Shared→Prop}(I:Inv X pins σ H s)(e:H a=some (.ins C dx fs))(c:nH X.K C)(n:fT X.K C f)(l:fs.lookup f=some v)
 (h:∀u s',Inv X pins σ H s'→RelV v u→Q u s'):wpAny (model X.prog X.w) A (getAttr (.ref a) f b) Q E s:=by
 obtain⟨mA,O,r,_,_,_⟩:=sP I.aI e
 obtain⟨u,hu,ru⟩:=o8.some_of (v:=v) (o:=mA f) (by rw[←l];exact r f)
 exact get_map I.gY O (c.get f) c.hd n hu (EL ru) (h u _ (I.tok _) ru)
theorem BU{m:Str}{g:Addr}{pl:Sem Bool}{Q:Value×List Value→Shared→Prop}(I:Inv X pins σ H s)(e:H a=some (.ins C dx fs))(c:nH X.K C)(k:Meth X.K C m g)(l:fs.lookup m=none)
 (h:Q (.ref g,[.ref a]) s):wpAny (model X.prog X.w) A (getMethod (.ref a) m pl) Q E s:=by
 obtain⟨mA,O,r,_,_,_⟩:=sP I.aI e
 have hn:mA m=none:=o8.none_of (by rw[←l];exact r m)
 exact FL I.gY O (c.get m) k.at_ k.fn hn h
theorem Cc{y:V}{u:Value}{Q:Unit→Shared→Prop}(I:Inv X pins σ H s)(e:H a=some (.ins C dx fs))(c:nH X.K C)(n:fT X.K C f)(hl:fs.length<1000)(ry:RelV y u)
 (h:∀s',Inv X pins σ (upd H a (.ins C dx (gL f y fs))) s'→Q () s'):wpAny (model X.prog X.w) A (setAttr (.ref a) f u) Q E s:=by
 obtain⟨mA,O,r,wi,_,ho⟩:=sP I.aI e
 have hz:(fs.map (·.1)).length≤sizeLine:=by rw[List.length_map,sizeLine_eq];omega
 refine ib I.gY O c.sa c.po n.MD c.hd wi hz fun h' O' sb=>h _ ?_
 have hd:∃o,h'.get? dx=some o:=let⟨o,_,_,e',_⟩:=O'.ns;⟨o,e'⟩
 refine I.write (x:=a) (e:=dx) (by rw[e];exact True.intro) (.inr ho) (fun b q hb z=>(sb.2 b hb).trans z) hd ?_
 refine⟨by rw[aQ O.ne];exact ho,?_,O.ne,O'.obj,_,O'.ns,fun g=>?_,fun g hg=>?_⟩
 · have:=tS f y fs;omega
 · show o8 ((gL f y fs).lookup g) (if g=f then some u else mA g)
   rw[tO]
   by_cases q:g=f
   · rw[if_pos q,if_pos q];exact ry
   · rw[if_neg q,if_neg q];exact r g
 · by_cases q:g=f
   · rw[q];exact(rN f y fs).1
   · refine(rN f y fs).2 g (wi g fun z=>hg ?_)
     show(if g=f then some u else mA g)=none
     rw[if_neg q];exact z
theorem Inv.made(I:Inv X pins σ H s):Inv X pins σ (upd (upd H s.heap.objs.size (.own (s.heap.objs.size+1))) (s.heap.objs.size+1) (.ins C s.heap.objs.size []))
 {s with heap:=(s.heap.push PySem.W.emptyDict).push (PySem.W.instObj C s.heap.objs.size)}:=by
 have e1:(s.heap.push PySem.W.emptyDict).get? s.heap.objs.size=some PySem.W.emptyDict:=Heap.get?_push_size s.heap rfl
 have e2:((s.heap.push PySem.W.emptyDict).push (PySem.W.instObj C s.heap.objs.size)).get? (s.heap.objs.size+1)=some (PySem.W.instObj C s.heap.objs.size):=by
  have:=Heap.get?_push_size (s.heap.push PySem.W.emptyDict) (o:=PySem.W.instObj C s.heap.objs.size) rfl
  rwa [Heap.size_push]at this
 have e3:(s.heap.push PySem.W.emptyDict).Ns s.heap.objs.size (fun _=>none):=⟨PySem.W.emptyDict,#[],_,e1,rfl,(fun e he=>absurd he (by simp)),fun _=>rfl⟩
 have I1:=I.laid (a:=s.heap.objs.size) (o:= .own (s.heap.objs.size+1)) (h':=s.heap.push PySem.W.emptyDict) (t':=s.toks) (fun b u q=>Heap.get?_push_of_some _ q) (Nat.le_refl _) ⟨_,e1⟩
 refine I1.laid (a:=s.heap.objs.size+1) (o:= .ins C s.heap.objs.size []) (t':=s.toks) (fun b u q=>Heap.get?_push_of_some _ q) (Nat.le_of_eq (Heap.size_push _ _)) ?_
 have ne:s.heap.objs.size≠s.heap.objs.size+1:=Nat.ne_of_lt (Nat.lt_succ_self _)
 refine⟨by rw[aQ ne,a5],Nat.zero_le _,ne,e2,fun _=>none,(Heap.Ns1.of_empty e3).at fun o q=>Heap.get?_push_of_some _ q,fun _=>True.intro,fun y hy=>absurd rfl hy⟩
theorem IW{prog:Program}{w:World}{env:Env}{e:Expr}{f:Str}{pos:Pos}{s:Shared}{Q:Value→Shared→Prop}(hb:attributeBase e f env (eval e env)=eval e env)
 (h:wpAny (model prog w) A (eval e env) (fun o s₁=>wpAny (model prog w) A (getAttr o f true) Q E s₁) E s):wpAny (model prog w) A (eval (.Attribute e f pos) env) Q E s:=
 Attribute_any_ h (by rw[arm_eval_Attribute,hb])
end
noncomputable def OC(K:PySem.W.Frag)(ta:TE)(f:Str):TE:=fun σ H Q=>ta σ H fun x H1=>∃a C dx fs v,x= .ref a∧H1 a=some (.ins C dx fs)∧nH K C∧fT K C f∧fs.lookup f=some v∧Q v H1
noncomputable def N5(K:PySem.W.Frag)(ta tv:TE)(f:Str):TS:=fun D σ H=>tv σ H fun y H1=>ta σ H1 fun x H2=>∃a C dx fs,x= .ref a∧H2 a=some (.ins C dx fs)∧nH K C∧fT K C f∧fs.length<1000∧
 D.nx σ (upd H2 a (.ins C dx (gL f y fs)))
section
variable {X:Cx}{o e value:Expr}{f:Str}{pos pos' tpos:Pos}{ta tv:TE}
theorem Ll(he:PE X e ta)(hb:attributeBase e f X.env (eval e X.env)=eval e X.env):PE X (.Attribute e f pos) (OC X.K ta f):=by
 intro pins s σ H Q I h
 refine IW hb (bZ (he pins s σ H _ I h) fun u s1 ⟨x,H1,I1,rx,a,C,dx,fs,v,ex,ea,c,n,l,q⟩=>?_)
 subst ex
 obtain rfl:u=Value.ref a:=rx
 exact C8 I1 ea c n l fun u' s2 I2 ru=>⟨v,H1,I2,ru,q⟩
theorem KR(ha:PE X o ta)(hv:PE X value tv)(hs:swapsWith value (some (.Attribute o f pos')) pos.line X.env=pure false):PS X (.Assign [.Attribute o f pos'] value pos) (N5 X.K ta tv f):=by
 intro pins s σ H D I h
 refine plainObj_wpAny_Assign_Attribute (bZ (hv pins s σ H _ I h) fun u s1 ⟨y,H1,I1,ry,q⟩=>bZ (ha pins s1 σ H1 _ I1 q) fun ov s2 ⟨x,H2,I2,rx,a,C,dx,fs,ex,ea,c,n,l,q2⟩=>?_) hs
 subst ex
 obtain rfl:ov=Value.ref a:=rx
 exact Cc I2 ea c n l ry fun s3 I3=>⟨σ,_,I3,q2⟩
end
section
variable {X:Cx}{pins:List (Addr×Obj)}{σ:St}{H:Hp}{s:Shared}{A:Around}{E:Value→Shared→Prop}{Q:Value→Shared→Prop}{c:Value}{b:Bool}
inductive jw(K:PySem.W.Frag)(H:Hp):V→Value→Prop where
 |aA:jw K H .aA (.type "NoneType")
 |bl (x:Bool):jw K H (.bl x) (.type "bool")
 |int (i:Int):jw K H (.int i) (.type "int")
 |str (x:Str):jw K H (.str x) (.type "str")
 |tJ (x:UInt64):jw K H (.tJ x) (.type "float")
 |lst {a:Addr} {xs:List V} (e:H a=some (.lst xs)):jw K H (.ref a) (.type "list")
 |gj {a:Addr} {o:Obj} {xs:List V} (e:H a=some (.gj o (.lst xs))):jw K H (.ref a) (.type "list")
 |tup {a:Addr} {xs:List V} (e:H a=some (.tup xs)):jw K H (.ref a) (.type "tuple")
 |dK {a:Addr} {kvs:List (Key×V)} (e:H a=some (.dK kvs)):jw K H (.ref a) (.type "dict")
 |dT {a:Addr} {kvs:List (List Key×V)} (e:H a=some (.dT kvs)):jw K H (.ref a) (.type "dict")
 |ins {a C dx:Addr} {fs:List (Str×V)} (e:H a=some (.ins C dx fs)) (cl:nH K C) (ha:PySem.W.findIn K (.ref C) "__class__"=some (some (.builtin "object.__class__")))
   (hn:PySem.W.specialIn K (.builtin "object.__class__") "__get__"=some (some (.builtin "getset_descriptor.__get__"))) (htk:PySem.W.takesIn K (.builtin "object.__class__")=some true)
   (hm:PySem.W.mroIn K C (.type "object")=some true):jw K H (.ref a) (.ref C)
theorem DQ{x:V}{u t:Value}(I:Inv X pins σ H s)(rx:RelV x u)(ty:jw X.K H x t)(e:PySem.W.kitOne X.K t c=some b)(h:∀tk,Q (.bool b) {s with toks:=tk}):
 wpAny (model X.prog X.w) A (call (.builtin "isinstance") [u,c]) Q E s:=by
 cases ty with
 |aA=>cases (show u=Value.none from rx);exact PySem.W.kia_one PySem.W.kitx_none I.gY True.intro e (fun z=>nomatch z) h
 |bl y=>cases (show u=Value.bool y from rx);exact PySem.W.kia_one PySem.W.kitx_bool I.gY True.intro e (fun z=>nomatch z) h
 |int i=>obtain⟨t,q⟩:=(show∃t,u=Value.int i t from rx);cases q;exact PySem.W.kia_one PySem.W.kitx_int I.gY True.intro e (fun z=>nomatch z) h
 |str y=>obtain⟨t,q⟩:=(show∃t,u=Value.str y t from rx);cases q;exact PySem.W.kia_one PySem.W.kitx_str I.gY True.intro e (fun z=>nomatch z) h
 |tJ y=>obtain⟨t,q⟩:=(show∃t,u=Value.float y t from rx);cases q;exact PySem.W.kia_one PySem.W.kitx_float I.gY True.intro e (fun z=>nomatch z) h
 | @lst a xs ea=>
   cases (show u=Value.ref a from rx)
   obtain⟨_,_,n,_,h1⟩:=(show dj X.prog X.w H s.heap a (.lst xs)from I.aI a _ ea)
   exact PySem.W.kia_one PySem.W.kitx_list I.gY ⟨_,h1,rfl⟩ e (fun z=>nomatch z) h
 | @gj a ob xs ea=>
   cases (show u=Value.ref a from rx)
   obtain⟨_,_,_,n,_,h1⟩:=(show dj X.prog X.w H s.heap a (.gj ob (.lst xs))from I.aI a _ ea)
   exact PySem.W.kia_one PySem.W.kitx_list I.gY ⟨_,h1,rfl⟩ e (fun z=>nomatch z) h
 | @tup a xs ea=>
   cases (show u=Value.ref a from rx)
   obtain⟨_,_,_,p⟩:=(show dj X.prog X.w H s.heap a (.tup xs)from I.aI a _ ea)
   obtain⟨o,h1,h2,_⟩:=p
   exact PySem.W.kia_one PySem.W.kitx_tuple I.gY ⟨o,h1,h2⟩ e (fun z=>nomatch z) h
 | @dK a kvs ea=>
   cases (show u=Value.ref a from rx)
   obtain⟨_,_,vs,_,p⟩:=(show dj X.prog X.w H s.heap a (.dK kvs)from I.aI a _ ea)
   obtain⟨o,es,ep,h1,h2,_⟩:=p
   exact PySem.W.kia_one PySem.W.kitx_dict I.gY ⟨o,h1,h2.1⟩ e (fun z=>nomatch z) h
 | @dT a kvs ea=>
   cases (show u=Value.ref a from rx)
   obtain⟨_,_,xs,_,o,es,ep,h1,h2,_⟩:=(show dj X.prog X.w H s.heap a (.dT kvs)from I.aI a _ ea)
   exact PySem.W.kia_one PySem.W.kitx_dict I.gY ⟨o,h1,h2.1⟩ e (fun z=>nomatch z) h
 | @ins a C dx fs ea cl ha hn htk hm=>
   cases (show u=Value.ref a from rx)
   obtain⟨mA,O,_⟩:=sP I.aI ea
   obtain⟨od,J,_⟩:=O.look
   exact PySem.W.kia_one (PySem.W.kitx_own (cl.get _) cl.hd ha hn htk hm) I.gY J e (fun z=>nomatch z) h
end
end L2
namespace L2
open PySem PySem.Spec PyProof.Rows
structure cQ(k:Nat)(A:Around):Prop where
 hd:A.handled=none
 dp:A.depth+3*k+105<recursionLimit
 un:A.units+16*k+200<cLine
theorem cQ.mono{j k:Nat}{A:Around}(r:cQ k A)(h:j≤k):cQ j A:=⟨r.hd,by have:=r.dp;omega,by have:=r.un;omega⟩
theorem cQ.deeper{k:Nat}{A:Around}(r:cQ (k+1) A)(env:Env):cQ k (A.deeper env):=
 ⟨r.hd,by have:=r.dp;show A.depth+1+3*k+105<_;omega,by have:=r.un;show A.units+3+16*k+200<_;omega⟩
theorem Cj{A:Around}{C:Addr}{us:List Value}{kw:List (Str×Value)}:(A.under (.builtin "type.__call__" ⟨.ref C::us,kw⟩)).depth=A.depth+1:=by
 first|rfl|simp[Around.under,Code.weight,Code.isCreation,Code.isGuard,Code.isCaller,Code.frames,Code.isFrame,guardIds]
theorem BS{A:Around}{C:Addr}{us:List Value}{kw:List (Str×Value)}:(A.under (.builtin "type.__call__" ⟨.ref C::us,kw⟩)).units=A.units+1:=by
 first|rfl|simp[Around.under,Code.cUnits,Code.frames,Code.isFrame]
theorem cQ.make{k:Nat}{A:Around}(r:cQ (k+1) A)(C:Addr)(us:List Value)(kw:List (Str×Value)):cQ k (A.under (.builtin "type.__call__" ⟨.ref C::us,kw⟩)):=
 ⟨r.hd,by have:=r.dp;rw[Cj];omega,by have:=r.un;rw[BS];omega⟩
theorem cQ.depth{k:Nat}{A:Around}(r:cQ k A):A.depth<recursionLimit:=by have:=r.dp;omega
theorem cQ.units{k:Nat}{A:Around}(r:cQ k A):A.units+64<cLine:=by have:=r.un;omega
noncomputable def Ow:TA:=fun _ H Q=>Q [] H
noncomputable def MK(ta:TE)(tr:TA):TA:=fun σ H Q=>ta σ H fun x H1=>tr σ H1 fun xs H2=>Q (x::xs) H2
section
variable {X:Cx}{e:Expr}{es:List Expr}{te:TE}{t:TA}{pos:Pos}
theorem JY:PA X [] Ow:=fun _ _ _ _ H Q I h=>Calls.spliced_nil ⟨[],H,I,.nil,h⟩
theorem HU(ha:PE X e te)(hr:PA X es t)(hs:starEach (e::es) X.env=(false,eval e X.env)::starEach es X.env:=by rfl):PA X (e::es) (MK te t):=by
 intro pos pins s σ H Q I h
 rw[hs]
 show wpAny _ _ (spliced ((false,eval e X.env)::backTo pos (starEach es X.env))) _ _ s
 refine Calls.spliced_cons (bZ (ha pins s σ H _ I h) fun u s1 ⟨x,H1,I1,r1,q1⟩=>?_)
 exact bZ (hr pos pins s1 σ H1 _ I1 q1) fun us s2 ⟨xs,H2,I2,r2,q2⟩=>⟨x::xs,H2,I2,.cons r1 r2,q2⟩
noncomputable def NW(t:TA):TE:=fun σ H Q=>t σ H fun xs H1=>xs.length≤sizeLine∧∀p,H1 p=none→Q (.ref p) (upd H1 p (.tup xs))
noncomputable def Oh(t:TA):TE:=fun σ H Q=>t σ H fun xs H1=>xs.length≤sizeLine∧∀p,H1 p=none→Q (.ref p) (upd H1 p (.lst xs))
theorem Lr{x1}(h:PA X es t):PE X (.Tuple es x1 pos) (NW t):=by
 intro pins s σ H Q I hq
 refine wpAny_Tuple_spliced (bZ (h pos pins s σ H _ I hq) fun us s1 ⟨xs,H1,I1,r,z,q⟩=>⟨by rw[←r.length];exact z,?_⟩)
 have hf:H1 s1.heap.objs.size=none:=I1.aI.fresh (Nat.le_refl _)
 refine⟨.ref s1.heap.objs.size,upd H1 s1.heap.objs.size (.tup xs),I1.laid (t':=s1.toks) (fun b u e=>Heap.get?_push_of_some _ e) (Nat.le_refl _) ?_,rfl,q _ hf⟩
 exact⟨z,us,r,⟨_,Heap.get?_push_size _ rfl,rfl,_,rfl⟩⟩
theorem EB(h:PA X es t):PE X (.List es pos) (Oh t):=by
 intro pins s σ H Q I hq
 refine wpAny_List_spliced (bZ (h pos pins s σ H _ I hq) fun us s1 ⟨xs,H1,I1,r,z,q⟩=>⟨by rw[←r.length];exact z,?_⟩)
 have hf:H1 s1.heap.objs.size=none:=I1.aI.fresh (Nat.le_refl _)
 refine⟨.ref s1.heap.objs.size,upd H1 s1.heap.objs.size (.lst xs),I1.laid (t':=s1.toks) (fun b u e=>Heap.get?_push_of_some _ e) (Nat.le_refl _) ?_,rfl,q _ hf⟩
 exact⟨z,us,0,r,Heap.get?_push_size _ rfl⟩
end
noncomputable abbrev Sp:=List V→Hp→VK→XK→Prop
noncomputable abbrev ud:=List Env→Hp→Shared→XK→Value→Shared→Prop
structure uM(P:Program)(w:World)(K:PySem.W.Frag)(mg:Str→Option Value)(base:Heap)(A:Around)(outer:List Env)(s:Shared)(H:Hp):Prop where
 frames:A.frames=some outer
 mod:Mod K mg base
 bs:∀b o,base.get? b=some o→s.heap.get? b=some o∧H b=none
 qY:base.objs.size≤s.heap.objs.size
 kP:s.heap.FunFrames base outer
 uV:∀b∈pG outer,H b=none
 aI:h7 P w H s.heap
 bare:AllBare s.gens
 gt:P.given.tree=none
noncomputable def CE(outer:List Env)(P:Program)(w:World)(H:Hp)(s:Shared)(Q:VK)(u:Value)(s':Shared):Prop:=
 ∃v H',s'.os=s.os∧AllBare s'.gens∧Un (pG outer) [] H H' s.heap s'.heap∧h7 P w H' s'.heap∧RelV v u∧Q v H'
noncomputable def CR(CX:ud)(outer:List Env)(P:Program)(w:World)(H:Hp)(s:Shared)(Q:VK)(E:XK)(r:Result)(s':Shared):Prop:=
 match r with
 | .ok (.ret u)=>CE outer P w H s Q u s'
 | .ok _=>False
 | .error e=>CX outer H s E e s'
structure bD(P:Program)(w:World)(K:PySem.W.Frag)(mg:Str→Option Value)(base:Heap)(CX:ud)(k:Nat)(f:Addr)(fd:FuncData)(ps:List Str)(sp:Sp):Prop where
 len:∀vs H Q E,sp vs H Q E→vs.length=ps.length
 run:∀(A:Around) (outer:List Env) (s:Shared) (H:Hp) (args:Args) (us:List Value) (vs:List V) (Q:VK) (E:XK),cQ k A→uM P w K mg base A outer s H→BindsTo s fd args (ps.zip us)→Vals vs us→sp vs H Q E→
  codeAny (model P w) A (.call (.ref f) args) (CR CX outer P w H s Q E) s
theorem bD.imp{P:Program}{w:World}{K:PySem.W.Frag}{mg:Str→Option Value}{base:Heap}{CX:ud}{k:Nat}{f:Addr}{fd:FuncData}{ps:List Str}{sp sp':Sp}(F:bD P w K mg base CX k f fd ps sp)
 (h:∀vs H Q E,sp' vs H Q E→sp vs H Q E):bD P w K mg base CX k f fd ps sp':=
 ⟨fun vs H Q E q=>F.len vs H Q E (h _ _ _ _ q),fun A outer s H args us vs Q E hr he hb hv hs=>F.run A outer s H args us vs Q E hr he hb hv (h _ _ _ _ hs)⟩
theorem uM.make{P:Program}{w:World}{K:PySem.W.Frag}{mg:Str→Option Value}{base:Heap}{A:Around}{outer:List Env}{s:Shared}{H:Hp}(e:uM P w K mg base A outer s H)(C:Addr)(us:List Value)(kw:List (Str×Value)):
 uM P w K mg base (A.under (.builtin "type.__call__" ⟨.ref C::us,kw⟩)) outer s H:=⟨by first|exact e.frames|(simpa[Around.under,Code.envs,Code.isFrame,pushEnvs]using e.frames),e.mod,e.bs,e.qY,e.kP,e.uV,e.aI,e.bare,e.gt⟩
section
variable {X:Cx}{pins:List (Addr×Obj)}{σ:St}{H:Hp}{s s':Shared}
theorem Inv.Ky(I:Inv X pins σ H s):uM X.prog X.w X.K X.mg X.base X.A X.stack s H:=
 ⟨I.ok.frames,I.ok.mod,I.bs,Nat.le_trans I.ok.qY I.sz,I.stack,I.wM,I.aI,I.bare,I.ok.gt⟩
theorem Inv.after{Q:VK}{u:Value}(I:Inv X pins σ H s)(h:CE X.stack X.prog X.w H s Q u s'):EP X pins σ Q u s':=by
 obtain⟨v,H',os,bare,un,aI,r,q⟩:=h
 obtain⟨hh,g,d,t,os'⟩:=s'
 obtain rfl:os'=s.os:=os
 exact⟨v,H',I.call (h':=hh) (g':=g) (d':=d) (t':=t) (ch:=[]) un aI bare (fun b z=>absurd z (by simp)),r,q⟩
end
noncomputable def GY(sp:Sp)(dvs:List V)(E:XK)(t:TA):TE:=fun σ H Q=>t σ H fun vs H1=>sp (vs++dvs) H1 Q E
noncomputable def He(C:Addr)(m:Str)(sp:Sp)(dvs:List V)(E:XK)(ta:TE)(t:TA):TE:=fun σ H Q=>ta σ H fun x H1=>∃a dx fs,x= .ref a∧H1 a=some (.ins C dx fs)∧fs.lookup m=none∧
 t σ H1 fun vs H2=>sp (x::(vs++dvs)) H2 Q E
noncomputable def GG(C:Addr)(sp:Sp)(dvs:List V)(E:XK)(t:TA):TE:=fun σ H Q=>t σ H fun vs H1=>∀x dx,H1 x=none→H1 dx=none→dx≠x→
 sp (.ref x::(vs++dvs)) (upd (upd H1 dx (.own x)) x (.ins C dx [])) (fun v H2=>v= .aA∧Q (.ref x) H2) E
noncomputable def Binds(K:PySem.W.Frag)(fd:FuncData)(ps:List Str)(ds:List Value):Prop:=
 ∀(s:Shared) (us:List Value),K.In s.heap→(us++ds).length=ps.length→BindsTo s fd ⟨us,[]⟩ (ps.zip (us++ds))
theorem Binds.all{K:PySem.W.Frag}{fd:FuncData}{ps:List Str}(h:∀us:List Value,us.length=ps.length→bindArgs fd ⟨us,[]⟩=pure (ps.zip us)):Binds K fd ps []:=fun s us _ hl=>by
 rw[List.append_nil]at hl⊢
 exact .of_eq (h us hl)
noncomputable def Passes(CX:ud)(X:Cx)(E:XK):Prop:=∀(pins:List (Addr×Obj)) (σ:St) (H:Hp) (s:Shared) (e:Value) (s':Shared),Inv X pins σ H s→CX X.stack H s E e s'→X.xe e s'
section
variable {X:Cx}{CX:ud}{k:Nat}{f C:Addr}{fd:FuncData}{ps:List Str}{sp:Sp}{dvs:List V}{ds:List Value}{E:XK}{x m:Str}{p pos apos:Pos}{e o:Expr}{es:List Expr}{ta:TE}{t:TA}
theorem E4{pins:List (Addr×Obj)}{σ:St}{H:Hp}{s:Shared}{Q:VK}{us:List Value}{vs:List V}(F:bD X.prog X.w X.K X.mg X.base CX k f fd ps sp)(hr:cQ k X.A)(hb:Binds X.K fd ps ds)(hd:Vals dvs ds)(hx:Passes CX X E)
 (I:Inv X pins σ H s) (r:Vals vs us) (h:sp (vs++dvs) H Q E):wpAny (model X.prog X.w) X.A (call (.ref f) us) (EP X pins σ Q) X.xe s:=by
 have r2:Vals (vs++dvs) (us++ds):=r.append hd
 have hl:(us++ds).length=ps.length:=by rw[←r2.length];exact F.len _ _ _ _ h
 refine wpAny_call (codeAny_mono (F.run X.A X.stack s H ⟨us,[]⟩ (us++ds) (vs++dvs) Q E hr I.Ky (hb s us I.gY hl) r2 h) fun r s' hq=>?_)
 cases r with
 |error e=>exact hx pins σ H s e s' I hq
 |ok fl=>
  cases fl with
  |ret u=>exact I.after hq
  |next=>exact False.elim hq
  |brk=>exact False.elim hq
  |cont=>exact False.elim hq
theorem Io(F:bD X.prog X.w X.K X.mg X.base CX k f fd ps sp)(hr:cQ k X.A)(hg:Gl X x)(hm:X.mg x=some (.ref f))(hk:PySem.W.keepIn X.K (.ref f)=true)(hb:Binds X.K fd ps ds)(hd:Vals dvs ds)(hx:Passes CX X E)
 (ha:PA X (e::es) t) (hdb:(x==("__debug__":Str))=false:=by decide) (he:starEach (e::es) X.env=(false,eval e X.env)::starEach es X.env:=by rfl) (hpl:(backTo pos (starEach es X.env)).any (·.1)=false:=by rfl):
 PE X (.Call (.Name x p) (e::es) [] pos) (GY sp dvs E t):=by
 intro pins s σ H Q I h
 refine wpAny_Call_Name_kw (Bh I hg hm ?_ hdb)
 refine PySem.W.callWith_K (h₀:=X.base) I.ok.mod.EC hk (bZ (ha pos pins s σ H _ I h) fun us s1 ⟨vs,H1,I1,r,q⟩=>⟨I1.gY,?_⟩) he hpl
 exact E4 F hr hb hd hx I1 r q
theorem HL{pl:Sem Bool}(he:PE X o ta)(c:nH X.K C)(hm:Meth X.K C m f)(F:bD X.prog X.w X.K X.mg X.base CX k f fd ps sp)(hr:cQ k X.A)(hb:Binds X.K fd ps ds)(hd:Vals dvs ds)(hx:Passes CX X E)(ha:PA X (e::es) t)
 (hst:starEach (e::es) X.env=(false,eval e X.env)::starEach es X.env:=by rfl) (hpl:(backTo pos (starEach es X.env)).any (·.1)=false:=by rfl)
 (ht:eval (.Call (.Attribute o m apos) (e::es) [] pos) X.env=(do
   let ov ←eval o X.env
   standAt apos.atName
   let(f,first) ←holding [ov] (getMethod ov m pl)
   callWith pos f first (backTo pos (starEach (e::es) X.env)) (backToKw pos (keywordEach [] X.env))):=by rfl):
 PE X (.Call (.Attribute o m apos) (e::es) [] pos) (He C m sp dvs E ta t):=by
 intro pins s σ H Q I h
 refine PySem.W.methodCall_KW (pl:=pl) (bZ (he pins s σ H _ I h) fun u s1 ⟨x,H1,I1,rx,a,dx,fs,ex,ea,l,q⟩=>?_) ht
 subst ex
 obtain rfl:u=Value.ref a:=rx
 refine BU I1 ea c hm l ?_
 refine PySem.W.callWith_K (first:=[.ref a]) (h₀:=X.base) I.ok.mod.EC hm.kp (bZ (ha pos pins s1 σ H1 _ I1 q) fun us s2 ⟨vs,H2,I2,r,q2⟩=>⟨I2.gY,?_⟩) hst hpl
 exact E4 (us:= .ref a::us) (vs:= .ref a::vs) F hr hb hd hx I2 (.cons rfl r) q2
structure Mk(K:PySem.W.Frag)(C f:Addr):Prop where
 makes:PySem.W.makesIn K C=true
 init:PySem.W.findIn K (.ref C) "__init__"=some (some (.ref f))
 fn:PySem.W.isFn K (.ref f)=true
 kp:PySem.W.keepIn K (.ref C)=true
theorem FI{pins:List (Addr×Obj)}{σ:St}{H:Hp}{s:Shared}{Q:VK}{us:List Value}{vs:List V}(M:Mk X.K C f)(F:bD X.prog X.w X.K X.mg X.base CX k f fd ps sp)(hr:cQ (k+1) X.A)(hb:Binds X.K fd ps ds)(hd:Vals dvs ds)
 (hx:Passes CX X E) (I:Inv X pins σ H s) (r:Vals vs us)
 (h:∀x dx,H x=none→H dx=none→dx≠x→sp (.ref x::(vs++dvs)) (upd (upd H dx (.own x)) x (.ins C dx [])) (fun v H2=>v= .aA∧Q (.ref x) H2) E):
 wpAny (model X.prog X.w) X.A (call (.ref C) us) (EP X pins σ Q) X.xe s:=by
 have hq:=h (s.heap.objs.size+1) s.heap.objs.size (I.aI.fresh (Nat.le_succ _)) (I.aI.fresh (Nat.le_refl _)) (Nat.ne_of_lt (Nat.lt_succ_self _))
 have I2:=Inv.made (C:=C) I
 have r2:Vals (V.ref (s.heap.objs.size+1)::(vs++dvs)) (Value.ref (s.heap.objs.size+1)::(us++ds)):= .cons rfl (r.append hd)
 have hl:(Value.ref (s.heap.objs.size+1)::us++ds).length=ps.length:=by
  have e:=r2.length
  rw[F.len _ _ _ _ hq]at e
  exact e.symm
 refine wpAny_call (F8 (f:=f) I.gY M.makes M.init (beq_iff_eq.mp M.fn) (codeAny_mono (F.run _ X.stack _ _ ⟨Value.ref (s.heap.objs.size+1)::us,[]⟩ (Value.ref (s.heap.objs.size+1)::(us++ds)) _ _ E (hr.make C us [])
  (I2.Ky.make C us []) (hb _ (Value.ref (s.heap.objs.size+1)::us) I2.gY hl) r2 hq) fun r s' hq'=>?_))
 cases r with
 |error e=>exact hx pins σ _ _ e s' I2 hq'
 |ok fl=>
  cases fl with
  |ret u=>
   obtain⟨v,H',I3,rv,ev,q3⟩:=I2.after hq'
   subst ev
   exact⟨rv,⟨V.ref (s.heap.objs.size+1),H',I3,rfl,q3⟩⟩
  |next=>exact False.elim hq'
  |brk=>exact False.elim hq'
  |cont=>exact False.elim hq'
theorem IC(M:Mk X.K C f)(F:bD X.prog X.w X.K X.mg X.base CX k f fd ps sp)(hr:cQ (k+1) X.A)(hg:Gl X x)(hm:X.mg x=some (.ref C))(hb:Binds X.K fd ps ds)(hd:Vals dvs ds)(hx:Passes CX X E)
 (ha:PA X (e::es) t) (hdb:(x==("__debug__":Str))=false:=by decide) (he:starEach (e::es) X.env=(false,eval e X.env)::starEach es X.env:=by rfl) (hpl:(backTo pos (starEach es X.env)).any (·.1)=false:=by rfl):
 PE X (.Call (.Name x p) (e::es) [] pos) (GG C sp dvs E t):=by
 intro pins s σ H Q I h
 refine wpAny_Call_Name_kw (Bh I hg hm ?_ hdb)
 refine PySem.W.callWith_K (h₀:=X.base) I.ok.mod.EC M.kp (bZ (ha pos pins s σ H _ I h) fun us s1 ⟨vs,H1,I1,r,q⟩=>⟨I1.gY,?_⟩) he hpl
 exact FI M F hr hb hd hx I1 r q
end
section
variable {X:Cx}{CX:ud}{k:Nat}{f C:Addr}{fd:FuncData}{ps ks:List Str}{sp:Sp}{E:XK}{x m:Str}{p pos apos kpos:Pos}{e o:Expr}{es:List Expr}{kws:List Keyword}{te ta:TE}{t tk:TA}{nm:Option Str}
variable {g:List Value→List Value→List Value}{gV:List V→List V→List V}
end
structure aT(N P:List Str)(sc:Scope):Prop where
 kind:sc.kind= .function
 co:sc.isCoroutine=false
 gen:sc.isGenerator=false
 nd:N.Nodup
 pre:N.take P.length=P
 par:∀x∈P,sc.names.lookup x=some .local∨sc.names.lookup x=some .cell
 Le:∀y∈sc.names,y.2≠ .free
theorem xg{kindOf:Str→Option NameKind}{x:Str}:∀ {binds:List (Str×Value)} {m:Str→Option Value},(∀v,(x,v)∉binds)→bindL kindOf binds m x=m x
 | [],_,_=>rfl
 |(n,v)::r,m,h=>by
  unfold bindL
  rw[xg fun w hw=>h w (List.mem_cons_of_mem _ hw)]
  split
  · have:x≠n:=by rintro rfl;exact h v List.mem_cons_self
    simp[this]
  · rfl
theorem xh{kindOf:Str→Option NameKind}{x:Str}:∀ {binds:List (Str×Value)} {m:Str→Option Value},(∀v,(x,v)∉binds)→bindC kindOf binds m x=m x
 | [],_,_=>rfl
 |(n,v)::r,m,h=>by
  unfold bindC
  rw[xh fun w hw=>h w (List.mem_cons_of_mem _ hw)]
  split
  · rfl
  · have:x≠n:=by rintro rfl;exact h v List.mem_cons_self
    simp[this]
theorem xt{kindOf:Str→Option NameKind}{x:Str}{v:Value}:∀ {P:List Str} {vs:List Value} {i:Nat} {m:Str→Option Value},P.Nodup→P[i]?=some x→vs[i]?=some v→kindOf x=some .local→
 bindL kindOf (P.zip vs) m x=some v
 | [],_,_,_,_,h,_,_=>by simp at h
 |_::_,[],_,_,_,_,h,_=>by simp at h
 |p::P,w::vs,0,m,nd,h1,h2,hk=>by
  simp at h1 h2;subst h1;subst h2
  show bindL kindOf ((p,w)::P.zip vs) m p=_
  unfold bindL
  rw[xg fun v hv=>(List.nodup_cons.mp nd).1 (List.of_mem_zip hv).1,if_pos hk]
  simp
 |p::P,w::vs,i+1,m,nd,h1,h2,hk=>by
  show bindL kindOf ((p,w)::P.zip vs) m x=_
  unfold bindL
  exact xt (i:=i) (List.nodup_cons.mp nd).2 (by simpa using h1) (by simpa using h2) hk
theorem xQ{kindOf:Str→Option NameKind}{x:Str}{v:Value}:∀ {P:List Str} {vs:List Value} {i:Nat} {m:Str→Option Value},P.Nodup→P[i]?=some x→vs[i]?=some v→kindOf x≠some .local→
 bindC kindOf (P.zip vs) m x=some v
 | [],_,_,_,_,h,_,_=>by simp at h
 |_::_,[],_,_,_,_,h,_=>by simp at h
 |p::P,w::vs,0,m,nd,h1,h2,hk=>by
  simp at h1 h2;subst h1;subst h2
  show bindC kindOf ((p,w)::P.zip vs) m p=_
  unfold bindC
  rw[xh fun v hv=>(List.nodup_cons.mp nd).1 (List.of_mem_zip hv).1,if_neg hk]
  simp
 |p::P,w::vs,i+1,m,nd,h1,h2,hk=>by
  show bindC kindOf ((p,w)::P.zip vs) m x=_
  unfold bindC
  exact xQ (i:=i) (List.nodup_cons.mp nd).2 (by simpa using h1) (by simpa using h2) hk
noncomputable def start(N:List Str)(vs:List V):St:=vs.map some++List.replicate (N.length-vs.length) none
noncomputable def qu(CX:ud)(P:Program)(w:World)(K:PySem.W.Frag)(mg:Str→Option Value)(base:Heap)(N:List Str)(qual:Str)(scope:Scope)(f:Addr)(cd:Value)(A:Around)(outer:List Env)(s:Shared)(H:Hp)(E:XK):Cx where
 prog:=P
 w:=w
 K:=K
 mg:=mg
 base:=base
 A:=A.deeper (envOfC qual scope s.heap.objs.size f cd)
 N:=N
 s₀:=s
 H₀:=H
 env:=envOfC qual scope s.heap.objs.size f cd
 outer:=outer
 stack:=envOfC qual scope s.heap.objs.size f cd::outer
 ex:=[]
 calm:=true
 fn:=fun _=>true
 pn:=[]
 xe:=fun e s'=>wpAny (model P w) (A.deeper (envOfC qual scope s.heap.objs.size f cd)) (leaving (envOfC qual scope s.heap.objs.size f cd) e) (fun _ s''=>CX outer H s E e s'') (fun e' s''=>CX outer H s E e' s'') s'
theorem Ap{sc:Scope}{n:Nat}{x:Str}(h:sc.names.lookup x=some .cell):∃c,(cellsFrom n sc.names []).lookup x=some c:=by
 have q:=PySem.W.cellsFrom_some sc.names n [] (.inl h)
 exact Option.isSome_iff_exists.mp q
theorem ER{CX:ud}{P:Program}{w:World}{K:PySem.W.Frag}{mg:Str→Option Value}{base:Heap}{N ps:List Str}{qual:Str}{scope:Scope}{f:Addr}{cd:Value}{A:Around}{outer:List Env}{s s1:Shared}{H:Hp}{E:XK}{us:List Value}{vs:List V}
 (S:aT N ps scope) (hd:A.handled=none) (e0:uM P w K mg base A outer s H) (hl:vs.length=ps.length) (r:Vals vs us)
 (x:InCallC s s.heap.objs.size (bindL (envOfC qual scope s.heap.objs.size f cd).kindOf (ps.zip us) fun _=>none) (cellsFrom (s.heap.objs.size+1) scope.names []) (bindC (envOfC qual scope s.heap.objs.size f cd).kindOf (ps.zip us) fun _=>none) s1):
 Inv (qu CX P w K mg base N qual scope f cd A outer s H E) [] (start N vs) H s1:=by
 have hpl:ps.length≤N.length:=by have:=congrArg List.length S.pre;rw[List.length_take]at this;omega
 obtain⟨h1,tk,rfl,hk⟩:=x.done
 have noA:∀b:Addr,b∉(qu CX P w K mg base N qual scope f cd A outer s H E).ex:=fun b z=>absurd (show b∈([]:List Addr)from z) (by simp)
 refine⟨⟨e0.mod,S.kind,rfl,rfl,Nat.le_refl _,fun y z c h1 h2=>?_,fun y hy=>?_,fun y c _ h=>?_,fun _=>hd,Around.frames_deeper e0.frames,.inr ⟨rfl,rfl⟩,fun b z=>absurd z (noA b),e0.bs,e0.qY,fun b _ _=>noA b,fun b z=>absurd z (noA b),e0.kP,e0.uV,e0.gt⟩,
  rfl,e0.bare,Un.kept hk,⟨_,x.toInCall.ns,fun i y v h1 h2 h3=>?_⟩,fun y c h=>⟨_,x.cell y c h⟩,e0.aI.fresh (Nat.le_refl _),fun y c h=>?_,fun p hp=>absurd (show p∈([]:List (Addr×Obj))from hp) (by simp),e0.aI.kept hk,?_⟩
 · exact name_of_addr x.apart (PySem.mem_of_lookup h1) (PySem.mem_of_lookup h2)
 · have hy:scope.names.lookup y=some .cell∨scope.names.lookup y=some .free:=hy
   rcases hy with hy|hy
   · exact Ap hy
   · exact absurd rfl (S.Le _ (PySem.mem_of_lookup hy))
 · exact Nat.le_of_lt (x.above y c (PySem.mem_of_lookup h))
 · have hi:i<vs.length:=by
    unfold start at h2
    by_cases hi:i<vs.length
    · exact hi
    · rw[List.getElem?_append_right (by simpa using hi)]at h2
      rw[List.getElem?_replicate]at h2
      split at h2<;>cases h2
   have ha:vs[i]?=some v:=by
    unfold start at h2
    rw[List.getElem?_append_left (by simpa using hi),List.getElem?_map]at h2
    cases e:vs[i]? with
    |none=>rw[e]at h2;cases h2
    |some a=>rw[e]at h2;cases h2;rfl
   obtain⟨u,hu,rv⟩:=r.get ha
   have hp:ps[i]?=some y:=by
    rw[←S.pre,List.getElem?_take_of_lt (by omega)];exact h1
   have ndP:ps.Nodup:=by rw[←S.pre];exact S.nd.sublist (List.take_sublist _ _)
   refine⟨u,rv,?_⟩
   rcases S.par y (List.mem_of_getElem? hp)with k|k
   · exact .inl ⟨k,xt ndP hp hu k⟩
   · obtain⟨c,e⟩:=Ap (n:=s.heap.objs.size+1) k
     refine .inr ⟨.inl k,c,e,?_⟩
     have q:=x.cell y c e
     rw[xQ ndP hp hu (by show scope.names.lookup y≠_;rw[k];decide)]at q
     exact q
 · exact e0.aI.fresh (Nat.le_of_lt (x.above y c (PySem.mem_of_lookup h)))
 · unfold start
   show _=N.length
   rw[List.length_append,List.length_map,List.length_replicate]
   omega
theorem GS{CX:ud}{P:Program}{w:World}{K:PySem.W.Frag}{mg:Str→Option Value}{base:Heap}{k:Nat}{f:Addr}{name qual:Str}{params:Arguments}{body:List Stmt}{scope:Scope}{dV kV doc pm cdv ct oc:Value}{an od:Option Addr}
 {osl:Array (Option Value)} {N ps:List Str} {sp:Sp} (lk:K.lookup f=some ⟨oc,od,.func (PySem.W.fnOf name qual params body scope dV kV doc pm an cdv ct),osl⟩) (hcd:PySem.W.codeIn K cdv qual=true) (S:aT N ps scope)
 (len:∀vs H Q E,sp vs H Q E→vs.length=ps.length)
 (hbody:∀(A:Around) (outer:List Env) (s:Shared) (H:Hp) (vs:List V) (Q:VK) (E:XK),cQ k (A.deeper (envOfC qual scope s.heap.objs.size f cdv))→sp vs H Q E→
   ∃t,gT (qu CX P w K mg base N qual scope f cdv A outer s H E) body t∧t {nx:=fun _ H'=>Q .aA H',rt:=Q} (start N vs) H):
 bD P w K mg base CX (k+1) f (PySem.W.fnOf name qual params body scope dV kV doc pm an cdv ct) ps sp:=by
 refine⟨len,fun A outer s H args us vs Q E hr e0 hb r hsp=>?_⟩
 have hl:=len _ _ _ _ hsp
 have KX:K.In s.heap:=e0.mod.EC.keeps fun b o e=>(e0.bs b o e).1
 have lim:s.heap.NoLimit:=e0.mod.nolimit.keeps fun b o e=>(e0.bs b o e).1
 have hkind:∀y∈ps.zip us,scope.names.lookup y.1=some .local∨(scope.names.lookup y.1=some .cell∧((cellsFrom (s.heap.objs.size+1) scope.names []).lookup y.1).isSome=true):=fun⟨n,v⟩ hy=>by
  rcases S.par n (List.of_mem_zip hy).1 with q|q
  · exact .inl q
  · exact .inr ⟨q,PySem.W.cellsFrom_some _ _ _ (.inl q)⟩
 refine codeAny_call_function hr.depth (KX _ _ lk) rfl S.co S.gen rfl (PySem.W.codeRec_of KX hcd) (hb _ _ _ _ ?_)
 refine wpAny_newFunctionEnv_cells S.kind hkind fun env he s1 x=>?_
 subst he
 refine⟨lim.keeps x.toInCall.keep,codeAny_func ?_⟩
 obtain⟨t,ht,hq⟩:=hbody A outer s H vs Q E (hr.deeper _) hsp
 have I:Inv (qu CX P w K mg base N qual scope f cdv A outer s H E) [] (start N vs) H s1:=ER S hr.hd e0 hl r x
 refine wpAny_mono (ht [] s1 (start N vs) H _ I hq) (fun fl s' hs=>?_) fun e s' hs=>hs
 have fin:∀ {σ':St} {H':Hp} {v:V} {u:Value},Inv (qu CX P w K mg base N qual scope f cdv A outer s H E) [] σ' H' s'→RelV v u→Q v H'→CE outer P w H s Q u s':=
  fun{σ' H' v u} J rv q=>⟨v,H',J.os,J.bare,J.base,J.aI,rv,q⟩
 cases fl with
 |ret u=>
  obtain⟨v,σ',H',J,rv,q⟩:=hs
  exact fin J rv q
 |next=>
  obtain⟨σ',H',J,q⟩:=hs
  exact fin (v:=V.aA) (u:=Value.none) J rfl q
 |brk=>
  obtain⟨_,_,_,q⟩:=hs
  exact False.elim q
 |cont=>
  obtain⟨_,_,_,q⟩:=hs
  exact False.elim q
end L2
namespace L2
open PySem PySem.Spec PyProof.Rows
section
variable {X:Cx}{x:Str}{p pos:Pos}{e:Expr}{es:List Expr}{t:TA}{id T:String}{r:List V→Hp→VK→Prop}
noncomputable def Lf(r:List V→Hp→VK→Prop)(t:TA):TE:=fun σ H Q=>t σ H fun vs H1=>r vs H1 Q
theorem Ge(hc:cp X (.builtin id) r)(hg:Gl X x)(hm:X.mg x=none)(hv:bootBuiltins x=some (.builtin id))(ha:PA X (e::es) t)(hn:x≠"__name__":=by decide)(hdb:(x==("__debug__":Str))=false:=by decide)
 (he:starEach (e::es) X.env=(false,eval e X.env)::starEach es X.env:=by rfl) (hpl:(backTo pos (starEach es X.env)).any (·.1)=false:=by rfl):PE X (.Call (.Name x p) (e::es) [] pos) (Lf r t):=by
 intro pins s σ H Q I h
 refine wpAny_Call_Name_kw (l8 I hg hm hv ?_ hn hdb)
 exact PyProof.Rows.callWith_builtin1 (bZ (ha pos pins s σ H _ I h) fun us s1 ⟨vs,H1,I1,r1,q1⟩=>hc pins s1 σ H1 vs us Q I1 r1 q1) he hpl
theorem DB(hc:cp X (.type T) r)(hg:Gl X x)(hm:X.mg x=none)(hv:bootBuiltins x=some (.type T))(ha:PA X (e::es) t)(hn:x≠"__name__":=by decide)(hdb:(x==("__debug__":Str))=false:=by decide)
 (he:starEach (e::es) X.env=(false,eval e X.env)::starEach es X.env:=by rfl) (hpl:(backTo pos (starEach es X.env)).any (·.1)=false:=by rfl):PE X (.Call (.Name x p) (e::es) [] pos) (Lf r t):=by
 intro pins s σ H Q I h
 refine wpAny_Call_Name_kw (l8 I hg hm hv ?_ hn hdb)
 exact PyProof.Rows.callWith_type1 (bZ (ha pos pins s σ H _ I h) fun us s1 ⟨vs,H1,I1,r1,q1⟩=>hc pins s1 σ H1 vs us Q I1 r1 q1) he hpl
end
end L2
namespace HT
open PySem PyProof.Rows
section
open PySem.SeqAt
open PySem.AutoSeq1 (wpAny_loadPart')
open PySem.MeetsSeq PySem.MeetsSeq2 PySem.MeetsSeq3
end
section
variable {prog:Program}{w:World}{A:Around}{E:Value→Shared→Prop}{s:Shared}
theorem IB{t b:Addr}{vs ws:List Value}{Q:Value→Shared→Prop}(ht:IsTup s.heap t vs.toArray)(hb:IsTup s.heap b ws.toArray)(hv:vs≠ [])
 (h1:ws=[]→Q (.ref t) s) (h2:ws≠ []→Q (.ref s.heap.objs.size) {s with heap:=s.heap.push {cls:= .type "tuple",data:= .seq (vs++ws).toArray}})
 (hsz:vs.length+ws.length≤sizeLine):wpAny (model prog w) A (binaryOp .Add (.ref t) (.ref b)) Q E s:=by
 obtain⟨⟨cls,dd,data,sl⟩,ho,hc,n,hd⟩:=id ht
 obtain⟨⟨cls2,dd2,data2,sl2⟩,ho2,hc2,n2,hd2⟩:=id hb
 simp only at hc hd hc2 hd2
 subst hc hd hc2 hd2
 have e:vs.toArray++ws.toArray=(vs++ws).toArray:=by simp
 by_cases hw:ws=[]
 · exact concat_meets ⟨_,ho,rfl⟩ ⟨_,ho2,rfl⟩ noFill_tuple_add seq_tuple_add PySem.F.slot_tuple_add PySem.F.entry_tuple_add (PySem.F.args_tuple_add_2 _ _)
    (tuple_addW1 t b vs.toArray ws.toArray n n2 dd dd2 sl sl2 (by simpa using hv) (by simp[hw])) ⟨ho,ho2,h1 hw⟩
 · refine concat_meets ⟨_,ho,rfl⟩ ⟨_,ho2,rfl⟩ noFill_tuple_add seq_tuple_add PySem.F.slot_tuple_add PySem.F.entry_tuple_add (PySem.F.args_tuple_add_2 _ _)
    (tuple_addW2 t b vs.toArray ws.toArray n n2 dd dd2 sl sl2 (by simpa using hv) (by simpa using hw) (by rw[List.size_toArray,List.size_toArray];exact hsz)) ⟨ho,ho2,?_⟩
   rw[e]
   exact h2 hw
noncomputable def cg(n d:Nat):Option Int→Nat
 |none=>d
 |some v=>if v<0 then(v+(n:Int)).toNat else min v.toNat n
theorem yR(n d:Nat):cg n d none=d:=rfl
theorem BD(n d k:Nat):cg n d (some (k:Int))=min k n:=by
 show(if(k:Int)<0 then((k:Int)+(n:Int)).toNat else min (k:Int).toNat n)=min k n
 rw[if_neg (by omega),Int.toNat_natCast]
theorem La(n d:Nat)(hd:d≤n)(o:Option Int):cg n d o≤n:=by
 cases o with
 |none=>exact hd
 |some v=>
  show(if v<0 then(v+(n:Int)).toNat else min v.toNat n)≤n
  by_cases hv:v<0
  · rw[if_pos hv];omega
  · rw[if_neg hv];exact Nat.min_le_right _ _
theorem BO(v:Int)(n d:Nat):(if v<0 then max (v+(n:Int)) 0 else min v (n:Int))=((cg n d (some v):Nat):Int):=by
 show(if v<0 then max (v+(n:Int)) 0 else min v (n:Int))=(((if v<0 then(v+(n:Int)).toNat else min v.toNat n):Nat):Int)
 by_cases hv:v<0
 · simp only[if_pos hv];omega
 · simp only[if_neg hv];omega
theorem BW(lo hi:Option Int)(n:Nat):Builtin.Slice.sliceAdjust lo hi 1 (n:Int)=(((cg n 0 lo:Nat):Int),((cg n n hi:Nat):Int)):=by
 have h1:¬((1:Int)<0):=by omega
 unfold Builtin.Slice.sliceAdjust
 simp only[h1,if_false]
 refine Prod.ext ?_ ?_
 · cases lo with
   |none=>rfl
   |some v=>exact BO v n 0
 · cases hi with
   |none=>rfl
   |some v=>exact BO v n n
theorem C9(i j:Nat):Builtin.Slice.slicePlaces (i:Int) (j:Int) 1=j-i:=by
 unfold Builtin.Slice.slicePlaces
 have h1:(1:Int)>0:=by omega
 simp only[h1,if_true,Int.ediv_one]
 split<;>omega
theorem vp{v:Value}{o:Option Int}{Q:Option Int→Shared→Prop}(p:IsPart v o)(h:Q o s):wpAny (model prog w) A (Builtin.Slice.slicePartIndex v) Q E s:=by
 cases p with
 |none=>exact slicePart_none h
 |int i t=>exact slicePart_int h
theorem nK{sl:Addr}{vl vu:Value}{lo hi:Option Int}{n:Nat}{Q:Int×Int×Nat→Shared→Prop}(hs:s.heap.IsSliceOf sl vl vu .none)(pl:IsPart vl lo)(pu:IsPart vu hi)
 (h:Q (((cg n 0 lo:Nat):Int),1,cg n n hi-cg n 0 lo) s):wpAny (model prog w) A (Builtin.Slice.sliceApplied (.ref sl) (pure (n:Int))) Q E s:=by
 obtain⟨os,hos,hcs,hds⟩:=id hs
 unfold Builtin.Slice.sliceApplied Builtin.Slice.sliceFields
 refine wpAny_bind (wpAny_bind (wpAny_field hos hds (x:=vl) rfl (wpAny_bind (wpAny_field hos hds (x:=vu) rfl (wpAny_bind (wpAny_field hos hds (x:= .none) rfl (wpAny_pure ?_)))))))
 refine wpAny_bind (slicePart_none ?_)
 show wpAny _ _ (if((1:Int)==0)=true then _ else _) _ _ s
 rw[if_neg (by decide)]
 refine wpAny_bind (vp pl (wpAny_bind (vp pu (wpAny_bind (wpAny_pure ?_)))))
 show wpAny _ _ (match Builtin.Slice.sliceAdjust lo hi 1 (n:Int)with|(lo,hi)=>pure (lo,(1:Int),Builtin.Slice.slicePlaces lo hi 1)) _ _ s
 rw[BW lo hi n]
 show wpAny _ _ (pure (((cg n 0 lo:Nat):Int),(1:Int),Builtin.Slice.slicePlaces ((cg n 0 lo:Nat):Int) ((cg n n hi:Nat):Int) 1)) _ _ s
 rw[C9]
 exact wpAny_pure h
theorem FN(xs:Array Value)(i k:Nat):((List.range k).filterMap fun(m:Nat)=>xs[((i:Int)+(m:Int)*1).toNat]?).toArray=((xs.toList.drop i).take k).toArray:=by
 have e:(fun(m:Nat)=>xs[((i:Int)+(m:Int)*1).toNat]?)=fun m=>xs[i+m]?:=by
  funext m
  have:((i:Int)+(m:Int)*1).toNat=i+m:=by omega
  rw[this]
 rw[e]
 have:=pick_run xs i k
 rw[List.filterMap_map]at this
 have e2:((fun x=>xs[x]?)∘fun x=>i+x)=fun m=>xs[i+m]?:=rfl
 rw[e2]at this
 rw[this]
theorem tE{t sl:Addr}{items:Array Value}{vl vu:Value}{lo hi:Option Int}{Q:Value→Shared→Prop}(ht:IsTup s.heap t items)(hs:s.heap.IsSliceOf sl vl vu .none)(pl:IsPart vl lo)(pu:IsPart vu hi)
 (hw:¬(cg items.size 0 lo=0∧cg items.size items.size hi=items.size))
 (h:Q (.ref s.heap.objs.size) {s with heap:=s.heap.push {cls:= .type "tuple",data:= .seq ((items.toList.drop (cg items.size 0 lo)).take (cg items.size items.size hi-cg items.size 0 lo)).toArray}})
 (hsz:items.size≤sizeLine):wpAny (model prog w) A (getItem (.ref t) (.ref sl)) Q E s:=by
 have htake:sizeOk (.seq ((items.toList.drop (cg items.size 0 lo)).take (cg items.size items.size hi-cg items.size 0 lo)).toArray):=by
  show((items.toList.drop (cg items.size 0 lo)).take (cg items.size items.size hi-cg items.size 0 lo)).toArray.size≤sizeLine
  rw[List.size_toArray,List.length_take,List.length_drop,Array.length_toList]
  omega
 have hj:cg items.size items.size hi≤items.size:=La _ _ (Nat.le_refl _) hi
 obtain⟨os,hos,hcs,hds⟩:=id hs
 have hTs:s.TypeIs (.ref sl) "slice":=⟨os,hos,hcs⟩
 unfold getItem
 try with_reducible refine wpAny_holding ?_
 first|refine wpAny_bind (wpAny_pure ?_)|skip
 refine wpAny_bind (wpAny_sequenceKey ht.typeIs (by decide) ?_)
 refine wpAny_bind (wpAny_callSpecial?_slot (name:=Str.ofString "__getitem__") ht.typeIs PyProof.Rows.slot_tuple_getitem
  (wpAny_call_entry PyProof.Rows.slot_tuple_getitem ht.typeIs entry_tuple_getitem ?_ (args_tuple_getitem _ _)))
 show wpAny _ _ (Builtin.Tuple.tupleItemsOf (.ref t) >>= _) _ _ s
 refine wpAny_bind (tupleItemsOf_ ht ?_)
 refine wpAny_bind (wpAny_typeOf hTs ?_)
 rw[if_pos (by decide)]
 refine wpAny_bind (nK hs pl pu ?_)
 have hno:¬((((cg items.size 0 lo:Nat):Int)==0&&(1:Int)==1&&(cg items.size items.size hi-cg items.size 0 lo)==items.size)=true):=by
  intro q
  rw[Bool.and_eq_true,Bool.and_eq_true]at q
  have q1:((cg items.size 0 lo:Nat):Int)=0:=eq_of_beq q.1.1
  have q2:cg items.size items.size hi-cg items.size 0 lo=items.size:=eq_of_beq q.2
  exact hw ⟨by omega,by omega⟩
 show wpAny _ _ (if(((cg items.size 0 lo:Nat):Int)==0&&(1:Int)==1&&(cg items.size items.size hi-cg items.size 0 lo)==items.size)=true then _ else _) _ _ s
 rw[if_neg hno,FN]
 first
  |exact wpAny_bind (m:=Builtin.Tuple.tupleExact _) (wpAny_newObj_type (wpAny_pure ⟨_,rfl,wpAny_pure h⟩) htake)
  |exact wpAny_bind (m:=Builtin.Tuple.tupleExact _) (wpAny_newObj_type (wpAny_bind (wpAny_pure (wpAny_pure ⟨_,rfl,wpAny_pure h⟩))) htake)
  |exact wpAny_bind (wpAny_bind (m:=Builtin.Tuple.tupleExact _) (wpAny_newObj_type (wpAny_pure (wpAny_pure ⟨_,rfl,wpAny_pure h⟩)) htake))
  |exact wpAny_bind (wpAny_bind (m:=Builtin.Tuple.tupleExact _) (wpAny_newObj_type (wpAny_pure ⟨_,rfl,wpAny_pure h⟩) htake))
end
end HT
namespace L2
open PySem PySem.Spec PyProof.Rows
noncomputable abbrev TO:=St→Hp→(Option Int→Hp→Prop)→Prop
noncomputable def PO(X:Cx)(e:Option Expr)(t:TO):Prop:=
 ∀(pins:List (Addr×Obj)) (s:Shared) (σ:St) (H:Hp) (Q:Option Int→Hp→Prop),Inv X pins σ H s→t σ H Q→
  wpAny (model X.prog X.w) X.A (evalPart e X.env) (fun u s'=>∃o H',Inv X pins σ H' s'∧IsPart u o∧Q o H') X.xe s
noncomputable def Hx:TO:=fun _ H Q=>Q none H
noncomputable def Mw(t:TE):TO:=fun σ H Q=>t σ H fun x H1=>∃i,x= .int i∧Q (some i) H1
section
variable {X:Cx}{e:Expr}{te:TE}{lo hi:Option Expr}{tl th:TO}{pos p2:Pos}
theorem HH:PO X none Hx:=by
 intro pins s σ H Q I h
 rw[evalPart_none]
 exact wpAny_pure ⟨none,H,I,.none,h⟩
theorem IK(h:PE X e te):PO X (some e) (Mw te):=by
 intro pins s σ H Q I hw
 rw[evalPart_some]
 refine bZ (h pins s σ H _ I hw) fun u s1 ⟨x,H1,I1,r1,q1⟩=>?_
 obtain⟨i,rfl,q⟩:=q1
 obtain⟨t,rfl⟩:=r1
 exact⟨some i,H1,I1,.int i t,q⟩
noncomputable def EO(X:Cx)(r:V→Option Int→Option Int→Hp→VK→Prop):Prop:=
 ∀(pins:List (Addr×Obj)) (s:Shared) (σ:St) (H:Hp) (x:V) (v vl vu:Value) (lo hi:Option Int) (sl:Addr) (Q:VK),Inv X pins σ H s→RelV x v→s.heap.IsSliceOf sl vl vu .none→IsPart vl lo→IsPart vu hi→r x lo hi H Q→
  ∃T id,typeLookup (.type T) "__getitem__"=pure (some (.builtin id))∧s.TypeIs v T∧wpAny (model X.prog X.w) X.A (getItem v (.ref sl)) (EP X pins σ Q) X.xe s
noncomputable def OT(r:V→Option Int→Option Int→Hp→VK→Prop)(te:TE)(tl th:TO):TE:=fun σ H Q=>te σ H fun x H1=>tl σ H1 fun l H2=>th σ H2 fun u H3=>r x l u H3 Q
theorem FG{r:V→Option Int→Option Int→Hp→VK→Prop}(hr:EO X r)(he:PE X e te)(hl:PO X lo tl)(hu:PO X hi th):PE X (.Subscript e (.Slice lo hi none p2) pos) (OT r te tl th):=by
 intro pins s σ H Q I h
 refine Subscript_ (bZ (he pins s σ H _ I h) fun v s1 ⟨x,H1,I1,r1,q1⟩=>?_)
 refine wpAny_Slice (bZ (hl pins s1 σ H1 _ I1 q1) fun vl s2 ⟨l,H2,I2,pl,q2⟩=>bZ (hu pins s2 σ H2 _ I2 q2) fun vu s3 ⟨u,H3,I3,pu,q3⟩=>?_)
 rw[evalPart_none]
 refine wpAny_pure ?_
 have I4:Inv X pins σ H3 {s3 with heap:=s3.heap.push {cls:= .type "slice",data:= .fields #[vl,vu,.none]}}:=I3.kept (t':=s3.toks) fun b ob q=>Heap.get?_push_of_some _ q
 obtain⟨T,id,hT,ht,hg⟩:=hr pins {s3 with heap:=s3.heap.push {cls:= .type "slice",data:= .fields #[vl,vu,.none]}} σ H3 x v vl vu l u s3.heap.objs.size Q I4 r1 (Heap.IsSliceOf.new ..) pl pu q3
 show wpAny (model X.prog X.w) X.A (subscriptTail e (.Slice lo hi none p2) v (.ref s3.heap.objs.size)) (EP X pins σ Q) X.xe {s3 with heap:=s3.heap.push {cls:= .type "slice",data:= .fields #[vl,vu,.none]}}
 exact tail_any (ops:=[.ref s3.heap.objs.size,v]) ht hT hg (by with_unfolding_all rfl)
noncomputable def pW(xs:List V)(lo hi:Option Int):List V:=(xs.drop (HT.cg xs.length 0 lo)).take (HT.cg xs.length xs.length hi-HT.cg xs.length 0 lo)
theorem uc(xs:List V)(lo hi:Option Int):(pW xs lo hi).length≤xs.length:=by
 unfold pW
 rw[List.length_take,List.length_drop]
 omega
noncomputable def Od(K:PySem.W.Frag):V→Option Int→Option Int→Hp→VK→Prop:=fun x lo hi H Q=>∃a xs,x= .ref a∧iX K H a xs∧
 ¬(HT.cg xs.length 0 lo=0∧HT.cg xs.length xs.length hi=xs.length)∧∀p,H p=none→Q (.ref p) (upd H p (.tup (pW xs lo hi)))
theorem LU:EO X (Od X.K):=by
 intro pins s σ H x v vl vu lo hi sl Q I rx hs pl pu h
 obtain⟨a,xs,rfl,hx,hw,q⟩:=h
 cases rx
 obtain⟨au,r,ht,hz⟩:=I.tuple hx
 have hlen:au.toArray.size=xs.length:=by rw[List.size_toArray];exact r.length.symm
 refine⟨"tuple",_,PyProof.Rows.slot_tuple_getitem.lookup,ht.typeIs,?_⟩
 refine HT.tE ht hs pl pu (by rw[hlen];exact hw) ?_ (by rw[hlen];exact hz)
 rw[hlen]
 refine⟨.ref s.heap.objs.size,_,I.laid (t':=s.toks) (o:= .tup (pW xs lo hi)) (fun b ob q=>Heap.get?_push_of_some _ q) (Nat.le_refl _) ?_,rfl,q _ (I.aI.fresh (Nat.le_refl _))⟩
 exact⟨Nat.le_trans (uc xs lo hi) hz,_,(r.drop (HT.cg xs.length 0 lo)).take (HT.cg xs.length xs.length hi-HT.cg xs.length 0 lo),IsTup.new _ _⟩
noncomputable def Nr(K:PySem.W.Frag):R2:=fun x y H Q=>∃a b xs ys,x= .ref a∧y= .ref b∧iX K H a xs∧iX K H b ys∧xs≠ []∧xs.length+ys.length≤sizeLine∧
 (ys=[]→Q (.ref a) H)∧(ys≠ []→∀p,H p=none→Q (.ref p) (upd H p (.tup (xs++ys))))
theorem Vals.sX{xs:List V}{us:List Value}(r:Vals xs us):us=[]↔xs=[]:=by
 cases r with
 |nil=>simp
 |cons _ _=>simp
theorem HC:bR X (binaryOp .Add) (Nr X.K):=by
 intro pins s σ H x y v u Q I rx ry h
 obtain⟨a,b,xs,ys,rfl,rfl,ha,hb,hx,hz,q1,q2⟩:=h
 cases rx
 cases ry
 obtain⟨au,r1,p1,_⟩:=I.tuple ha
 obtain⟨its2,r2,p2,_⟩:=I.tuple hb
 refine HT.IB p1 p2 (fun z=>hx (r1.sX.mp z)) (fun z=>⟨.ref a,H,I,rfl,q1 (r2.sX.mp z)⟩) (fun z=>?_) (by rw[←r1.length,←r2.length];exact hz)
 refine⟨.ref s.heap.objs.size,_,I.laid (t':=s.toks) (o:= .tup (xs++ys)) (fun b ob q=>Heap.get?_push_of_some _ q) (Nat.le_refl _) ?_,rfl,q2 (fun w=>z (r2.sX.mpr w)) _ (I.aI.fresh (Nat.le_refl _))⟩
 exact⟨by rw[List.length_append];exact hz,_,r1.append r2,IsTup.new _ _⟩
end
end L2
namespace L2
open PySem PySem.Spec PyProof.Rows
noncomputable def jA(n:Nat)(i:Int):Option Nat:=if 0≤i then(if i<n then some i.toNat else none)else if-(n:Int)≤i then some (i+n).toNat else none
noncomputable def dQ{α:Type}(xs:List α)(i:Int):Option α:=(jA xs.length i).bind fun j=>xs[j]?
theorem wB{n:Nat}{i:Int}{j:Nat}(h:jA n i=some j):seqIndex? i n=some j∧j<n∧ -(n:Int)≤i∧i<n:=by
 unfold jA at h
 by_cases h0:0≤i
 · rw[if_pos h0]at h
   by_cases h1:i<n
   · rw[if_pos h1]at h
     have e:i.toNat=j:=Option.some.inj h
     exact⟨by rw[seqIndex_of h0 h1,e],by omega,by omega,h1⟩
   · rw[if_neg h1]at h;cases h
 · rw[if_neg h0]at h
   by_cases h1: -(n:Int)≤i
   · rw[if_pos h1]at h
     have e:(i+n).toNat=j:=Option.some.inj h
     exact⟨by rw[seqIndex_neg (by omega) h1,e],by omega,h1,by omega⟩
   · rw[if_neg h1]at h;cases h
theorem we{α:Type}{xs:List α}{i:Int}{v:α}(h:dQ xs i=some v):∃j,seqIndex? i xs.length=some j∧xs[j]?=some v∧j<xs.length∧ -(xs.length:Int)≤i∧i<xs.length:=by
 unfold dQ at h
 cases e:jA xs.length i with
 |none=>rw[e]at h;cases h
 |some j=>
  rw[e]at h
  obtain⟨h1,h2,h3,h4⟩:=wB e
  exact⟨j,h1,h,h2,h3,h4⟩
theorem gz{α:Type}{xs:List α}{j:Nat}{v:α}(h:xs[j]?=some v):dQ xs (j:Int)=some v:=by
 have hj:j<xs.length:=(List.getElem?_eq_some_iff.mp h).1
 have e:jA xs.length (j:Int)=some j:=by
  unfold jA
  rw[if_pos (by omega),if_pos (by omega)];simp
 unfold dQ;rw[e];exact h
noncomputable def sV(b:Expr):Prop:=∀o i,subscripted b false o i=operate [o,i] (getItem o i)
noncomputable def Hc(X:Cx)(r:R2):Prop:=
 ∀(value slice:Expr) (pins:List (Addr×Obj)) (s:Shared) (σ:St) (H:Hp) (x y:V) (v u:Value) (Q:VK),Inv X pins σ H s→RelV x v→RelV y u→r x y H Q→
  subscripted slice false v u=operate [v,u] (getItem v u)→wpAny (model X.prog X.w) X.A (subscriptTail value slice v u) (EP X pins σ Q) X.xe s
noncomputable def K5(X:Cx)(id:String)(r:V→List V→Hp→VK→Prop):Prop:=
 ∀(pins:List (Addr×Obj)) (s:Shared) (σ:St) (H:Hp) (x:V) (xs:List V) (v:Value) (us:List Value) (Q:VK),Inv X pins σ H s→RelV x v→Vals xs us→r x xs H Q→
  wpAny (model X.prog X.w) X.A (call (.builtin id) (v::us)) (EP X pins σ Q) X.xe s
section
variable {X:Cx}{a b:Expr}{ta tb:TE}{pos:Pos}
theorem Ni{r:R2}(hr:Hc X r)(ha:PE X a ta)(hb:PE X b tb)(hs:sV b):PE X (.Subscript a b pos) (Eg r ta tb):=by
 intro pins s σ H Q I h
 exact Subscript_ (Fh ha hb I h fun v u s2 x y H2 I2 rx ry q=>hr a b pins s2 σ H2 x y v u Q I2 rx ry q (hs _ _))
noncomputable def Ol(K:PySem.W.Frag):R2:=fun x y H Q=>∃p xs i v,x= .ref p∧y= .int i∧lY K H p xs∧dQ xs i=some v∧Q v H
noncomputable def OF(K:PySem.W.Frag):R2:=fun x y H Q=>∃p xs i v,x= .ref p∧y= .int i∧iX K H p xs∧dQ xs i=some v∧Q v H
theorem BJ:Hc X (Ol X.K):=by
 intro value slice pins s σ H x y v u Q I rx ry h hs
 obtain⟨p,xs,i,z,rfl,rfl,hq,he,q⟩:=h
 cases rx
 obtain⟨t,rfl⟩:=ry
 obtain⟨au,r,pl,hz⟩:=I.list hq
 obtain⟨j,h1,h2,h3,h4,h5⟩:=we he
 obtain⟨w,ew,rw'⟩:=r.get h2
 have hl:=r.length
 have hn:=rL
 have fin:EP X pins σ Q w s:=⟨z,H,I,rw',q⟩
 by_cases h0:0≤i
 · have hj:i.toNat=j:=by
    rw[seqIndex_of h0 h5]at h1
    exact Option.some.inj h1
   exact item_listR pl.isList h0 (by omega) (by rw[hj];simpa using ew) fin hs
 · have hj:(i+(au.toArray.size:Int)).toNat=j:=by
    rw[seqIndex_neg (by omega) h4]at h1
    rw[List.size_toArray,←hl]
    exact Option.some.inj h1
   exact subscriptTail_builtinR (x:=w) pl.isList.typeIs slot_list_getitem.lookup
    (wpAny_getItem_list_neg (Q:=fun r s'=>r=w∧EP X pins σ Q r s') pl.isList (by omega) (by rw[List.size_toArray]<;>omega) (by omega) (by rw[hj];simpa using ew) ⟨rfl,fin⟩) hs
theorem KY:Hc X (OF X.K):=by
 intro value slice pins s σ H x y v u Q I rx ry h hs
 obtain⟨p,xs,i,z,rfl,rfl,hq,he,q⟩:=h
 cases rx
 obtain⟨t,rfl⟩:=ry
 obtain⟨au,r,pl,hz⟩:=I.tuple hq
 obtain⟨j,h1,h2,h3,h4,h5⟩:=we he
 obtain⟨w,ew,rw'⟩:=r.get h2
 have hl:=r.length
 have hn:=rL
 have fin:EP X pins σ Q w s:=⟨z,H,I,rw',q⟩
 exact subscriptTail_builtinR (x:=w) pl.typeIs slot_tuple_getitem.lookup
  (getItem_tuple (j:=j) (Q:=fun r s'=>r=w∧EP X pins σ Q r s') pl (by omega) (by omega) (by rw[List.size_toArray,←hl];exact h1) (by simpa using ew) ⟨rfl,fin⟩) hs
theorem C4(au:List Value)(n j:Nat)(u:Value):Obj.mapSeq (·.setIfInBounds j u) {cls:= .type "list",data:= .seq au.toArray n}= {cls:= .type "list",data:= .seq (au.set j u).toArray n}:=by
 simp[Obj.mapSeq]
theorem Inv.lst{pins:List (Addr×Obj)}{σ:St}{H:Hp}{s:Shared}{p:Addr}{xs:List V}(I:Inv X pins σ H s)(h:H p=some (.lst xs)):
 ∃(au:List Value) (n:Nat),Vals xs au∧s.heap.get? p=some {cls:= .type "list",data:= .seq au.toArray n}∧xs.length≤sizeLine:=by
 obtain⟨z,au,n,r,e⟩:=I.aI p _ h
 exact⟨au,n,r,e,z⟩
theorem Inv.Kk{pins:List (Addr×Obj)}{σ:St}{H:Hp}{s:Shared}{p:Addr}{xs ys:List V}{au its':List Value}{n n':Nat}{f:Obj→Obj}(I:Inv X pins σ H s)(h:H p=some (.lst xs))
 (ho:s.heap.get? p=some {cls:= .type "list",data:= .seq au.toArray n}) (hf:f {cls:= .type "list",data:= .seq au.toArray n}= {cls:= .type "list",data:= .seq its'.toArray n'}) (r:Vals ys its') (hz:ys.length≤sizeLine) (t:Nat):
 Inv X pins σ (upd H p (.lst ys)) {s with heap:=s.heap.update p f,toks:=t}:=by
 have e:(s.heap.update p f).get? p=some {cls:= .type "list",data:= .seq its'.toArray n'}:=by
  rw[Heap.get?_update_self f ho (by rw[hf]<;>rfl),hf]
 refine I.write (x:=p) (e:=p) (by rw[h];trivial) (.inl rfl) (fun b u hb q=>(Heap.get?_update_other _ _ (Ne.symm hb)).trans q) ⟨_,e⟩ ?_
 exact⟨hz,its',n',r,e⟩
noncomputable def sO:V→V→V→Hp→(Hp→Prop)→Prop:=fun o i v H Q=>∃p xs k j,o= .ref p∧i= .int k∧H p=some (.lst xs)∧jA xs.length k=some j∧Q (upd H p (.lst (xs.set j v)))
theorem set_list:KH X sO:=by
 intro pins s σ H o i v ov iv u Q I ro ri rv h
 obtain⟨p,xs,k,j,rfl,rfl,hp,hj,q⟩:=h
 cases ro
 obtain⟨t,rfl⟩:=ri
 obtain⟨au,n,r,ho,hz⟩:=I.lst hp
 obtain⟨h1,h2,h3,h4⟩:=wB hj
 have hl:=r.length
 have hn:=rL
 have I':Inv X pins σ (upd H p (.lst (xs.set j v))) {s with heap:=s.heap.update p (Obj.mapSeq (·.setIfInBounds j u))}:=
  I.Kk hp ho (C4 au n j u) (r.set rv j) (by rw[List.length_set];exact hz) s.toks
 by_cases h0:0≤k
 · have hk:k.toNat=j:=by
    rw[seqIndex_of h0 h4]at h1
    exact Option.some.inj h1
   exact PySem.W.ki_setAt ho h0 (by omega) (by rw[List.size_toArray,←hl];exact h4) (by rw[hk];exact⟨_,I',q⟩)
 · have hk:(k+(au.toArray.size:Int)).toNat=j:=by
    rw[seqIndex_neg (by omega) h3]at h1
    rw[List.size_toArray,←hl]
    exact Option.some.inj h1
   exact PySem.W.ki_setBack ho (by omega) (by rw[List.size_toArray,←hl];exact h3) (by omega) (by rw[hk];exact⟨_,I',q⟩)
theorem Au(lo hi:Option Int)(n:Nat):(sliceBounds lo hi none n).1=((HT.cg n 0 lo:Nat):Int)∧(sliceBounds lo hi none n).2.1=((HT.cg n n hi:Nat):Int)∧(sliceBounds lo hi none n).2.2=1:=by
 refine⟨?_,?_,rfl⟩
 · cases lo with
   |none=>simp[sliceBounds,HT.cg]
   |some i=>
    simp only[sliceBounds,HT.cg,Option.getD_none,show(1:Int)>0 by decide,if_true]
    by_cases h:i<0
    · simp only[h,if_true]<;>omega
    · simp only[h,if_false]<;>omega
 · cases hi with
   |none=>simp[sliceBounds,HT.cg]
   |some i=>
    simp only[sliceBounds,HT.cg,Option.getD_none,show(1:Int)>0 by decide,if_true]
    by_cases h:i<0
    · simp only[h,if_true]<;>omega
    · simp only[h,if_false]<;>omega
theorem yh(au:List Value)(lo hi:Option Int):slicePick au.toArray lo hi none=((au.drop (HT.cg au.length 0 lo)).take (HT.cg au.length au.length hi-HT.cg au.length 0 lo)).toArray:=by
 obtain⟨h1,h2,h3⟩:=Au lo hi au.toArray.size
 unfold slicePick
 rw[h1,h2,h3]
 simp only[sliceRange_one,pick_run,List.size_toArray]<;>rfl
noncomputable def Oj(K:PySem.W.Frag):V→Option Int→Option Int→Hp→VK→Prop:=fun x lo hi H Q=>∃a xs,x= .ref a∧lY K H a xs∧∀p,H p=none→Q (.ref p) (upd H p (.lst (pW xs lo hi)))
theorem Bw:EO X (Oj X.K):=by
 intro pins s σ H x v vl vu lo hi sl Q I rx hs pl pu h
 obtain⟨a,xs,rfl,hx,q⟩:=h
 cases rx
 obtain⟨au,r,ht,hz⟩:=I.list hx
 have hlen:=r.length
 refine⟨"list",_,slot_list_getitem.lookup,ht.isList.typeIs,?_⟩
 refine wpAny_getItem_list_slice ht.isList hs pl pu .none (by simp) ?_ (by rw[List.size_toArray]<;>omega)
 rw[yh,←hlen]
 refine⟨.ref s.heap.objs.size,_,I.laid (t':=s.toks) (o:= .lst (pW xs lo hi)) (fun b ob q=>Heap.get?_push_of_some _ q) (Nat.le_refl _) ?_,rfl,q _ (I.aI.fresh (Nat.le_refl _))⟩
 exact⟨Nat.le_trans (uc xs lo hi) hz,_,0,(r.drop (HT.cg xs.length 0 lo)).take (HT.cg xs.length xs.length hi-HT.cg xs.length 0 lo),Heap.get?_push_size _ rfl⟩
theorem Aq:cp X (.builtin "len") (fun xs H Q=>∃p ys,xs=[.ref p]∧(lY X.K H p ys∨iX X.K H p ys)∧Q (.int ys.length) H):=by
 intro pins s σ H xs us Q I r h
 obtain⟨p,ys,rfl,hq,q⟩:=h
 obtain⟨u,rfl,rx⟩:=vals1 r
 cases rx
 have hn:=rL
 rcases hq with hq|hq
 · obtain⟨au,r',pl,hz⟩:=I.list hq
   have hlen:=r'.length
   exact Calls.call_len_list pl.isList (by simp only[List.size_toArray]<;>omega) ⟨.int ys.length,H,I.tok _,⟨s.toks+1,by rw[List.size_toArray,hlen]⟩,q⟩
 · obtain⟨au,r',pl,hz⟩:=I.tuple hq
   have hlen:=r'.length
   exact len_tuple pl (by simp only[List.size_toArray]<;>omega) ⟨.int ys.length,H,I.tok _,⟨s.toks+1,by rw[List.size_toArray,hlen]⟩,q⟩
theorem yL:cp X (.builtin "len") (fun xs H Q=>∃z,xs=[.str z]∧z.length≤sizeLine∧Q (.int z.length) H):=by
 intro pins s σ H xs us Q I r h
 obtain⟨z,rfl,hz,q⟩:=h
 obtain⟨u,rfl,t,rfl⟩:=vals1 r
 have hn:=rL
 exact len_str (by omega) ⟨.int z.length,H,I.tok _,⟨_,rfl⟩,q⟩
theorem rE:cp X (.type "list") (fun xs H Q=>∃p ys,xs=[.ref p]∧(lY X.K H p ys∨iX X.K H p ys)∧∀l,H l=none→Q (.ref l) (upd H l (.lst ys))):=by
 intro pins s σ H xs us Q I r h
 obtain⟨p,ys,rfl,hq,q⟩:=h
 obtain⟨u,rfl,rx⟩:=vals1 r
 cases rx
 have fin:∀(au:List Value),Vals ys au→ys.length≤sizeLine→∀(h':Heap) (c':Nat),(∀b o',s.heap.get? b=some o'→h'.get? b=some o')→
  h'.get? s.heap.objs.size=some {cls:= .type "list",dict:=none,data:= .seq au.toArray c',slots:= #[]}→EP X pins σ Q (.ref s.heap.objs.size) {s with heap:=h'}:=fun au r' hz h' c' kp e=>
  ⟨.ref s.heap.objs.size,_,I.laid (t':=s.toks) kp (Nat.le_refl _) (show dj X.prog X.w _ h' _ (.lst ys)from⟨hz,au,c',r',e⟩),rfl,q _ (I.aI.fresh (Nat.le_refl _))⟩
 rcases hq with hq|hq
 · obtain⟨au,r',pl,hz⟩:=I.list hq
   have hlen:=r'.length
   obtain⟨o,ho,hc,n,hd⟩:=pl.isList
   exact call_list_seq p (.inl rfl) ho hc hd (fun h' c' kp e=>fin au r' hz h' c' kp e) (by simp only[List.size_toArray]<;>omega)
 · obtain⟨au,r',pl,hz⟩:=I.tuple hq
   have hlen:=r'.length
   obtain⟨o,ho,hc,n,hd⟩:=pl
   exact call_list_seq p (.inr rfl) ho hc hd (fun h' c' kp e=>fin au r' hz h' c' kp e) (by simp only[List.size_toArray]<;>omega)
theorem x6:cp X (.type "tuple") (fun xs H Q=>∃p ys,xs=[.ref p]∧((lY X.K H p ys∧∀l,H l=none→Q (.ref l) (upd H l (.tup ys)))∨(iX X.K H p ys∧Q (.ref p) H))):=by
 intro pins s σ H xs us Q I r h
 obtain⟨p,ys,rfl,h⟩:=h
 obtain⟨u,rfl,rx⟩:=vals1 r
 cases rx
 rcases h with⟨hq,q⟩|⟨hq,q⟩
 · obtain⟨au,r',pl,hz⟩:=I.list hq
   have hlen:=r'.length
   refine call_tuple_list pl.isList (fun h' kp=>?_) (by simp only[List.size_toArray]<;>omega)
   have I1:Inv X pins σ H {s with heap:=h'}:=I.kept (t':=s.toks) kp
   have I2:Inv X pins σ (upd H h'.objs.size (.tup ys)) {s with heap:=h'.push {cls:= .type "tuple",data:= .seq au.toArray}}:=
    I1.laid (t':=s.toks) (fun b o e=>Heap.get?_push_of_some _ e) (Nat.le_refl _) (show dj X.prog X.w _ _ _ (.tup ys)from⟨hz,au,r',IsTup.new _ _⟩)
   exact⟨.ref h'.objs.size,_,I2,rfl,q _ (I1.aI.fresh (Nat.le_refl _))⟩
 · obtain⟨au,r',pl,hz⟩:=I.tuple hq
   exact call_tuple_same pl ⟨.ref p,H,I,rfl,q⟩
noncomputable def Ny(K:PySem.W.Frag)(T:String)(x:V)(H:Hp):Prop:=match x with
 | .str _=>T="str"
 | .int _=>T="int"
 | .ref p=>(T="list"∧∃xs,lY K H p xs)∨(T="tuple"∧∃o,K.lookup p=some o∧o.cls= .type "tuple"∧o.dict=none)∨
    (T="dict"∧((∃kvs,H p=some (.dK kvs))∨∃kvs,H p=some (.dT kvs)))∨(T="set"∧∃S n,H p=some (.set S n))
 |_=>False
theorem Ju{pins:List (Addr×Obj)}{σ:St}{H:Hp}{s:Shared}{T:String}{x:V}{v:Value}(I:Inv X pins σ H s)(r:RelV x v)(ty:Ny X.K T x H):
 s.TypeIs v T∧∀a,v= .ref a→∃ob,s.heap.get? a=some ob∧ob.dict=none:=by
 cases x with
 |str z=>
  obtain⟨t,rfl⟩:=r
  cases (show T="str" from ty)
  exact⟨typeIs_str s z t,fun _ e=>nomatch e⟩
 |int i=>
  obtain⟨t,rfl⟩:=r
  cases (show T="int" from ty)
  exact⟨typeIs_int s i t,fun _ e=>nomatch e⟩
 |ref p=>
  cases r
  rcases ty with⟨rfl,xs,hq⟩|⟨rfl,o,hk,hc,hd⟩|⟨rfl,hk⟩|⟨rfl,S,n,hk⟩
  · obtain⟨au,_,pl,_⟩:=I.list hq
    refine⟨pl.isList.typeIs,fun a e=>?_⟩
    cases e
    obtain⟨o,n,e,c,hd,_⟩:=pl
    exact⟨o,e,hd⟩
  · refine⟨⟨o,I.gY p o hk,hc⟩,fun a e=>?_⟩
    cases e
    exact⟨o,I.gY _ o hk,hd⟩
  · have z:∃o,s.heap.get? p=some o∧o.ExactDict:=by
     rcases hk with⟨kvs,hk⟩|⟨kvs,hk⟩
     · obtain⟨_,_,_,_,o,_,_,e,ex,_⟩:=I.aI p _ hk
       exact⟨o,e,ex⟩
     · obtain⟨_,_,_,_,o,_,_,e,ex,_⟩:=I.aI p _ hk
       exact⟨o,e,ex⟩
    obtain⟨o,e,ex⟩:=z
    refine⟨⟨o,e,ex.1⟩,fun a e2=>?_⟩
    cases e2
    exact⟨o,e,ex.2.1⟩
  · obtain⟨o,_,_,_,e,ex,_⟩:=I.aI p _ hk
    refine⟨⟨o,e,ex.1⟩,fun a e2=>?_⟩
    cases e2
    exact⟨o,e,ex.2.1⟩
 |_=>exact False.elim ty
noncomputable def K8(K:PySem.W.Frag)(T:String)(r:V→List V→Hp→VK→Prop)(to:TE)(t:TA):TE:=fun σ H Q=>to σ H fun x H1=>Ny K T x H1∧t σ H1 fun xs H2=>r x xs H2 Q
variable {o e:Expr}{es:List Expr}{to:TE}{t:TA}{name:Str}{apos cpos:Pos}{T id:String}{r:V→List V→Hp→VK→Prop}
theorem GW(pa:PlainAttrs T)(slot:Slot T name id)(hty:typeOf (.builtin id)=pure (.type "method_descriptor"))(hm:K5 X id r)(ho:PE X o to)(ha:PA X (e::es) t)
 (hbase:attributeBase o name X.env (eval o X.env)=eval o X.env:=by rfl)
 (hfew:((backTo cpos (starEach (e::es) X.env)).all (fun x=> !x.1)&&(backToKw cpos (keywordEach [] X.env)).all (fun x=>x.1.isSome)
   &&decide ((e::es).length+([]:List Keyword).length+(if([]:List Keyword).isEmpty then 0 else 1)<30))=true:=by rfl)
 (hline:(apos.endLine==cpos.line)=true:=by rfl) (hs:starEach (e::es) X.env=(false,eval e X.env)::starEach es X.env:=by rfl) (hplain:(backTo cpos (starEach es X.env)).any (·.1)=false:=by rfl):
 PE X (.Call (.Attribute o name apos) (e::es) [] cpos) (K8 X.K T r to t):=by
 intro pins s σ H Q I h
 refine wpAny_Call_method_late hbase hfew hline rfl (bZ (ho pins s σ H _ I h) fun v s1 ⟨x,H1,I1,r1,ty,q1⟩=>?_)
 obtain⟨h1,h2⟩:=Ju I1 r1 ty
 refine⟨T,id,pa,slot,hty,h1,h2,?_⟩
 have hA:=ha cpos pins s1 σ H1 _ I1 q1
 rw[hs]at hA⊢
 refine Calls.callWith_builtin (by show(false||(backTo cpos (starEach es X.env)).any (·.1))=false;rw[hplain]<;>rfl) (Calls.evalArgs_plain ?_)
 exact bZ hA fun us s2 ⟨vs,H2,I2,r2,q2⟩=>hm pins s2 σ H2 x vs v us Q I2 r1 r2 q2
/-xs.append(e),list.index on a module's tuple .. are K5 facts of 06m-/
end
end L2
namespace L2
open PySem PySem.Spec PyProof.Rows
noncomputable def LN(X:Cx)(id:String)(r:V→List V→Hp→VK→Prop):Prop:=
 ∀(pins:List (Addr×Obj)) (s:Shared) (σ:St) (H:Hp) (x:V) (xs:List V) (v:Value) (us:List Value) (Q:VK),Inv X pins σ H s→RelV x v→Vals xs us→r x xs H Q→
  wpAny (model X.prog X.w) X.A (call (.builtin id) (v::us)) (EP X pins σ Q) X.xe s
theorem Vals.one:∀ {x:V} {us:List Value},Vals [x] us→∃u,us=[u]∧RelV x u
 |_,_,.cons r .nil=>⟨_,rfl,r⟩
theorem Vals.eraseIdx:∀ {xs:List V} {us:List Value} (i:Nat),Vals xs us→Vals (xs.eraseIdx i) (us.eraseIdx i)
 |_,_,_,.nil=> .nil
 |_,_,0,.cons _ t=>t
 |_,_,i+1,.cons r t=> .cons r (Vals.eraseIdx i t)
theorem Vals.rep{xs:List V}{us:List Value}(h:Vals xs us):∀k:Nat,Vals (List.replicate k xs).flatten (List.replicate k us).flatten
 |0=> .nil
 |k+1=>by
  rw[List.replicate_succ,List.replicate_succ,List.flatten_cons,List.flatten_cons]
  exact Vals.append h (Vals.rep h k)
theorem wZ{α:Type}:∀(l:List α) (i:Nat),(l.eraseIdx i).length≤l.length
 | [],_=>Nat.le_refl _
 |_::_,0=>Nat.le_succ _
 |_::r,i+1=>Nat.succ_le_succ (wZ r i)
theorem foldl_rep(au:List Value):∀(k:Nat) (acc:List Value),
 List.foldl (fun x1 x2=>x1++x2) acc.toArray (List.replicate k au.toArray)=(acc++(List.replicate k au).flatten).toArray
 |0,acc=>by simp
 |k+1,acc=>by
  have e:acc.toArray++au.toArray=(acc++au).toArray:=by simp
  have e2:(acc++au)++(List.replicate k au).flatten=acc++(List.replicate (k+1) au).flatten:=by
   rw[List.replicate_succ,List.flatten_cons,List.append_assoc]
  rw[←e2,←foldl_rep au k (acc++au),←e,List.replicate_succ,List.foldl_cons]
section
variable {X:Cx}{pins:List (Addr×Obj)}{σ:St}{H:Hp}{s:Shared}{l b:Addr}{xs ys zs:List V}
theorem Inv.F6{au its':List Value}{n:Nat}{f:Array Value→Array Value}{t':Nat}(I:Inv X pins σ H s)(hH:H l=some (.lst xs))
 (e:s.heap.get? l=some {cls:= .type "list",data:= .seq au.toArray n}) (hf:f au.toArray=its'.toArray) (hv:Vals ys its') (hz:ys.length≤sizeLine):
 Inv X pins σ (upd H l (.lst ys)) {s with heap:=s.heap.update l (Obj.mapSeq f),toks:=t'}:=by
 have q:=PySem.IsL.update e f
 rw[hf]at q
 refine I.write (x:=l) (e:=l) (by rw[hH];exact trivial) (.inl rfl) (fun b' u hb hu=>(Heap.get?_update_other s.heap (Obj.mapSeq f) (Ne.symm hb)).trans hu) ⟨_,q⟩ ?_
 exact⟨hz,its',_,hv,q⟩
theorem Inv.Fy{au:List Value}{t':Nat}(I:Inv X pins σ H s)(hv:Vals ys au)(hz:ys.length≤sizeLine):
 Inv X pins σ (upd H s.heap.objs.size (.lst ys)) {s with heap:=s.heap.push {cls:= .type "list",data:= .seq au.toArray},toks:=t'}:=
 I.laid (fun _ _ q=>Heap.get?_push_of_some _ q) (Nat.le_refl _) ⟨hz,au,0,hv,Heap.get?_push_size _ rfl⟩
theorem Inv.fresh(I:Inv X pins σ H s):H s.heap.objs.size=none:=I.aI.fresh (Nat.le_refl _)
theorem Inv.F0(I:Inv X pins σ H s)(hH:H l=some (.lst xs)):xs.length≤sizeLine∧∃(au:List Value) (n:Nat),Vals xs au∧xs.length=au.length∧s.heap.get? l=some {cls:= .type "list",data:= .seq au.toArray n}:=by
 obtain⟨z,au,n,r,e⟩:=I.aI l _ hH
 exact⟨z,au,n,r,r.length,e⟩
theorem Gg{n:Nat}(h:n≤sizeLine):Builtin.List.listTooLong n=false:=by
 unfold Builtin.List.listTooLong
 exact decide_eq_false (by omega)
end
section
variable {X:Cx}
noncomputable def Ba:V→List V→Hp→VK→Prop:=fun x vs H Q=>∃l xs y,x= .ref l∧vs=[y]∧H l=some (.lst xs)∧xs.length<sizeLine∧Q .aA (upd H l (.lst (xs++[y])))
theorem xq:LN X "list.append" Ba:=by
 intro pins s σ H x vs v us Q I rx rv h
 obtain⟨l,xs,y,rfl,rfl,hH,hz,q⟩:=h
 cases rx
 obtain⟨u,rfl,ru⟩:=rv.one
 obtain⟨z,au,n,r,hl,e⟩:=I.F0 hH
 refine call_meets F.slot_list_append ⟨_,e,rfl⟩ F.entry_list_append (F.args_list_append_2 _ _) (PySem.list_append l au.toArray n u (by rw[List.size_toArray];omega)) ⟨e,?_⟩
 refine⟨.aA,_,I.F6 (its':=au++[u]) hH e (by simp) (r.append (.cons ru .nil)) ?_,rfl,q⟩
 rw[List.length_append,List.length_singleton]
 omega
noncomputable def Ej:V→List V→Hp→VK→Prop:=fun x vs H Q=>∃l xs i k y,x= .ref l∧vs=[.int i]∧H l=some (.lst xs)∧ -(2^63)≤i∧i<2^63∧seqIndex? i xs.length=some k∧xs[k]?=some y∧Q y (upd H l (.lst (xs.eraseIdx k)))
theorem E8:LN X "list.pop" Ej:=by
 intro pins s σ H x vs v us Q I rx rv h
 obtain⟨l,xs,i,k,y,rfl,rfl,hH,h1,h2,hk,hy,q⟩:=h
 cases rx
 obtain⟨u,rfl,ru⟩:=rv.one
 obtain⟨t,rfl⟩:=ru
 obtain⟨z,au,n,r,hl,e⟩:=I.F0 hH
 obtain⟨w,hw,rw'⟩:=r.get hy
 refine call_meets F.slot_list_pop ⟨_,e,rfl⟩ F.entry_list_pop (F.args_list_pop_2 _ _)
  (MeetsSeq.list_pop_at l au.toArray n i t k w (fitsIndex_both h1 h2) (by rw[List.size_toArray,←hl];exact hk) (by rw[←Array.getElem?_toList];exact hw) (by rw[List.size_toArray];omega)) ⟨e,?_⟩
 refine⟨y,_,I.F6 (its':=au.eraseIdx k) hH e ?_ (r.eraseIdx k) ?_,rw',q⟩
 · show au.toArray.eraseIdxIfInBounds k=(au.eraseIdx k).toArray
   rw[List.eraseIdxIfInBounds_toArray]
 · have:=wZ xs k
   omega
theorem len_rep{α:Type}(xs:List α)(k:Nat):(List.replicate k xs).flatten.length=k*xs.length:=by
 induction k with
 |zero=>simp
 |succ k ih=>rw[List.replicate_succ,List.flatten_cons,List.length_append,ih,Nat.succ_mul,Nat.add_comm]
end
section
variable {prog:Program}{w:World}{A:Around}{E:Value→Shared→Prop}{s:Shared}
set_option maxRecDepth 100000 in
end
section
variable {X:Cx}
end
end L2
namespace Att
open PySem PySem.W PySem.Calls PyProof.Rows
theorem vK{P:Params}{h:Heap}:∀(ns:List Int) (vs:List Value),WellAll P h vs (ns.map WData.int)→IntsAre vs ns:=by
 intro ns
 induction ns with
 |nil=>
  intro vs w
  rw[List.map_nil]at w
  cases w
  exact .nil
 |cons n ns ih=>
  intro vs w
  rw[List.map_cons]at w
  cases w with
  |cons a b=>
   cases a
   exact .cons _ _ (ih _ b)
theorem Ee{l:OpenLaw}{n:Nat}(hn:l.most=some n){P:Params}{h:Heap}{args:List WData}{vals:List Value}
 (hpre:l.row.toRowW.claim.pre args=true) (hwl:WellAll P h vals args):
 ∃a vs ns,vals=[Value.ref a]∧args=[WData.list (ns.map WData.int)]∧h.get? a=some {cls:= .type "list",data:= .seq vs.toArray}∧IntsAre vs ns∧ns.length≤n:=by
 have hsh:WShape.hasAll [] args [.list .int]=true:=(pre_splitW hpre).1
 have hc:l.pre.holds [] {args:=args}=true:=(pre_splitW hpre).2
 obtain⟨d,r,rfl,h1,h2⟩:=hasAllW_cons hsh
 obtain rfl:=hasAllW_nil h2
 obtain⟨xs,rfl,h3⟩:=hasW_list h1
 obtain⟨ns,rfl⟩:=items_int h3
 have hlen:ns.length≤n:=by
  unfold OpenLaw.pre at hc
  have h4:(WTm.not (.lt (.lit (.int (n:Int))) (.len (.arg 0)))).holds [] {args:=[.list (ns.map .int)]}=true:=by
   have h4:=(holds_andW hc).1
   rw[hn]at h4
   exact h4
  have h5:=condW_of h4 (w_not (w_lt w_lit (w_len_list (w_arg rfl))))
  rw[List.length_map]at h5
  refine Nat.le_of_not_lt fun q=>?_
  have q':(n:Int)<((ns.length:Nat):Int):=by omega
  first
   |(rw[decide_eq_true q']at h5;exact absurd h5 (by decide))
   |(simp at h5;omega)
 cases hwl with
 |cons w1 w2=>
  cases w2
  cases w1 with
  |list ho hall=>exact⟨_,_,ns,rfl,rfl,ho,vK ns _ hall,hlen⟩
theorem Dq(l:OpenLaw)(args:List WData):l.row.toRowW.claim.post args (.bool true) args=true:=
 postW_of (r:=l.row.toRowW) (X:=(true==true))
  (show WShape.has [] (.bool true) .bool=true by first|rfl|decide|simp[WShape.has,WShape.arms,WShape.armsAll])
  (show(WTm.eq .res (.lit (.bool true))).value [] {args:=args,res:=some (.bool true),after:=args}=some (.bool (true==true))from w_eq_bool (w_res rfl) w_lit) rfl
theorem AN{l:OpenLaw}{n:Nat}{q:Program}{loose:List Str}{XP:(Str→Option Value)→Heap→Prop}{YP:World→Heap→Prop}{d:DefRec}
 (hn:l.most=some n) (hdf:d.params.defaults=[])
 (call:∀(w:World) (s₀ s₁:Shared) (mg mb:Str→Option Value) (fa:Addr) (o:Obj) (pm cd doc:Value) (a:Addr) (vs:List Value) (ns:List Int),
   Ground q loose [] XP w s₀ mg mb s₁.heap→YP w s₁.heap→
   s₁.heap.get? fa=some o→o.data= .func (docDef d.name d.params d.body d.scope pm cd doc)→s₁.heap.CodeRec cd d.name→mg d.name=some (.ref fa)→
   s₁.heap.get? a=some {cls:= .type "list",data:= .seq vs.toArray}→IntsAre vs ns→ns.length≤n→s₁.gens= #[]→
   codeAny (model l.prog w) callerA (.call (.ref fa) ⟨[.ref a],[]⟩) (fun r s'=>r= .ok (.ret (.bool true))∧OldK s₁.heap s'.heap∧s'.os=s₁.os∧AllBare s'.gens) s₁):
 WalkO q loose XP YP l.row.toRowW d [] (fun f vs=>PySem.call f vs):=by
 intro w s₀ s₁ mg mb G Y fa o pm cd doc dV kV ho hd hcd hD hmg hg args vals as hpre hlay hrd hwl hlo
 obtain rfl:dV= .none:=Dflts.none hD hdf
 obtain rfl:kV= .none:=Dflts.noKw hD
 obtain⟨a,vs,ns,rfl,rfl,hobj,hints,hlen⟩:=Ee hn hpre hwl
 refine enter_call (codeAny_mono (call w s₀ s₁ mg mb fa o pm cd doc a vs ns G Y ho (fd_plain hd) hcd hmg hobj hints hlen hg) fun r s' hq=>?_)
 obtain⟨rfl,h2,h3,h4⟩:=hq
 exact⟨.inl ⟨.bool true,.bool true,[],rfl,fun _=>rfl,.bool true,Dq l _,fun _=>⟨List.Pairwise.nil,fun _ hm=>(nomatch hm)⟩⟩,h2,h3,h4⟩
section
variable {prog:Program}{w:World}{A:Around}{E:Value→Shared→Prop}{s:Shared}{K:Frag}
end
end Att
namespace L2
open PySem PySem.Spec PyProof.Rows
end L2
/-THE LAST THEOREM (shape;LID,My.*are yours):
 My.Adr:a structure of the addresses that your layer names (classes,functions);My.Txt K t:a structure (Prop) of the equations over K;
 My.txt_mk:{K} {implicit addresses ..} (e1:nsIn K mainGlobals "law"=some (some (.ref f))) (e2:K.lookup f=some ⟨oc,od,.func (fnOf "law" "law" params body scope dV kV doc pm an cdv ct),sl⟩) (e3:codeIn K cdv "law"=true) .. :∃t,My.Txt K t
set_option maxRecDepth 100000 in
set_option maxHeartbeats 0 in
(the tactic k_is has no namespace:write k_is)-/
namespace L2
open PySem PySem.Spec PyProof.Rows
noncomputable def inClass(s:Stmt)(j:Nat):Stmt:=match s with
 | .ClassDef _ _ _ body _ _ _ _ _ _ _=>body.getD j (.Pass ⟨0,0,0,0⟩)
 |_=> .Pass ⟨0,0,0,0⟩
noncomputable def ka(s:Stmt):Arguments:=match s with
 | .FunctionDef _ a _ _ _ _ _ _ _ _=>a
 |_=>{posonlyargs:=[],args:=[],vararg:=none,kwonlyargs:=[],kw_defaults:=[],kwarg:=none,defaults:=[]}
noncomputable def gQ(s:Stmt):List Stmt:=match s with
 | .FunctionDef _ _ b _ _ _ _ _ _ _=>b
 |_=>[]
noncomputable def ag(s:Stmt):Scope:=match s with
 | .FunctionDef _ _ _ _ _ _ sc _ _ _=>sc
 |_=>{kind:= .function,names:=[],isGenerator:=false,isCoroutine:=false}
noncomputable abbrev cD:ud:=fun _ _ _ _ _ _=>False
noncomputable abbrev E0:XK:=fun _ _ _=>False
theorem CL{X:Cx}:Passes cD X E0:=fun _ _ _ _ _ _ _ h=>h.elim
structure nO(K:PySem.W.Frag)(x qual:Str)(st:Stmt)(f:Addr)(fd:FuncData):Prop where
 ex:∃(oc:Value) (od:Option Addr) (kV doc pm:Value) (an:Option Addr) (cdv ct:Value) (osl:Array (Option Value)),
  fd=PySem.W.fnOf x qual (ka st) (gQ st) (ag st) .none kV doc pm an cdv ct∧K.lookup f=some ⟨oc,od,.func fd,osl⟩∧PySem.W.codeIn K cdv qual=true
 kp:PySem.W.keepIn K (.ref f)=true
section
variable {P:Program}{w:World}{K:PySem.W.Frag}{mg:Str→Option Value}{base:Heap}
theorem nO.ok{x qual:Str}{st:Stmt}{f:Addr}{fd:FuncData}{N ps:List Str}{k:Nat}{sp:Sp}(F:nO K x qual st f fd)(S:aT N ps (ag st))(len:∀vs H Q E,sp vs H Q E→vs.length=ps.length)
 (hbody:∀(cdv:Value) (A:Around) (outer:List Env) (s:Shared) (H:Hp) (vs:List V) (Q:VK) (E:XK),cQ k (A.deeper (envOfC qual (ag st) s.heap.objs.size f cdv))→sp vs H Q E→
   ∃t,gT (qu cD P w K mg base N qual (ag st) f cdv A outer s H E).vD (gQ st) t∧t {nx:=fun _ H'=>Q .aA H',rt:=Q} (start N vs) H):bD P w K mg base cD (k+1) f fd ps sp:=by
 obtain⟨oc,od,kV,doc,pm,an,cdv,ct,osl,rfl,lk,hcd⟩:=F.ex
 refine GS lk hcd S len fun A outer s H vs Q E hr hsp=>?_
 obtain⟨t,h,q⟩:=hbody cdv A outer s H vs Q E hr hsp
 exact⟨t,h.vD,q⟩
theorem nO.binds{x qual:Str}{st:Stmt}{f:Addr}{fd:FuncData}{ps:List Str}(F:nO K x qual st f fd)
 (h:∀(kV doc pm:Value) (an:Option Addr) (cdv ct:Value) (us:List Value),us.length=ps.length→bindArgs (PySem.W.fnOf x qual (ka st) (gQ st) (ag st) .none kV doc pm an cdv ct) ⟨us,[]⟩=pure (ps.zip us)):Binds K fd ps []:=by
 obtain⟨oc,od,kV,doc,pm,an,cdv,ct,osl,rfl,lk,hcd⟩:=F.ex
 exact .all (h kV doc pm an cdv ct)
theorem Dp{x qual:Str}{st:Stmt}{f:Addr}{oc:Value}{od an:Option Addr}{osl:Array (Option Value)}{kV doc pm cdv ct:Value}(l:K.lookup f=some ⟨oc,od,.func (PySem.W.fnOf x qual (ka st) (gQ st) (ag st) .none kV doc pm an cdv ct),osl⟩)
 (c:PySem.W.codeIn K cdv qual=true) (k:PySem.W.keepIn K (.ref f)=true):nO K x qual st f (PySem.W.fnOf x qual (ka st) (gQ st) (ag st) .none kV doc pm an cdv ct):=⟨⟨oc,od,kV,doc,pm,an,cdv,ct,osl,rfl,l,c⟩,k⟩
end
section
variable {X:Cx}
end
theorem wb{A B:Prop}(h:B):if false=true then A else B:=by
 rw[if_neg Bool.false_ne_true]
 exact h
theorem dc{A B:Prop}(h:A):if true=true then A else B:=by
 rw[if_pos rfl]
 exact h
noncomputable def Gn(H H':Hp):Prop:=∀b o,H b=some o→H' b=some o
end L2
set_option maxHeartbeats 4000000
namespace Hd
open PySem PySem.W PySem.Calls PyProof.Rows
noncomputable def bt (P:Params):BT:=(.node (boot_o_0 P) (.node (boot_o_1 P) (.node (boot_o_3 P) (.node (boot_o_7 P) .nil .nil) .nil) (.node (boot_o_5 P) (.node (boot_o_9 P) .nil .nil) .nil)) (.node (boot_o_2 P) (.node (boot_o_4 P) (.node (boot_o_8 P) .nil .nil) .nil) (.node (boot_o_6 P) (.node (boot_o_10 P) .nil .nil) .nil)))
theorem KD(P:Params):absHeap (bt P) 11 (boot_heap P).life=boot_heap P:=by kernel_rfl
noncomputable def run (p:Program) (w:World) (n:Nat) (ann:Option Value):Nat→SharedT→Thread→Option SharedT
 |0,_,_=>none
 |k+1,s,t=>match through t with
  |true=>some s
  |false=>match Fast.tw6613529449190102663 n ann t with
   |false=>none
   |true=>match Fast.tw10156331382660048174 (Fast.tw11892475500146522536 Fast.tw14364793385576792824) p w s t with
    |some (s',t')=>run p w n ann k s' t'
    |none=>none
theorem Dx{p:Program}{w:World}{n:Nat}{ann:Option Value}:∀ {k:Nat} {s s':SharedT} {t:Thread},run p w n ann k s t=some s'→topRun treeTable p w n ann k s.abs t=some s'.abs
 |0,_,_,_,h=>by cases h
 |k+1,s,s',t,h=>by
  unfold run at h
  unfold topRun
  cases he:through t with
  |true=>rw[he]at h;cases h;rfl
  |false=>
   rw[he]at h
   rw[←Fast.te6613529449190102663,←Fast.te10156331382660048174,←Fast.te11892475500146522536,←Fast.te14364793385576792824]at h
   cases hk:stepOk n ann t with
   |false=>simp only[hk]at h;cases h
   |true=>
    simp only[hk]at h
    cases hs:stepT (denote treeTable) p w s t with
    |none=>rw[hs]at h;cases h
    |some r=>obtain⟨s2,t2⟩:=r;rw[hs]at h;rw[stepT_spec hs];exact Dx h
noncomputable def b0 (w:World) (os:OsState):SharedT:=⟨bt w.params,11,(boot_heap w.params).life,⟨[]⟩,boot_drawn,boot_toks,os⟩
theorem Jx(w:World)(os:OsState):(b0 w os).abs=⟨boot_heap w.params,⟨[]⟩,boot_drawn,boot_toks,os⟩:=by
 unfold b0 SharedT.abs
 dsimp only
 rw[KD]
theorem left{p q:Program}{loose:List Str}{α:Type}{Yf:Shared→α}{Ya:World→α}{N:Nat}
 (e:opening p=plainProg p.main.scope.names) (f:∀s,fenceModules? p s=some s) (hN:Nat.ble 600 N=true)
 (h:∀(w:World) (os:OsState),(run p w 11 (some (.ref 6)) N (b0 w os) (topStub p)).bind (fun s=>match staticsOk (importedModules p.main.body) (boot_heap w.params) s.abs.heap&&namesBound p s.abs.heap&&gensDone s.abs&&laidKept (boot_heap w.params) s.abs.heap with
   |true=>some (Fast.tw4187177175401517315 q loose (importedModules p.main.body) (fun _=>true) true s.abs,Yf s.abs)
   |false=>none)=some (openGood q loose,Ya w)):LeftO p q loose (fun _=>true) Yf Ya N:=fun w=>by
 obtain⟨⟨hp,gs,d,k,os⟩,e1,e2⟩:=Option.map_eq_some_iff.mp (boot_open e hN f w)
 obtain⟨rfl,rfl,rfl,rfl⟩:hp=boot_heap w.params∧gs=⟨[]⟩∧d=boot_drawn∧k=boot_toks:=by simpa using e2
 obtain⟨s,r1,r2⟩:=Option.bind_eq_some_iff.mp (h w os)
 have r3:=Dx r1
 rw[Jx]at r3
 rw[←Fast.te4187177175401517315]at r2
 unfold openEnds
 rw[e1]
 show(topFrom treeTable p w N _).map _=_
 unfold topFrom
 rw[show((boot_heap w.params).isNs mainGlobals&&(⟨[]⟩:Array GenState).size==0)=true from by kernel_rfl]
 dsimp only
 rw[show(boot_heap w.params).objs.size=11 from by kernel_rfl,show(boot_heap w.params).nsMap mainGlobals "__annotations__"=some (.ref 6)from by kernel_rfl,r3]
 show((match staticsOk (importedModules p.main.body) (boot_heap w.params) s.abs.heap&&namesBound p s.abs.heap&&gensDone s.abs&&laidKept (boot_heap w.params) s.abs.heap with|true=>some s.abs|false=>none):Option Shared).map _=_
 cases z:(staticsOk (importedModules p.main.body) (boot_heap w.params) s.abs.heap&&namesBound p s.abs.heap&&gensDone s.abs&&laidKept (boot_heap w.params) s.abs.heap)with
 |false=>rw[z]at r2;cases r2
 |true=>rw[z]at r2;exact r2
noncomputable abbrev e(x:Str)(t:Nat)(v:Value):Str×Nat×Value:=(x,t,v)
noncomputable abbrev k(a:Addr)(o:Obj):Addr×Obj:=(a,o)
noncomputable def no(P:Params)(n:Nat)(l:List (Str×Nat×Value)):Obj:=⟨.type "dict",none,.dict (l.map fun e=>⟨PyData.keyHash P e.1,.str e.1 e.2.1,e.2.2⟩).toArray n,#[]⟩
noncomputable def fd(st:Stmt)(x q:Str)(pm:Value)(c:Addr):FuncData:=fnOf x q (L2.ka st) (L2.gQ st) (L2.ag st) .none .none .none pm none (.ref c) .none
noncomputable def fq(st:Stmt)(x q:Str)(pm:Value)(c:Addr):Obj:=⟨.type "function",none,.func (fd st x q pm c),#[]⟩
noncomputable def co(x q:Str)(t:Nat)(line argc:Int)(a b:Addr)(u v:Value)(d:Addr)(i:Int)(z:Nat):Obj:=⟨.type "code",none,.fields #[.str x t,.str q (t+1),.str "/claim/cut.py" (t+2),.int line 0,.int argc 0,.int 0 0,.int 0 0,.int 3 0,.ref a,.bool true,.int 181 0,.ref b,.none,u,v,.ref d,.int i 0,.int line 0,.str "/claim/cut.py" z],#[]⟩
end Hd
namespace Row
open PySem L2
open PySem.Spec hiding items?
open PyProof.Rows hiding St
noncomputable def top(i:Nat):Stmt:=PySem.Challenge.pw_latticeworks_k14_standing_shown.main.body.getD i (.Pass ⟨0,0,0,0⟩)
noncomputable abbrev PW:Program:=PySem.Challenge.pw_latticeworks_k14_standing_shown
noncomputable abbrev ir:Stmt:=top 1
noncomputable abbrev h_:Stmt:=top 2
noncomputable abbrev fz:Stmt:=top 3
noncomputable abbrev ff:Stmt:=top 4
noncomputable abbrev iY:Stmt:=top 6
noncomputable abbrev ly:Stmt:=top 7
noncomputable abbrev lz:Stmt:=top 8
noncomputable abbrev iO:Stmt:=top 9
noncomputable abbrev j4:Stmt:=top 10
noncomputable abbrev fe:Stmt:=top 11
noncomputable abbrev g5:Stmt:=top 12
noncomputable abbrev f9:Stmt:=top 13
noncomputable abbrev fP:Stmt:=top 14
noncomputable abbrev jb:Stmt:=top 15
noncomputable abbrev jm:Stmt:=top 16
noncomputable abbrev gO:Stmt:=top 17
noncomputable abbrev j_:Stmt:=top 19
noncomputable abbrev fh:Stmt:=top 20
noncomputable abbrev dR:Stmt:=top 21
noncomputable abbrev ig:Stmt:=top 22
noncomputable abbrev ja:Stmt:=top 23
noncomputable abbrev cU:Stmt:=inClass (top 24) 0
noncomputable abbrev gE:Stmt:=inClass (top 24) 1
noncomputable abbrev eK:Stmt:=inClass (top 24) 2
noncomputable abbrev dz:Stmt:=inClass (top 24) 3
noncomputable abbrev c7:Stmt:=inClass (top 24) 4
noncomputable abbrev fy:Stmt:=inClass (top 24) 5
noncomputable abbrev dw:Stmt:=inClass (top 24) 6
noncomputable abbrev js:Stmt:=top 25
noncomputable abbrev eH:Stmt:=top 26
noncomputable abbrev g4:Stmt:=top 28
noncomputable abbrev jh:Stmt:=top 29
noncomputable abbrev gJ:Stmt:=top 30
noncomputable abbrev fx:Stmt:=top 31
noncomputable abbrev ie:Stmt:=top 32
noncomputable abbrev e8:Stmt:=top 33
noncomputable abbrev jZ:Stmt:=top 34
noncomputable abbrev fj:Stmt:=top 35
noncomputable abbrev gg:Stmt:=top 36
noncomputable abbrev fC:Stmt:=top 37
noncomputable abbrev gw:Stmt:=top 38
noncomputable abbrev eJ:Stmt:=top 39
noncomputable abbrev fU:Stmt:=top 40
noncomputable abbrev kb:Stmt:=top 41
noncomputable abbrev d6:Stmt:=top 42
noncomputable abbrev jt:Stmt:=top 43
noncomputable abbrev eN:Stmt:=top 44
noncomputable abbrev f_:Stmt:=top 45
noncomputable abbrev m_:Stmt:=top 46
noncomputable def qH:Value:=(.str "latticeworks.kinds" 187)
noncomputable def eM:Value:=(.str "latticeworks.rows" 217)
noncomputable def dJ:Value:=(.str "latticeworks.standing" 305)
noncomputable def cK:Value:=(.str "law_latticeworks_k14_standing_shown" 453)
noncomputable def KX(P:Params):PySem.W.Frag:=[Hd.k 3 (Hd.no P 52 [Hd.e "__name__" 165 (.str "law_latticeworks_k14_standing_shown" 453),Hd.e "__doc__" 166 .none,Hd.e "__package__" 167 .none,Hd.e "__loader__" 168 (.builtin "__main__.__loader__#opaque"),Hd.e "__spec__" 169 .none,Hd.e "__annotations__" 170 (.ref 6),Hd.e "__builtins__" 171 (.ref 4),Hd.e "__file__" 173 (.str "/claim/cut.py" 172),Hd.e "__cached__" 174 .none,Hd.e "is_number" 195 (.ref 21),Hd.e "is_listed" 202 (.ref 28),Hd.e "is_listed_of" 210 (.ref 35),Hd.e "are_numbers" 216 (.ref 40),Hd.e "as_rows" 224 (.ref 45),Hd.e "added" 230 (.ref 50),Hd.e "sum_by" 242 (.ref 57),Hd.e "product" 248 (.ref 62),Hd.e "column" 254 (.ref 67),Hd.e "turned_over" 260 (.ref 72),Hd.e "unit_row" 266 (.ref 77),Hd.e "unit_rows" 272 (.ref 82),Hd.e "nought_rows" 280 (.ref 89),Hd.e "is_rows" 286 (.ref 94),Hd.e "are_back" 295 (.ref 101),Hd.e "is_turn_of" 304 (.ref 108),Hd.e "lead_of" 315 (.ref 115),Hd.e "is_standing" 321 (.ref 120),Hd.e "nearest_quotient" 329 (.ref 127),Hd.e "exchanged" 339 (.ref 134),Hd.e "negated" 345 (.ref 139),Hd.e "Bench" 429 (.ref 194),Hd.e "standing" 440 (.ref 205),Hd.e "shows_standing" 452 (.ref 212),Hd.e "_law_hand" 460 (.ref 217),Hd.e "_law_draw" 472 (.ref 224),Hd.e "_law_number" 481 (.ref 231),Hd.e "_law_rows" 487 (.ref 236),Hd.e "_law_sizes" 494 (.ref 243),Hd.e "_law_some_rows" 504 (.ref 250),Hd.e "_law_by" 510 (.ref 255),Hd.e "_law_product" 516 (.ref 260),Hd.e "_law_units" 522 (.ref 265),Hd.e "_law_stands" 528 (.ref 270),Hd.e "_law_listed" 535 (.ref 277),Hd.e "_law_are_some" 541 (.ref 282),Hd.e "_law_due" 547 (.ref 287),Hd.e "_law_odd" 555 (.ref 294),Hd.e "_law_bent_rows" 561 (.ref 299),Hd.e "_law_bent" 572 (.ref 306),Hd.e "_law_other" 578 (.ref 311),Hd.e "_law_lists" 584 (.ref 316),Hd.e "law" 590 (.ref 321)]),
 Hd.k 20 (Hd.co "is_number" "is_number" 189 2 1 15 16 (.ref 17) (.ref 18) 19 193 194),
 Hd.k 21 (Hd.fq ir "is_number" "is_number" qH 20),
 Hd.k 27 (Hd.co "is_listed" "is_listed" 196 4 1 22 23 (.ref 24) (.ref 25) 26 200 201),
 Hd.k 28 (Hd.fq h_ "is_listed" "is_listed" qH 27),
 Hd.k 34 (Hd.co "is_listed_of" "is_listed_of" 203 6 2 29 30 (.ref 31) (.ref 32) 33 208 209),
 Hd.k 35 (Hd.fq fz "is_listed_of" "is_listed_of" qH 34),
 Hd.k 39 (Hd.co "are_numbers" "are_numbers" 211 8 2 36 37 .none .none 38 214 215),
 Hd.k 40 (Hd.fq ff "are_numbers" "are_numbers" qH 39),
 Hd.k 44 (Hd.co "as_rows" "as_rows" 219 11 1 41 42 .none .none 43 222 223),
 Hd.k 45 (Hd.fq iY "as_rows" "as_rows" eM 44),
 Hd.k 49 (Hd.co "added" "added" 225 13 3 46 47 .none .none 48 228 229),
 Hd.k 50 (Hd.fq ly "added" "added" eM 49),
 Hd.k 56 (Hd.co "sum_by" "sum_by" 231 15 3 51 52 (.ref 53) (.ref 54) 55 240 241),
 Hd.k 57 (Hd.fq lz "sum_by" "sum_by" eM 56),
 Hd.k 61 (Hd.co "product" "product" 243 20 2 58 59 .none .none 60 246 247),
 Hd.k 62 (Hd.fq iO "product" "product" eM 61),
 Hd.k 66 (Hd.co "column" "column" 249 23 2 63 64 .none .none 65 252 253),
 Hd.k 67 (Hd.fq j4 "column" "column" eM 66),
 Hd.k 71 (Hd.co "turned_over" "turned_over" 255 25 2 68 69 .none .none 70 258 259),
 Hd.k 72 (Hd.fq fe "turned_over" "turned_over" eM 71),
 Hd.k 76 (Hd.co "unit_row" "unit_row" 261 27 2 73 74 .none .none 75 264 265),
 Hd.k 77 (Hd.fq g5 "unit_row" "unit_row" eM 76),
 Hd.k 81 (Hd.co "unit_rows" "unit_rows" 267 29 1 78 79 .none .none 80 270 271),
 Hd.k 82 (Hd.fq f9 "unit_rows" "unit_rows" eM 81),
 Hd.k 88 (Hd.co "nought_rows" "nought_rows" 273 31 2 83 84 (.ref 85) (.ref 86) 87 278 279),
 Hd.k 89 (Hd.fq fP "nought_rows" "nought_rows" eM 88),
 Hd.k 93 (Hd.co "is_rows" "is_rows" 281 33 3 90 91 .none .none 92 284 285),
 Hd.k 94 (Hd.fq jb "is_rows" "is_rows" eM 93),
 Hd.k 100 (Hd.co "are_back" "are_back" 287 39 2 95 96 (.ref 97) (.ref 98) 99 293 294),
 Hd.k 101 (Hd.fq jm "are_back" "are_back" eM 100),
 Hd.k 107 (Hd.co "is_turn_of" "is_turn_of" 296 46 3 102 103 (.ref 104) (.ref 105) 106 302 303),
 Hd.k 108 (Hd.fq gO "is_turn_of" "is_turn_of" eM 107),
 Hd.k 114 (Hd.co "lead_of" "lead_of" 307 49 1 109 110 (.ref 111) (.ref 112) 113 313 314),
 Hd.k 115 (Hd.fq j_ "lead_of" "lead_of" dJ 114),
 Hd.k 119 (Hd.co "is_standing" "is_standing" 316 54 1 116 117 .none .none 118 319 320),
 Hd.k 120 (Hd.fq fh "is_standing" "is_standing" dJ 119),
 Hd.k 126 (Hd.co "nearest_quotient" "nearest_quotient" 322 64 2 121 122 (.ref 123) (.ref 124) 125 327 328),
 Hd.k 127 (Hd.fq dR "nearest_quotient" "nearest_quotient" dJ 126),
 Hd.k 133 (Hd.co "exchanged" "exchanged" 330 66 3 128 129 (.ref 130) (.ref 131) 132 337 338),
 Hd.k 134 (Hd.fq ig "exchanged" "exchanged" dJ 133),
 Hd.k 138 (Hd.co "negated" "negated" 340 71 1 135 136 .none .none 137 343 344),
 Hd.k 139 (Hd.fq ja "negated" "negated" dJ 138),
 Hd.k 150 (Hd.co "__init__" "Bench.__init__" 358 75 2 147 148 .none .none 149 361 362),
 Hd.k 151 (Hd.fq cU "__init__" "Bench.__init__" dJ 150),
 Hd.k 157 (Hd.co "take" "Bench.take" 364 80 4 152 153 (.ref 154) (.ref 155) 156 371 372),
 Hd.k 158 (Hd.fq gE "take" "Bench.take" dJ 157),
 Hd.k 164 (Hd.co "exchange" "Bench.exchange" 374 85 3 159 160 (.ref 161) (.ref 162) 163 380 381),
 Hd.k 165 (Hd.fq eK "exchange" "Bench.exchange" dJ 164),
 Hd.k 171 (Hd.co "change_sign" "Bench.change_sign" 383 90 2 166 167 (.ref 168) (.ref 169) 170 388 389),
 Hd.k 172 (Hd.fq dz "change_sign" "Bench.change_sign" dJ 171),
 Hd.k 176 (Hd.co "live_rows" "Bench.live_rows" 391 95 3 173 174 .none .none 175 394 395),
 Hd.k 177 (Hd.fq c7 "live_rows" "Bench.live_rows" dJ 176),
 Hd.k 183 (Hd.co "gather" "Bench.gather" 397 99 3 178 179 (.ref 180) (.ref 181) 182 406 407),
 Hd.k 184 (Hd.fq fy "gather" "Bench.gather" dJ 183),
 Hd.k 190 (Hd.co "lower_above" "Bench.lower_above" 409 113 3 185 186 (.ref 187) (.ref 188) 189 416 417),
 Hd.k 191 (Hd.fq dw "lower_above" "Bench.lower_above" dJ 190),
 Hd.k 193 (Hd.no P 4 [Hd.e "__module__" 353 (.str "latticeworks.standing" 305),Hd.e "__firstlineno__" 357 (.int (73) 356),Hd.e "__init__" 363 (.ref 151),Hd.e "take" 373 (.ref 158),Hd.e "exchange" 382 (.ref 165),Hd.e "change_sign" 390 (.ref 172),Hd.e "live_rows" 396 (.ref 177),Hd.e "gather" 408 (.ref 184),Hd.e "lower_above" 418 (.ref 191),Hd.e "__static_attributes__" 422 (.ref 192),Hd.e "__dict__" 424 (.ref 195),Hd.e "__weakref__" 426 (.ref 196),Hd.e "__doc__" 427 .none]),
 Hd.k 194 (⟨(.type "type"),none,.cls {name:="Bench",bases:=[(.type "object")],mro:=[(.ref 194),(.type "object")],ns:=193,qualname:="Bench",hasDict:=true,subclasses:=[],abstract:=false,hasDel:=false},#[none,none,(some (.str "Bench" 346)),(some (.str "Bench" 354)),(some (.builtin "object.__new__")),(some (.bool true))]⟩),
 Hd.k 204 (Hd.co "standing" "standing" 430 116 1 199 200 (.ref 201) (.ref 202) 203 438 439),
 Hd.k 205 (Hd.fq js "standing" "standing" dJ 204),
 Hd.k 211 (Hd.co "shows_standing" "shows_standing" 441 125 2 206 207 (.ref 208) (.ref 209) 210 450 451),
 Hd.k 212 (Hd.fq eH "shows_standing" "shows_standing" dJ 211),
 Hd.k 216 (Hd.co "_law_hand" "_law_hand" 455 138 1 213 214 .none .none 215 458 459),
 Hd.k 217 (Hd.fq g4 "_law_hand" "_law_hand" cK 216),
 Hd.k 223 (Hd.co "_law_draw" "_law_draw" 461 140 2 218 219 (.ref 220) (.ref 221) 222 470 471),
 Hd.k 224 (Hd.fq jh "_law_draw" "_law_draw" cK 223),
 Hd.k 230 (Hd.co "_law_number" "_law_number" 473 156 2 225 226 (.ref 227) (.ref 228) 229 479 480),
 Hd.k 231 (Hd.fq gJ "_law_number" "_law_number" cK 230),
 Hd.k 235 (Hd.co "_law_rows" "_law_rows" 482 161 4 232 233 .none .none 234 485 486),
 Hd.k 236 (Hd.fq fx "_law_rows" "_law_rows" cK 235),
 Hd.k 242 (Hd.co "_law_sizes" "_law_sizes" 488 176 1 237 238 (.ref 239) (.ref 240) 241 492 493),
 Hd.k 243 (Hd.fq ie "_law_sizes" "_law_sizes" cK 242),
 Hd.k 249 (Hd.co "_law_some_rows" "_law_some_rows" 495 180 2 244 245 (.ref 246) (.ref 247) 248 502 503),
 Hd.k 250 (Hd.fq e8 "_law_some_rows" "_law_some_rows" cK 249),
 Hd.k 254 (Hd.co "_law_by" "_law_by" 505 183 3 251 252 .none .none 253 508 509),
 Hd.k 255 (Hd.fq jZ "_law_by" "_law_by" cK 254),
 Hd.k 259 (Hd.co "_law_product" "_law_product" 511 188 3 256 257 .none .none 258 514 515),
 Hd.k 260 (Hd.fq fj "_law_product" "_law_product" cK 259),
 Hd.k 264 (Hd.co "_law_units" "_law_units" 517 190 1 261 262 .none .none 263 520 521),
 Hd.k 265 (Hd.fq gg "_law_units" "_law_units" cK 264),
 Hd.k 269 (Hd.co "_law_stands" "_law_stands" 523 192 1 266 267 .none .none 268 526 527),
 Hd.k 270 (Hd.fq fC "_law_stands" "_law_stands" cK 269),
 Hd.k 276 (Hd.co "_law_listed" "_law_listed" 529 203 1 271 272 (.ref 273) (.ref 274) 275 533 534),
 Hd.k 277 (Hd.fq gw "_law_listed" "_law_listed" cK 276),
 Hd.k 281 (Hd.co "_law_are_some" "_law_are_some" 536 205 3 278 279 .none .none 280 539 540),
 Hd.k 282 (Hd.fq eJ "_law_are_some" "_law_are_some" cK 281),
 Hd.k 286 (Hd.co "_law_due" "_law_due" 542 214 2 283 284 .none .none 285 545 546),
 Hd.k 287 (Hd.fq fU "_law_due" "_law_due" cK 286),
 Hd.k 293 (Hd.co "_law_odd" "_law_odd" 548 225 1 288 289 (.ref 290) (.ref 291) 292 553 554),
 Hd.k 294 (Hd.fq kb "_law_odd" "_law_odd" cK 293),
 Hd.k 298 (Hd.co "_law_bent_rows" "_law_bent_rows" 556 228 2 295 296 .none .none 297 559 560),
 Hd.k 299 (Hd.fq d6 "_law_bent_rows" "_law_bent_rows" cK 298),
 Hd.k 305 (Hd.co "_law_bent" "_law_bent" 562 248 2 300 301 (.ref 302) (.ref 303) 304 570 571),
 Hd.k 306 (Hd.fq jt "_law_bent" "_law_bent" cK 305),
 Hd.k 310 (Hd.co "_law_other" "_law_other" 573 263 2 307 308 .none .none 309 576 577),
 Hd.k 311 (Hd.fq eN "_law_other" "_law_other" cK 310),
 Hd.k 315 (Hd.co "_law_lists" "_law_lists" 579 275 1 312 313 .none .none 314 582 583),
 Hd.k 316 (Hd.fq f_ "_law_lists" "_law_lists" cK 315),
 Hd.k 320 (Hd.co "law" "law" 585 277 1 317 318 .none .none 319 588 589),
 Hd.k 321 (Hd.fq m_ "law" "law" cK 320)]
noncomputable def KA:List Addr:=[3,20,21,27,28,34,35,39,40,44,45,49,50,56,57,61,62,66,67,71,72,76,77,81,82,88,89,93,94,100,101,107,108,114,115,119,120,126,127,133,134,138,139,150,151,157,158,164,165,171,172,176,177,183,184,190,191,193,194,204,205,211,212,216,217,223,224,230,231,235,236,242,243,249,250,254,255,259,260,264,265,269,270,276,277,281,282,286,287,293,294,298,299,305,306,310,311,315,316,320,321]
set_option maxHeartbeats 0 in
theorem left:PySem.W.LeftO PW (PySem.W.view PW [1,2,3,4,6,7,8,9,10,11,12,13,14,15,16,17,19,20,21,22,23,24,25,26,28,29,30,31,32,33,34,35,36,37,38,39,40,41,42,43,44,45,46]) [] (fun _=>true) (PySem.W.kmHook Row.KX Row.KA (fun _=>rfl) [174]).obs (PySem.W.kmHook Row.KX Row.KA (fun _=>rfl) [174]).val 3412:=
 Hd.left (by kernel_rfl) (fun s=>by kernel_rfl) rfl fun w os=>by kernel_rfl
end Row
namespace L3
open PySem PySem.Spec PyProof.Rows L2
section
variable {prog:Program}{w:World}{A:Around}{R:Result→Shared→Prop}{s:Shared}
theorem AL{elt target iter:Expr}{ifs:List Expr}{scope:Scope}{pos:Pos}{it acc:Value}{env:Env}(I:Nat→Shared→Prop)
 (turn:∀n s,I n s→wpAny (model prog w) A (pyNext it) (fun r s₁=>match r with
   |none=>R (.ok .next) s₁
   |some v=>wpAny (model prog w) A (letOwnedTupleGo target it v) (fun _ s₀=>wpAny (model prog w) A (assign target env v) (fun _ s₂=>
     wpAny (model prog w) A (forIn ifs true fun c r=>if r=true then do let ok ←isTrue c env (eval c env);pure (ForInStep.yield ok)else pure (ForInStep.yield r)) (fun ok s₃=>
      if ok=true then wpAny (model prog w) A (eval elt env) (fun x s₄=>
       wpAny (model prog w) A (call (.builtin "list.append") [acc,x]) (fun _ s₅=>∃m,m<n∧I m s₅) (fun _ _=>False) s₄) (fun _ _=>False) s₃
      else∃m,m<n∧I m s₃) (fun _ _=>False) s₂) (fun _ _=>False) s₀) (fun _ _=>False) s₁) (fun _ _=>False) s)
 (n:Nat) (h:I n s):
 codeAny (model prog w) A (.compLoop (.ListComp elt [⟨target,iter,ifs,0⟩] scope pos) 0 it acc env) R s:=by
 refine codeAny_loop rfl I (fun n s hI=>?_) n h
 show wpAny _ A ((compTurn (.ListComp elt [⟨target,iter,ifs,0⟩] scope pos) 0 it acc env).onRaise (fun x=>do noteFrame x env;theTreesLotGoes x)) _ _ s
 refine wpAny_noted ?_
 rw[compTurn_list]
 refine wpAny_bind (wpAny_standAt (wpAny_bind (wpAny_mono (turn n s hI) (fun r s₁ h₁=>?_) fun _ _ h'=>h'.elim)))
 cases r with
 |none=>exact wpAny_pure h₁
 |some v=>
  refine wpAny_bind (wpAny_mono h₁ (fun _ s₀ h₀=>?_) fun _ _ h'=>h'.elim)
  refine wpAny_bind (wpAny_mono h₀ (fun _ s₂ h₂=>wpAny_bind (wpAny_mono h₂ (fun ok s₃ h₃=>?_) fun _ _ h'=>h'.elim)) fun _ _ h'=>h'.elim)
  cases ok with
  |false=>exact wpAny_pure ⟨rfl,h₃⟩
  |true=>
   exact wpAny_bind (wpAny_bind (wpAny_mono h₃ (fun x s₄ h₄=>wpAny_bind (wpAny_mono h₄ (fun _ s₅ h₅=>wpAny_pure (wpAny_pure ⟨rfl,h₅⟩)) fun _ _ h'=>h'.elim)) fun _ _ h'=>h'.elim))
end
noncomputable def df(cells:List (Str×Addr)):List (Str×NameKind)→List (Str×Addr)→List (Str×Addr)
 | [],acc=>acc
 |(n,k)::r,acc=>if k== .free then(match cells.lookup n with|some c=>df cells r ((n,c)::acc)|none=>df cells r acc)else df cells r acc
theorem cT{cells:List (Str×Addr)}:∀(names:List (Str×NameKind)) (acc:List (Str×Addr)),(∀x c,acc.lookup x=some c→cells.lookup x=some c)→
 ∀x c,(df cells names acc).lookup x=some c→cells.lookup x=some c
 | [],acc,h,x,c,e=>h x c e
 |(n,k)::r,acc,h,x,c,e=>by
  unfold df at e
  split at e
  · split at e
    · rename_i d q
      refine cT r _ (fun y b e'=>?_) x c e
      rw[List.lookup_cons]at e'
      split at e'
      · rename_i z
        cases e'
        have z':y=n:=by simpa using z
        rw[z'];exact q
      · exact h y b e'
    · exact cT r _ h x c e
  · exact cT r _ h x c e
theorem i8{cells:List (Str×Addr)}{x:Str}:∀(names:List (Str×NameKind)) (acc:List (Str×Addr)),(∃c,cells.lookup x=some c)→((x,NameKind.free)∈names∨∃c,acc.lookup x=some c)→
 ∃c,(df cells names acc).lookup x=some c
 | [],acc,_,h=>by
   rcases h with h|h
   · simp at h
   · exact h
 |(n,k)::r,acc,hc,h=>by
  unfold df
  split
  · rename_i hk
    split
    · rename_i d q
      refine i8 r _ hc ?_
      rcases h with h|⟨c,h⟩
      · rcases List.mem_cons.mp h with e|e
        · cases e
          exact .inr ⟨d,by simp[List.lookup_cons]⟩
        · exact .inl e
      · refine .inr ?_
        rw[List.lookup_cons]
        split
        · exact⟨_,rfl⟩
        · exact⟨c,h⟩
    · rename_i q
      refine i8 r _ hc ?_
      rcases h with h|h
      · rcases List.mem_cons.mp h with e|e
        · cases e
          obtain⟨c,hc⟩:=hc
          rw[hc]at q;cases q
        · exact .inl e
      · exact .inr h
  · rename_i hk
    refine i8 r _ hc ?_
    rcases h with h|h
    · rcases List.mem_cons.mp h with e|e
      · cases e
        exact absurd rfl hk
      · exact .inl e
    · exact .inr h
theorem mJ{scope:Scope}{env:Env}(h:∀x∈scope.names,x.2= .free→∃c,env.cells.lookup x.1=some c):closureFor scope env=pure (df env.cells scope.names []):=by
 have key:∀(names:List (Str×NameKind)) (acc:List (Str×Addr)),(∀x∈names,x.2= .free→∃c,env.cells.lookup x.1=some c)→
  (forIn names acc (fun(x:Str×NameKind) (cs:List (Str×Addr))=>if(x.2==NameKind.free)=true then(do let a ←cellOf env x.1;pure (ForInStep.yield ((x.1,a)::cs)):Sem (ForInStep (List (Str×Addr))))else pure (ForInStep.yield cs)))=(pure (df env.cells names acc):Sem (List (Str×Addr))):=by
  intro names
  induction names with
  |nil=>intro acc _;rfl
  |cons p r ih=>
   intro acc hh
   obtain⟨n,k⟩:=p
   rw[List.forIn_cons]
   have ih':=ih
   by_cases hk:(k==NameKind.free)=true
   · obtain⟨c,e⟩:=hh (n,k) List.mem_cons_self (by simpa using hk)
     simp only[hk,if_true]
     have e1:cellOf env n=pure c:=by
      unfold cellOf
      rw[e]
     rw[e1]
     simp only[pure_bind]
     rw[ih _ fun x hx=>hh x (List.mem_cons_of_mem _ hx)]
     conv=>rhs;unfold df
     simp only[hk,if_true]
     rw[show env.cells.lookup n=some c from e]
   · have hk':(k==NameKind.free)=false:=by simpa using hk
     simp only[hk',Bool.false_eq_true,if_false,pure_bind]
     rw[ih _ fun x hx=>hh x (List.mem_cons_of_mem _ hx)]
     conv=>rhs;unfold df
     simp only[hk',Bool.false_eq_true,if_false]
 unfold closureFor
 have:=key scope.names [] h
 rw[bind_pure]
 first
  |exact this
  |(simp only[bind_pure]at this⊢;exact this)
end L3
namespace L3
open PySem PySem.Spec L2
open PyProof.Rows hiding St
theorem jr(env:Env):∀(names:List (Str×NameKind)) (x:Str),
 (names.map fun(n,k)=>if(k==NameKind.free&&env.scope.kind== .function&&env.kindOf n==some .cell)then(n,NameKind.cell)else(n,k)).lookup x=
   (names.lookup x).map fun k=>if(k==NameKind.free&&env.scope.kind== .function&&env.kindOf x==some .cell)then NameKind.cell else k
 | [],_=>rfl
 |(n,k)::r,x=>by
  show List.lookup x ((if(k==NameKind.free&&env.scope.kind== .function&&env.kindOf n==some .cell)=true then(n,NameKind.cell)else(n,k))::_)=_
  cases hx:x==n with
  |true=>
   have e:x=n:=by simpa using hx
   subst e
   by_cases hc:(k==NameKind.free&&env.scope.kind== .function&&env.kindOf x==some .cell)=true
   · rw[if_pos hc];simp only[List.lookup_cons,beq_self_eq_true,Option.map_some];rw[if_pos hc]
   · rw[if_neg hc];simp only[List.lookup_cons,beq_self_eq_true,Option.map_some];rw[if_neg hc]
  |false=>
   by_cases hc:(k==NameKind.free&&env.scope.kind== .function&&env.kindOf n==some .cell)=true
   · rw[if_pos hc];simp only[List.lookup_cons,hx];exact jr env r x
   · rw[if_neg hc];simp only[List.lookup_cons,hx];exact jr env r x
theorem zL{env:Env}{scope:Scope}{x:Str}(h:scope.names.lookup x=some .free):(relabel scope env).names.lookup x=some .cell∨(relabel scope env).names.lookup x=some .free:=by
 have e:(relabel scope env).names.lookup x=_:=jr env scope.names x
 rw[e,h]
 simp only[Option.map_some]
 split
 · exact .inl rfl
 · exact .inr rfl
theorem zm{env:Env}{scope:Scope}{x:Str}(h:(relabel scope env).names.lookup x=some .cell∨(relabel scope env).names.lookup x=some .free):(x,NameKind.free)∈scope.names∨scope.names.lookup x=some .cell:=by
 have e:(relabel scope env).names.lookup x=_:=jr env scope.names x
 rw[e]at h
 cases q:scope.names.lookup x with
 |none=>rw[q]at h;rcases h with h|h<;>cases h
 |some k=>
  rw[q]at h
  simp only[Option.map_some]at h
  have m:=PySem.mem_of_lookup q
  by_cases hc:(k==NameKind.free&&env.scope.kind== .function&&env.kindOf x==some .cell)=true
  · have:k= .free:=by
     simp only[Bool.and_eq_true]at hc
     simpa using hc.1.1
    subst this;exact .inl m
  · rw[if_neg hc]at h
    rcases h with h|h
    · cases h;exact .inr rfl
    · cases h;exact .inl m
theorem f7:∀(names:List (Str×NameKind)) (L:Nat) (acc:List (Str×Addr)),cellsFrom L names acc=cellsFrom L names []++acc
 | [],_,_=>rfl
 |(n,k)::r,L,acc=>by
  unfold cellsFrom
  by_cases hk:(k==NameKind.cell)=true
  · rw[if_pos hk,if_pos hk,f7 r (L+1) ((n,L)::acc),f7 r (L+1) [(n,L)],List.append_assoc];rfl
  · rw[if_neg hk,if_neg hk];exact f7 r L acc
theorem rm:∀ {names:List (Str×NameKind)} {L:Nat} {x:Str} {c:Addr},(x,c)∈cellsFrom L names []→(x,NameKind.cell)∈names
 | [],_,_,_,h=>by unfold cellsFrom at h;cases h
 |(n,k)::r,L,x,c,h=>by
  unfold cellsFrom at h
  by_cases hk:(k==NameKind.cell)=true
  · rw[if_pos hk,f7]at h
    have hk':k= .cell:=by simpa using hk
    subst hk'
    rcases List.mem_append.mp h with h|h
    · exact List.mem_cons_of_mem _ (rm h)
    · have:(x,c)=(n,L):=by simpa using h
      cases this
      exact List.mem_cons_self
  · rw[if_neg hk]at h
    exact List.mem_cons_of_mem _ (rm h)
theorem qv:∀ {l1 l2:List (Str×Addr)} {x:Str} {c:Addr},(l1++l2).lookup x=some c→l1.lookup x=some c∨(l1.lookup x=none∧l2.lookup x=some c)
 | [],_,_,_,h=> .inr ⟨rfl,h⟩
 |(n,d)::l1,l2,x,c,h=>by
  rw[List.cons_append,List.lookup_cons]at h
  rw[List.lookup_cons]
  cases hx:x==n with
  |true=>rw[hx]at h;exact .inl h
  |false=>rw[hx]at h;exact qv h
theorem t9:∀ {l1 l2:List (Str×Addr)} {x:Str},l1.lookup x=none→(l1++l2).lookup x=l2.lookup x
 | [],_,_,_=>rfl
 |(n,d)::l1,l2,x,h=>by
  rw[List.lookup_cons]at h
  rw[List.cons_append,List.lookup_cons]
  cases hx:x==n with
  |true=>rw[hx]at h;cases h
  |false=>rw[hx]at h;exact t9 h
noncomputable def mx(scope:Scope)(C:Addr)(cl:List (Str×Addr)):List (Str×Addr):=cellsFrom (C+1) scope.names cl
theorem iS{scope:Scope}{C:Addr}{cl:List (Str×Addr)}{x:Str}{c:Addr}(h:(mx scope C cl).lookup x=some c):(x,c)∈cellsFrom (C+1) scope.names []∨cl.lookup x=some c:=by
 unfold mx at h
 rw[f7]at h
 rcases qv h with h|h
 · exact .inl (PySem.mem_of_lookup h)
 · exact .inr h.2
theorem JF(names:List (Str×NameKind))(h:Heap){C:Addr}(e:h.objs.size=C+1):CellsOk (pushCells h names) (C+1) (cellsFrom (C+1) names []):=by
 have:=cellsFrom_ok names h (C+1) [] ⟨fun _ _ hm=>(nomatch hm),List.Pairwise.nil⟩ (by rw[e];exact Nat.le_refl _)
 rw[e]at this
 exact this
theorem nE{names:List (Str×NameKind)}{C:Addr}{x:Str}{c:Addr}:∀ {L:Nat},C≤L→(x,c)∈cellsFrom L names []→C≤c:=by
 induction names with
 |nil=>intro L _ h;unfold cellsFrom at h;cases h
 |cons p r ih=>
  obtain⟨n,k⟩:=p
  intro L hL h
  unfold cellsFrom at h
  by_cases hk:(k==NameKind.cell)=true
  · rw[if_pos hk,f7]at h
    rcases List.mem_append.mp h with h|h
    · exact ih (Nat.le_trans hL (Nat.le_succ L)) h
    · have:(x,c)=(n,L):=by simpa using h
      cases this
      exact hL
  · rw[if_neg hk]at h
    exact ih hL h
theorem own_apart{names:List (Str×NameKind)}{x y:Str}{c:Addr}:∀ {L:Nat},(x,c)∈cellsFrom L names []→(y,c)∈cellsFrom L names []→x=y:=by
 induction names with
 |nil=>intro L h;unfold cellsFrom at h;cases h
 |cons p r ih=>
  obtain⟨n,k⟩:=p
  intro L h1 h2
  unfold cellsFrom at h1 h2
  by_cases hk:(k==NameKind.cell)=true
  · rw[if_pos hk,f7]at h1 h2
    rcases List.mem_append.mp h1 with g1|g1<;>rcases List.mem_append.mp h2 with g2|g2
    · exact ih g1 g2
    · have e2:(y,c)=(n,L):=by simpa using g2
      have ec:c=L:=(Prod.mk.inj e2).2
      have:=nE (C:=L+1) (Nat.le_refl _) g1
      rw[ec]at this
      exact absurd this (Nat.not_succ_le_self _)
    · have e1:(x,c)=(n,L):=by simpa using g1
      have ec:c=L:=(Prod.mk.inj e1).2
      have:=nE (C:=L+1) (Nat.le_refl _) g2
      rw[ec]at this
      exact absurd this (Nat.not_succ_le_self _)
    · have e1:(x,c)=(n,L):=by simpa using g1
      have e2:(y,c)=(n,L):=by simpa using g2
      exact(Prod.mk.inj e1).1.trans (Prod.mk.inj e2).1.symm
  · rw[if_neg hk]at h1 h2
    exact ih h1 h2
theorem um{M:Model}{A:Around}{E:Value→Shared→Prop}{s:Shared}{scope:Scope}{globals:Addr}{cl:List (Str×Addr)}{qual:Str}{env:Env}{Q:Env→Shared→Prop}
 (hQ:Q (newEnv scope s.heap.objs.size globals (mx scope s.heap.objs.size cl) qual none .none (some env) builtinsNs) {s with heap:=pushCells (s.heap.push {cls:= .type "dict",data:= .dict #[]}) scope.names}):
 wpAny M A (newFunctionEnv scope globals cl [] qual none .none (some env)) Q E s:=by
 simp only[newFunctionEnv,Option.isSome_some,if_true]
 refine wpAny_bind (wpAny_alloc ?_)
 refine wpAny_bind (wpAny_layCells _ (fun name kind cells=>by cases hkc:kind==NameKind.cell<;>simp[hkc]) _ _ _ _ ?_)
 rw[show({s with heap:=s.heap.push {cls:= .type "dict",data:= .dict #[]}}:Shared).heap.objs.size=s.heap.objs.size+1 from Heap.size_push ..]
 rw[List.forIn_nil]
 exact wpAny_bind (wpAny_pure (wpAny_pure hQ))
structure bj(X:Cx)(scope:Scope)(Nc:List Str)(fr:List (Option Nat)):Prop where
 kind:scope.kind= .function
 cells:∀x∈scope.names,x.2= .cell→scope.names.lookup x.1=some .cell
 names:∀x∈scope.names,x.2= .local→scope.names.lookup x.1=some .local
 free:∀x∈scope.names,x.2= .free→X.env.kindOf x.1=some .cell∨X.env.kindOf x.1=some .free
 len:fr.length=Nc.length
 map:∀(i j:Nat) (x:Str),Nc[i]?=some x→fr[i]?=some (some j)→X.N[j]?=some x∧scope.names.lookup x=some .free∧(X.env.kindOf x=some .cell∨X.env.kindOf x=some .free)
noncomputable def σC(fr:List (Option Nat))(σ:St):St:=fr.map fun o=>o.bind fun j=>(σ[j]?).join
noncomputable def fb(X:Cx)(scope:Scope)(Nc:List Str)(C:Addr)(s:Shared)(H:Hp)(ex:List Addr):Cx:=
 {X with N:=Nc,s₀:=s,H₀:=H,env:=compEnvC scope (mx scope C (df X.env.cells scope.names [])) C X.env,outer:=X.stack,stack:=X.stack,ex:=ex,fn:=fun x=>scope.names.lookup x==some .cell,pn:=[],xe:=fun _ _=>False}
noncomputable def sY(wi:TI)(fr:List (Option Nat))(g:TG)(c:TT)(te:TE):TE:=fun σ H Q=>wi σ H fun J H1=>∀l,H1 l=none→
 ∃W:Nat→Nat→L2.St→Hp→Prop,(∃m,W 0 m (σC fr σ) (upd H1 l (.lst [])))∧∀i m σ H,W i m σ H→
  (J.stop i H∧Q (.ref l) H)∨(J.go i H∧∃N:L2.St→Hp→Prop,(∀σ' H',N σ' H'→∃m',m'<m∧W (i+1) m' σ' H')∧∀x H',J.pE i H x H'→
    g x σ H' fun σ2 H2=>c σ2 H2 fun b H3=>if b=true then te σ2 H3 fun y H4=>∃ys,H4 l=some (.lst ys)∧ys.length<sizeLine∧N σ2 (upd H4 l (.lst (ys++[y])))else N σ2 H3)
noncomputable def se(X:Cx)(ifs:List Expr)(t:TT):Prop:=
 ∀(pins:List (Addr×Obj)) (s:Shared) (σ:St) (H:Hp) (Q:Bool→Hp→Prop),Inv X pins σ H s→t σ H Q→
  wpAny (model X.prog X.w) X.A (forIn ifs true fun c r=>if r=true then do let ok ←isTrue c X.env (eval c X.env);pure (ForInStep.yield ok)else pure (ForInStep.yield r)) (TP X pins σ Q) X.xe s
noncomputable def L6:TT:=fun _ H Q=>Q true H
theorem HE{X:Cx}:se X [] L6:=fun _ _ _ H _ I h=>wpAny_tests_nil ⟨H,I,h⟩
theorem Ie{X:Cx}{c:Expr}{t:TT}(h:PT X c t):se X [c] t:=fun pins s σ H Q I q=>wpAny_tests_one (h pins s σ H Q I q)
section
variable {X:Cx}{scope:Scope}{Nc:List Str}{fr:List (Option Nat)}{pins:List (Addr×Obj)}{σ:St}{H:Hp}{s:Shared}
theorem KN{C:Addr}{fp:List Addr}(S:bj X scope Nc fr)(I:Inv X pins σ H s)(hC:C=s.heap.objs.size)(hf:∀b∈fp,kW X pins H b)(hlt:∀b∈fp,b<s.heap.objs.size)(hnc:∀b∈fp,∀x c,X.env.cells.lookup x=some c→c≠b):
 (fb X scope Nc C s H fp).Ok where
 mod:=I.ok.mod
 kind:=S.kind
 glob:=I.ok.glob
 blt:=I.ok.blt
 above:=Nat.le_of_eq hC.symm
 inj:=fun x y c h1 h2=>by
  have low:∀ {z},(df X.env.cells scope.names []).lookup z=some c→c<s.heap.objs.size:=fun{z} hz=>by
   obtain⟨v,q⟩:=I.cell z c (cT _ [] (fun _ _ e=>by cases e) z c hz)
   exact q.lt
  rcases iS h1 with h1|h1<;>rcases iS h2 with h2|h2
  · exact own_apart h1 h2
  · have a:=nE (C:=C+1) (Nat.le_refl _) h1
    have b:c<C:=by rw[hC];exact low h2
    exact absurd a (Nat.not_le_of_gt (Nat.lt_succ_of_lt b))
  · have a:=nE (C:=C+1) (Nat.le_refl _) h2
    have b:c<C:=by rw[hC];exact low h1
    exact absurd a (Nat.not_le_of_gt (Nat.lt_succ_of_lt b))
  · exact I.ok.inj x y c (cT _ [] (fun _ _ e=>by cases e) x c h1) (cT _ [] (fun _ _ e=>by cases e) y c h2)
 has:=fun x hx=>by
  rcases zm hx with m|m
  · obtain⟨c,e⟩:=i8 scope.names [] (I.ok.has x (S.free _ m rfl)) (.inl m)
    exact Option.isSome_iff_exists.mp (PySem.W.cellsFrom_some _ _ _ (.inr (by rw[e];rfl)))
  · exact Option.isSome_iff_exists.mp (PySem.W.cellsFrom_some _ _ _ (.inl m))
 zr:=fun x c hf h=>by
  have hl:scope.names.lookup x=some .cell:=by
   have:(scope.names.lookup x==some .cell)=true:=hf
   simpa using this
  obtain⟨c',e⟩:=Option.isSome_iff_exists.mp (PySem.W.cellsFrom_some (x:=x) scope.names (C+1) [] (.inl hl))
  have h':(cellsFrom (C+1) scope.names []++df X.env.cells scope.names []).lookup x=some c:=by
   rw[←f7];exact h
  rcases qv h' with q|q
  · have:=nE (C:=C+1) (Nat.le_refl _) (PySem.mem_of_lookup q)
    show s.heap.objs.size≤c
    rw[←hC];exact Nat.le_of_succ_le this
  · rw[q.1]at e;cases e
 hd:=I.ok.hd
 frames:=I.ok.frames
 BC:= .inl rfl
 D1:=fun b hb=>⟨by rw[show(fb X scope Nc C s H fp).env.locals=s.heap.objs.size from hC];exact Nat.ne_of_lt (hlt b hb),fun x c h=>by
  rcases iS h with h|h
  · have a:=nE (C:=C+1) (Nat.le_refl _) h
    have b':b<C:=by rw[hC];exact hlt b hb
    exact Nat.ne_of_gt (Nat.lt_of_lt_of_le b' (Nat.le_of_succ_le a))
  · exact hnc b hb x c (cT _ [] (fun _ _ e=>by cases e) x c h)⟩
 bs:=I.bs
 qY:=Nat.le_trans I.ok.qY I.sz
 uv:=fun b o e hb=>by
  have hn:=(hf b hb).2.2.2.1
  rcases hn with hn|hn
  · exact I.ok.uv b o e hn
  · exact absurd (Heap.lt_size (I.ok.bs b o e).1) (Nat.not_lt.mpr hn)
 uH:=fun b hb z=>by
  have q:=I.yN b z
  rcases List.mem_cons.mp q with q|q
  · exact(hf b hb).2.1 q
  · exact(hf b hb).2.2.1 q
 kP:=I.stack
 uV:=fun b hb=>I.wM b hb
 gt:=I.ok.gt
theorem Br{i:Nat}{v:V}(h:(σC fr σ)[i]?=some (some v)):∃j,fr[i]?=some (some j)∧σ[j]?=some (some v):=by
 unfold σC at h
 rw[List.getElem?_map]at h
 cases q:fr[i]? with
 |none=>rw[q]at h;cases h
 |some o=>
  rw[q]at h
  cases o with
  |none=>simp at h
  |some j=>
   simp only[Option.map_some,Option.some.injEq,Option.bind_some]at h
   refine⟨j,rfl,?_⟩
   cases r:σ[j]? with
   |none=>rw[r]at h;cases h
   |some u=>rw[r]at h;simp at h;rw[h]
theorem Fl{s':Shared}{h':Heap}{C:Addr}{fp:List Addr}{t':Nat}(S:bj X scope Nc fr)(I:Inv X pins σ H s)(hC:C=s.heap.objs.size)(ok:(fb X scope Nc C s H fp).Ok)(hfr:∀b∈fp,H b=none)
 (k:∀b o,s.heap.get? b=some o→h'.get? b=some o) (hn:h'.Ns C (fun _=>none)) (hcs:∀x c,(x,c)∈cellsFrom (C+1) scope.names []→h'.IsCell c none):Inv (fb X scope Nc C s H fp) [] (σC fr σ) H {s with heap:=h',toks:=t'} where
 ok:=ok
 os:=rfl
 bare:=I.bare
 base:=Un.kept k
 loc:=⟨_,hn,fun i x v h1 h2 h3=>by
  obtain⟨j,q1,q2⟩:=Br h2
  obtain⟨n1,n2,n3⟩:=S.map i j x h1 q1
  obtain⟨m,hm,hl⟩:=I.loc
  have vis:yI X.env.scope x:=by
   rcases n3 with z|z
   · exact .inr (.inl z)
   · exact .inr (.inr z)
  obtain⟨u,r,lk⟩:=hl j x v n1 q2 vis
  refine⟨u,r,?_⟩
  rcases lk with⟨z,_⟩|⟨z,c,e,ic⟩
  · rcases n3 with y|y
    · rw[y]at z;cases z
    · rw[y]at z;cases z
  · refine .inr ⟨zL n2,?_⟩
    obtain⟨c',e'⟩:=i8 scope.names [] ⟨c,e⟩ (.inl (PySem.mem_of_lookup n2))
    have e2:=cT _ [] (fun _ _ e=>by cases e) x c' e'
    rw[e]at e2;cases e2
    refine⟨c,?_,ic.keeps k⟩
    show(mx scope C (df X.env.cells scope.names [])).lookup x=some c
    unfold mx
    rw[f7,t9 ?_]
    · exact e'
    · cases q:(cellsFrom (C+1) scope.names []).lookup x with
      |none=>rfl
      |some c2=>
       have:=S.cells _ (rm (PySem.mem_of_lookup q)) rfl
       rw[n2]at this;cases this⟩
 cell:=fun x c h=>by
  rcases iS h with h|h
  · exact⟨_,hcs x c h⟩
  obtain⟨v,q⟩:=I.cell x c (cT _ [] (fun _ _ e=>by cases e) x c h)
  exact⟨v,q.keeps k⟩
 free:=by show H C=none;rw[hC];exact I.aI.fresh (Nat.le_refl _)
 iI:=fun x c h=>by
  rcases iS h with h|h
  · have a:=nE (C:=C+1) (Nat.le_refl _) h
    exact I.aI.fresh (by rw[←hC];exact Nat.le_of_succ_le a)
  · exact I.iI x c (cT _ [] (fun _ _ e=>by cases e) x c h)
 pin:=fun p hp=>by cases hp
 aI:=I.aI.kept k
 len:=by unfold σC;rw[List.length_map];exact S.len
theorem Inv.forget{C:Addr}{h':Heap}(I:Inv X pins σ H s)(f:kW X pins H C)(hs:Heap.SameBut C s.heap h'):Inv X pins σ H {s with heap:=h'}:=by
 refine I.Cp (s':={s with heap:=h'}) (ch:=[C]) rfl ?_ ?_ I.bare fun b hb=>?_
 · have ne:∀b,b∉[C]→b≠C:=fun b hb z=>hb (by simp[z])
   exact{keep:=fun b o q _ _ hx=>(hs.2 b (ne b hx)).trans q,slot:=fun b o q _ _ hx=>⟨o.slots,(hs.2 b (ne b hx)).trans q⟩,free:=fun b o q n _=>n,there:=fun b o q hx=>⟨o,(hs.2 b (ne b hx)).trans q⟩,o3:=fun _ _ e=>e,nM:=fun _ _ _ e=>e,nQ:=fun b ps e=>⟨#[],by rw[e];simp⟩}
 · intro a o q
   have na:∀b u,H b=some u→b≠C:=fun b u q z=>by rw[z,f.1]at q;cases q
   refine(I.aI a o q).i4 (fun b u hb e=>?_) (fun _ q=>q) fun _ _ q=>q
   rw[hs.2 b ?_]
   · exact e
   · rcases hb with rfl|hb
     · exact na _ _ q
     · exact na _ _ hb
 · have:b=C:=by simpa using hb
   subst this
   exact⟨f.2.2.2.1,f.2.1,f.2.2.2.2.1,f.2.2.2.2.2⟩
theorem vo{elt tg iter:Expr}{ifs:List Expr}{wi:TI}{g:TG}{c:TT}{te:TE}{pos:Pos}{Q:VK}{RR:Value→Addr→Result→Shared→Prop}(hx:X.xe=fun _ _=>False)(hc:X.calm=true)(S:bj X scope Nc fr)(hi:PI X tg iter wi)
 (hg:∀C s H ex,PG (fb X scope Nc C s H ex) tg g) (ht:∀C s H ex,se (fb X scope Nc C s H ex) ifs c) (he:∀C s H ex,PE (fb X scope Nc C s H ex) elt te) (I:Inv X pins σ H s) (h:sY wi fr g c te σ H Q)
 (fin:∀(l C:Addr) (s6:Shared) (H5:Hp) (m:Str→Option Value),s6.heap.Ns C m→kW X pins H5 C→Inv X pins σ H5 s6→Q (.ref l) H5→RR (.ref l) C (.ok .next) s6):
 wpAny (model X.prog X.w) X.A (eval iter X.env) (fun x s₁=>wpAny (model X.prog X.w) X.A (pyIter x) (fun it s₂=>wpAny (model X.prog X.w) X.A (newList []) (fun acc s₃=>
  wpAny (model X.prog X.w) X.A (newFunctionEnv scope X.env.globals (df X.env.cells scope.names []) [] X.env.qual none .none (some X.env)) (fun cenv s₄=>
   codeAny (model X.prog X.w) X.A (.compStart (.ListComp elt [⟨tg,iter,ifs,0⟩] scope pos) 0 it acc {cenv with scope:=relabel scope X.env}) (RR acc cenv.locals) s₄) X.xe s₃) X.xe s₂) X.xe s₁) X.xe s:=by
 refine bZ (hi pins s σ H _ I h) fun v s1 h1=>bZ h1 fun itv s2 h2=>?_
 obtain⟨it,fp,tn,J,H2,e,I2,T,st2,f2,hR⟩:=h2
 subst e
 refine wpAny_newList ?_ (Nat.zero_le _)
 have I3:=I2.Fy (t':=s2.toks) (au:=[]) (ys:=[]) .nil (Nat.zero_le _)
 generalize e3:({s2 with heap:=s2.heap.push {cls:= .type "list",data:= .seq ([]:List Value).toArray}}:Shared)=s3
 have I3:Inv X pins σ (upd H2 s2.heap.objs.size (.lst [])) s3:=by rw[←e3];exact I3
 have ml:s2.heap.objs.size<s3.heap.objs.size:=by rw[←e3];show _<(s2.heap.push _).objs.size;rw[Heap.size_push];omega
 have k3:∀b o,s2.heap.get? b=some o→s3.heap.get? b=some o:=fun b o q=>by rw[←e3];exact Heap.get?_push_of_some _ q
 obtain⟨W,⟨m0,w0⟩,turn⟩:=hR s2.heap.objs.size (I2.aI.fresh (Nat.le_refl _))
 refine um ?_
 have hn:(pushCells (s3.heap.push {cls:= .type "dict",data:= .dict #[]}) scope.names).Ns s3.heap.objs.size (fun _=>none):=(Heap.Ns.new s3.heap (.type "dict")).keeps (pushCells_keeps _ _)
 have hcs:∀x c,(x,c)∈cellsFrom (s3.heap.objs.size+1) scope.names []→(pushCells (s3.heap.push {cls:= .type "dict",data:= .dict #[]}) scope.names).IsCell c none:=fun x c h=>((JF scope.names _ (Heap.size_push ..)).empty x c h).1
 have k4:∀b o,s3.heap.get? b=some o→(pushCells (s3.heap.push {cls:= .type "dict",data:= .dict #[]}) scope.names).get? b=some o:=fun b o q=>pushCells_keeps _ _ b o (Heap.get?_push_of_some _ q)
 generalize(pushCells (s3.heap.push {cls:= .type "dict",data:= .dict #[]}) scope.names)=h' at hn hcs k4⊢
 have hobj:∀b∈fp,∃o,s2.heap.get? b=some o∧∀v,o.data≠ .cell v:=T.obj _ _ st2
 have hlt2:∀b∈fp,b<s3.heap.objs.size:=fun b hb=>let⟨o,q,_⟩:=hobj b hb;Heap.lt_size (k3 b o q)
 have hnl:∀b∈fp,b≠s2.heap.objs.size:=fun b hb=>by
  obtain⟨o,q,_⟩:=hobj b hb
  exact Nat.ne_of_lt (Heap.lt_size q)
 have f3:∀b∈fp,kW X pins (upd H2 s2.heap.objs.size (.lst [])) b:=fun b hb=>⟨by rw[aQ (hnl b hb)];exact(f2 b hb).1,(f2 b hb).2⟩
 have ok:=KN (C:=s3.heap.objs.size) (fp:=fp) S I3 rfl f3 hlt2 fun b hb=>(f2 b hb).2.2.2.2.1
 have I4:Inv (fb X scope Nc s3.heap.objs.size s3 (upd H2 s2.heap.objs.size (.lst [])) fp) [] (σC fr σ) (upd H2 s2.heap.objs.size (.lst [])) {s3 with heap:=h',toks:=s3.toks}:=
  Fl (s':=s3) S I3 rfl ok (fun b hb=>(f3 b hb).1) k4 hn hcs
 have st4:tn 0 h':=T.keep _ _ _ st2 fun b _ o q=>k4 b o (k3 b o q)
 generalize hXc:fb X scope Nc s3.heap.objs.size s3 (upd H2 s2.heap.objs.size (.lst [])) fp=Xc at I4
 have hgc:PG Xc tg g:=by rw[←hXc];exact hg _ _ _ _
 have htc:se Xc ifs c:=by rw[←hXc];exact ht _ _ _ _
 have hec:PE Xc elt te:=by rw[←hXc];exact he _ _ _ _
 have xP:Xc.prog=X.prog:=by rw[←hXc];rfl
 have xW:Xc.w=X.w:=by rw[←hXc];rfl
 have xK:Xc.K=X.K:=by rw[←hXc];rfl
 have xc:Xc.calm=true:=by rw[←hXc];exact hc
 have xA:Xc.A=X.A:=by rw[←hXc];rfl
 have xE:Xc.env=compEnvC scope (mx scope s3.heap.objs.size (df X.env.cells scope.names [])) s3.heap.objs.size X.env:=by rw[←hXc];rfl
 have xx:Xc.xe=fun _ _=>False:=by rw[←hXc];rfl
 have fpc:∀ {H':Hp},(∀b∈fp,H' b=none)→∀b∈fp,kW Xc [] H' b:=fun{H'} hn b hb=>by
  rw[←hXc]
  refine⟨hn b hb,Nat.ne_of_lt (hlt2 b hb),ok.uH b hb,.inl hb,(ok.D1 b hb).2,fun p hp=>by cases hp⟩
 have loop:codeAny (model X.prog X.w) X.A (.compLoop (.ListComp elt [⟨tg,iter,ifs,0⟩] scope pos) 0 (.ref it) (.ref s2.heap.objs.size) (compEnvC scope (mx scope s3.heap.objs.size (df X.env.cells scope.names [])) s3.heap.objs.size X.env))
  (RR (.ref s2.heap.objs.size) s3.heap.objs.size) {s3 with heap:=h',toks:=s3.toks}:=by
  refine AL (fun n s'=>∃i σ' H',Inv Xc [] σ' H' s'∧tn i s'.heap∧(∀b∈fp,H' b=none)∧W i n σ' H') ?_ m0 ⟨0,_,_,I4,st4,fun b hb=>(f3 b hb).1,w0⟩
  rintro n s5 ⟨i,σ5,H5,I5,st5,fr5,w5⟩
  rcases turn i n σ5 H5 w5 with⟨stop,qn⟩|⟨go,N,hN,step⟩
  · have q:=T.done Xc xP xW xK xc i [] s5 σ5 H5 (fun _ _=>False) I5 (fpc fr5) st5 stop
    rw[xA]at q
    refine bZ q fun r s6 ⟨hr,I6⟩=>?_
    subst hr
    obtain⟨m,hm,_⟩:=I6.loc
    rw[xE]at hm
    have free6:H5 s3.heap.objs.size=none:=by have:=I6.free;rw[xE]at this;exact this
    have un6:Un (pG X.stack) fp (upd H2 s2.heap.objs.size (.lst [])) H5 s3.heap s6.heap:=by have:=I6.base;rw[←hXc]at this;exact this
    have os6:s6.os=s3.os:=by have:=I6.os;rw[←hXc]at this;exact this
    have hok6:h7 X.prog X.w H5 s6.heap:=by have:=I6.aI;rw[xP,xW]at this;exact this
    have J:=I3.Cp (s':=s6) (ch:=fp) os6 un6 hok6 I6.bare fun b hb=>⟨(f3 b hb).2.2.2.1,(f3 b hb).2.1,(f3 b hb).2.2.2.2.1,(f3 b hb).2.2.2.2.2⟩
    exact fin _ _ s6 H5 m hm (I3.wg (Nat.le_refl _) free6) J qn
  · have q:=T.item Xc xP xW xK xc i [] s5 σ5 H5 (fun _ _=>False) I5 (fpc fr5) st5 go
    rw[xA]at q
    refine bZ q fun r s6 ⟨u,hr,h6⟩=>?_
    subst hr
    refine bZ h6 fun _ s7 ⟨x,H7,I7,r7,y7,st7,fr7⟩=>?_
    have I7':=I7.pinned (fpc fr7) (T.obj _ _ st7)
    have q8:=hgc _ s7 σ5 H7 x u _ I7' r7 (step x H7 y7)
    rw[xP,xW,xA,xE,xx]at q8
    refine bZ q8 fun _ s8 ⟨σ8,H8,I8,q8⟩=>?_
    have q9:=htc _ s8 σ8 H8 _ I8 q8
    rw[xP,xW,xA,xE,xx]at q9
    refine bZ q9 fun b s9 ⟨H9,I9,q9⟩=>?_
    have again:∀ {H':Hp} {s':Shared},Inv Xc ([]++rW fp s7.heap) σ8 H' s'→N σ8 H'→∃m,m<n∧∃i σ' H',Inv Xc [] σ' H' s'∧tn i s'.heap∧(∀b∈fp,H' b=none)∧W i m σ' H':=fun{H' s'} J nn=>by
     obtain⟨m',hm,w7⟩:=hN σ8 H' nn
     refine⟨m',hm,i+1,σ8,H',J.hO,T.keep _ _ _ st7 fun b hb o e=>(J.pin (b,o) (List.mem_append_right _ (List.mem_append_right _ (m4 hb e)))).1,fun b hb=>?_,w7⟩
     obtain⟨o,e,d⟩:=T.obj _ _ st7 b hb
     exact(J.pin (b,o) (List.mem_append_right _ (List.mem_append_right _ (m4 hb e)))).2.1
    cases b with
    |false=>exact again I9 q9
    |true=>
     have qe:=hec _ s9 σ8 H9 _ I9 q9
     rw[xP,xW,xA,xE,xx]at qe
     refine bZ qe fun y s10 ⟨vy,H10,I10,ry,ys,hy,hlt,qN⟩=>?_
     have qa:=xq (X:=Xc) _ s10 σ8 H10 (.ref s2.heap.objs.size) [vy] (.ref s2.heap.objs.size) [y] (fun _ H'=>N σ8 H') I10 rfl (.cons ry .nil) ⟨_,ys,vy,rfl,rfl,hy,hlt,qN⟩
     rw[xP,xW,xA,xx]at qa
     exact bZ qa fun _ s11 ⟨_,H11,I11,_,q11⟩=>again I11 q11
 refine codeAny_compStart_list ?_ ?_
 · exact loop
 · exact T.self _ 0 _ _ _ st4 loop
theorem Bc{elt tg iter:Expr}{ifs:List Expr}{wi:TI}{g:TG}{c:TT}{te:TE}{pos:Pos}(hx:X.xe=fun _ _=>False)(hc:X.calm=true)(S:bj X scope Nc fr)(hi:PI X tg iter wi)
 (hg:∀C s H ex,PG (fb X scope Nc C s H ex) tg g) (ht:∀C s H ex,se (fb X scope Nc C s H ex) ifs c) (he:∀C s H ex,PE (fb X scope Nc C s H ex) elt te)
 (hs:∀x,foldedSetIterable iter X.env x=pure x:=by intro _;rfl):PE X (.ListComp elt [⟨tg,iter,ifs,0⟩] scope pos) (sY wi fr g c te):=by
 intro pins s σ H Q I h
 rw[eval_ListComp]
 have hcl:closureFor scope X.env=pure (df X.env.cells scope.names []):=mJ fun x hx hk=>I.ok.has x.1 (S.free x hx hk)
 refine wpAny_comprehension_free rfl hs hcl S.kind S.names ?_
 exact vo (RR:=fun acc C=>compPost (model X.prog X.w) X.A X.xe none (EP X pins σ Q) acc C) hx hc S hi hg ht he I h fun l C s6 H5 m hm f J q=>⟨m,hm,fun h'' hs''=>⟨.ref l,H5,Inv.forget J f hs'',rfl,q⟩⟩
theorem BK{elt tg iter:Expr}{ifs:List Expr}{wi:TI}{g:TG}{c:TT}{te:TE}{pos pos' spos:Pos}{i:Nat}{x:Str}(hx:X.xe=fun _ _=>False)(hc:X.calm=true)(S:bj X scope Nc fr)(hi:PI X tg iter wi)
 (hg:∀C s H ex,PG (fb X scope Nc C s H ex) tg g) (ht:∀C s H ex,se (fb X scope Nc C s H ex) ifs c) (he:∀C s H ex,PE (fb X scope Nc C s H ex) elt te) (hN:X.N.Nodup) (hni:X.N[i]?=some x) (hl:Loc X.env.scope x) (hf:X.fn x=true∨X.env.scope.names.lookup x=some .local)
 (hsw:swapsWith (.ListComp elt [⟨tg,iter,ifs,0⟩] scope pos) (some (.Name x pos')) spos.line X.env=pure true)
 (hs:∀x,foldedSetIterable iter X.env x=pure x:=by intro _;rfl):PS X (.Assign [.Name x pos'] (.ListComp elt [⟨tg,iter,ifs,0⟩] scope pos) spos) (lB (sY wi fr g c te) (fu i)):=by
 intro pins s σ H D I h
 have hcl:closureFor scope X.env=pure (df X.env.cells scope.names []):=mJ fun x hx hk=>I.ok.has x.1 (S.free x hx hk)
 rw[exec_Assign_Name_used _ _ _ _ hsw]
 refine wpAny_bind (wpAny_standAt (wpAny_bind ?_))
 show wpAny _ X.A (do let _ ←comprehension (.ListComp elt [⟨tg,iter,ifs,0⟩] scope pos) scope X.env _ (newList []) false (eval iter X.env) (some (assign (.Name x pos') X.env))) _ _ s
 refine wpAny_bind (wpAny_mono (wpAny_comprehension_free (use:=some (assign (.Name x pos') X.env)) (Q:=fun _ s'=>SP X pins D .next s') rfl hs hcl S.kind S.names
  (vo (RR:=fun acc C=>compPost (model X.prog X.w) X.A X.xe (some (assign (.Name x pos') X.env)) (fun _ s'=>SP X pins D .next s') acc C) hx hc S hi hg ht he I h fun l C s6 H5 m hm f J q=>?_)) (fun _ s' hq=>wpAny_pure (wpAny_pure hq)) fun _ _ e=>e)
 show wpAny _ X.A (assign (.Name x pos') X.env (.ref l)) _ _ _
 refine wpAny_assign_Name (w6 J hN hni hl (show RelV (.ref l) (.ref l)from rfl) (fun s7 J7 hch=>?_) hf)
 obtain⟨a,hsame,ha⟩:=hch
 have hCa:C≠a:=by
  rcases ha with rfl|ha
  · exact f.2.1
  · exact fun z=>f.2.2.2.2.1 x a ha z.symm
 refine⟨m,hm.sameBut hsame hCa,fun h'' hs''=>⟨σ.set i (some (.ref l)),H5,Inv.forget J7 f hs'',q⟩⟩
end
end L3
namespace L3
open PySem PySem.Spec L2
open PyProof.Rows hiding St
inductive D where
 |aA|bl (b:Bool)|int (i:Int)|str (x:Str)|ty (n:String)|ref (n:Nat)|lst (xs:List D)|tup (xs:List D)
inductive Cell where
 |lst (xs:List D)|ins (C:Addr) (fs:List (Str×D))|dead
  |tab (P:Addr) (pos:Pos) (qual:Str) (b:Bool)
noncomputable abbrev af:=List Cell
noncomputable abbrev bM:=List (Option D)
mutual
noncomputable def Rep(α:List (Option Addr))(H:Hp):D→V→Prop
 | .aA,v=>v= .aA
 | .bl b,v=>v= .bl b
 | .int i,v=>v= .int i
 | .str x,v=>v= .str x
 | .ty n,v=>v= .ty n
 | .ref n,v=>α[n]?=some none∨∃a,α[n]?=some (some a)∧v= .ref a
 | .lst xs,v=>∃a vs,v= .ref a∧some a∉α∧Rd H a (.lst vs)∧aJ α H xs vs
 | .tup xs,v=>∃a vs,v= .ref a∧some a∉α∧H a=some (.tup vs)∧aJ α H xs vs
noncomputable def aJ(α:List (Option Addr))(H:Hp):List D→List V→Prop
 | [],vs=>vs=[]
 |d::ds,vs=>∃v r,vs=v::r∧Rep α H d v∧aJ α H ds r
end
theorem bg{α:List (Option Addr)}{H:Hp}:∀ {ds:List D} {vs:List V},aJ α H ds vs↔Paired (Rep α H) ds vs
 | [],vs=>by
   unfold aJ
   constructor
   · rintro rfl;exact .nil
   · intro h;cases h;rfl
 |d::ds,vs=>by
  unfold aJ
  constructor
  · rintro⟨v,r,rfl,h1,h2⟩;exact .cons h1 (bg.mp h2)
  · intro h;cases h with|cons h1 h2=>exact⟨_,_,rfl,h1,bg.mpr h2⟩
section
variable {α:List (Option Addr)}{H:Hp}
theorem aJ.length{ds:List D}{vs:List V}(h:aJ α H ds vs):ds.length=vs.length:=Paired.length (bg.mp h)
theorem uS{A B:Type}{F:A→B→Prop}:∀ {xs:List A} {ys:List B} {i:Nat} {x:A},Paired F xs ys→xs[i]?=some x→∃y,ys[i]?=some y∧F x y
 |_,_,_,_,.nil,e=>by simp at e
 |_,_,0,_,.cons r _,e=>by simp at e;subst e;exact⟨_,rfl,r⟩
 |_,_,i+1,x,.cons _ t,e=>by
  obtain⟨u,h1,h2⟩:=uS (i:=i) (x:=x) t (by simpa using e)
  exact⟨u,by simpa using h1,h2⟩
theorem fS{A B:Type}{F:A→B→Prop}:∀ {xs xs':List A} {ys ys':List B},Paired F xs ys→Paired F xs' ys'→Paired F (xs++xs') (ys++ys')
 |_,_,_,_,.nil,s=>s
 |_,_,_,_,.cons r t,s=> .cons r (fS t s)
theorem tR{A B:Type}{F:A→B→Prop}:∀ {xs:List A} {ys:List B} (n:Nat),Paired F xs ys→Paired F (xs.take n) (ys.take n)
 |_,_,0,_=> .nil
 |_,_,_+1,.nil=> .nil
 |_,_,n+1,.cons r t=> .cons r (tR n t)
theorem tQ{A B:Type}{F:A→B→Prop}:∀ {xs:List A} {ys:List B} (n:Nat),Paired F xs ys→Paired F (xs.drop n) (ys.drop n)
 |_,_,0,r=>r
 |_,_,_+1,.nil=> .nil
 |_,_,n+1,.cons _ t=>tQ n t
theorem p8{A B:Type}{F:A→B→Prop}{x:A}{y:B}(r:F x y):∀ {xs:List A} {ys:List B} (i:Nat),Paired F xs ys→Paired F (xs.set i x) (ys.set i y)
 |_,_,_,.nil=> .nil
 |_,_,0,.cons _ t=> .cons r t
 |_,_,i+1,.cons q t=> .cons q (p8 r i t)
theorem o_{A B:Type}{F:A→B→Prop}{xs:List A}{ys:List B}(h:Paired F xs ys):∀k:Nat,Paired F (List.replicate k xs).flatten (List.replicate k ys).flatten
 |0=> .nil
 |k+1=>by
  rw[List.replicate_succ,List.replicate_succ,List.flatten_cons,List.flatten_cons]
  exact fS h (o_ h k)
theorem aJ.get{ds:List D}{vs:List V}{i:Nat}{d:D}(h:aJ α H ds vs)(e:ds[i]?=some d):∃v,vs[i]?=some v∧Rep α H d v:=uS (bg.mp h) e
end
structure Step(α:List (Option Addr))(H:Hp)(α':List (Option Addr))(H':Hp):Prop where
 ext:∀b o,some b∉α→H b=some o→H' b=some o
 pre:∀(n:Nat) (x:Option Addr),α[n]?=some x→α'[n]?=some x∨α'[n]?=some none
 new:∀b,some b∈α'→some b∉α→H b=none
theorem Step.refl{α:List (Option Addr)}{H:Hp}:Step α H α H:=⟨fun _ _ _ h=>h,fun _ _ h=> .inl h,fun _ h n=>absurd h n⟩
theorem Step.trans{α α1 α2:List (Option Addr)}{H H1 H2:Hp}(a:Step α H α1 H1)(b:Step α1 H1 α2 H2):Step α H α2 H2 where
 ext:=fun c o hc e=>b.ext c o (fun z=>by rw[a.new c z hc]at e;cases e) (a.ext c o hc e)
 pre:=fun n x e=>by
  rcases a.pre n x e with h|h
  · exact b.pre n x h
  · rcases b.pre n none h with h'|h'
    · exact .inr h'
    · exact .inr h'
 new:=fun c hc n=>by
  by_cases h1:some c∈α1
  · exact a.new c h1 n
  · have:=b.new c hc h1
    cases q:H c with
    |none=>rfl
    |some o=>rw[a.ext c o n q]at this;cases this
theorem Step.laid{α:List (Option Addr)}{H:Hp}{p:Addr}{o:HO}(h:H p=none):Step α H α (upd H p o):=
 ⟨fun b u _ e=>by rw[aQ (dq e h)];exact e,fun _ _ h=> .inl h,fun _ h n=>absurd h n⟩
theorem Step.cell{α:List (Option Addr)}{H:Hp}{p:Addr}{o:HO}(h:H p=none):Step α H (α++[some p]) (upd H p o):=
 ⟨fun b u _ e=>by rw[aQ (dq e h)];exact e,fun n x e=> .inl (by rw[List.getElem?_append_left (List.getElem?_eq_some_iff.mp e).1];exact e),fun b hb n=>by
  rcases List.mem_append.mp hb with z|z
  · exact absurd z n
  · have:b=p:=by simpa using z
    subst this;exact h⟩
theorem Step.write{α:List (Option Addr)}{H:Hp}{p:Addr}{o:HO}(h:some p∈α):Step α H α (upd H p o):=
 ⟨fun b u n e=>by rw[aQ (fun z=>by subst z;exact n h)];exact e,fun _ _ h=> .inl h,fun _ h n=>absurd h n⟩
mutual
theorem Rep.step{α α':List (Option Addr)}{H H':Hp}(s:Step α H α' H'):∀ {d:D} {v:V},Rep α H d v→Rep α' H' d v
 | .aA,_,h=>by unfold Rep at h⊢;exact h
 | .bl _,_,h=>by unfold Rep at h⊢;exact h
 | .int _,_,h=>by unfold Rep at h⊢;exact h
 | .str _,_,h=>by unfold Rep at h⊢;exact h
 | .ty _,_,h=>by unfold Rep at h⊢;exact h
 | .ref n,_,h=>by
   unfold Rep at h⊢
   rcases h with h|⟨a,e,r⟩
   · rcases s.pre _ _ h with z|z<;>exact .inl z
   · rcases s.pre _ _ e with z|z
     · exact .inr ⟨a,z,r⟩
     · exact .inl z
 | .lst xs,_,h=>by
   unfold Rep at h⊢
   obtain⟨a,vs,e,n,r,q⟩:=h
   refine⟨a,vs,e,fun z=>?_,?_,aJ.step s q⟩
   · have:=s.new a z n
     rcases r with r|⟨o,r⟩<;>(rw[this]at r;cases r)
   · rcases r with r|⟨o,r⟩
     · exact .inl (s.ext _ _ n r)
     · exact .inr ⟨o,s.ext _ _ n r⟩
 | .tup xs,_,h=>by
   unfold Rep at h⊢
   obtain⟨a,vs,e,n,r,q⟩:=h
   exact⟨a,vs,e,(fun z=>by rw[s.new a z n]at r;exact nomatch r),s.ext _ _ n r,aJ.step s q⟩
theorem aJ.step{α α':List (Option Addr)}{H H':Hp}(s:Step α H α' H'):∀ {ds:List D} {vs:List V},aJ α H ds vs→aJ α' H' ds vs
 | [],_,h=>by unfold aJ at h⊢;exact h
 |d::ds,_,h=>by
  unfold aJ at h⊢
  obtain⟨v,r,e,h1,h2⟩:=h
  exact⟨v,r,e,Rep.step s h1,aJ.step s h2⟩
end
structure cm(G F H:Hp):Prop where
 eq:∀b,H b=(G b).or (F b)
 zK:∀b o,G b=some o→F b=none
section
variable {G F H:Hp}
theorem cm.get(P:cm G F H){b:Addr}{o:HO}(h:G b=some o):H b=some o:=by rw[P.eq b,h];rfl
theorem cm.same(P:cm G F H):Gn G H:=fun _ _ h=>P.get h
theorem cm.none(P:cm G F H){b:Addr}(h:H b=none):G b=none∧F b=none:=by
 have e:=P.eq b
 rw[h]at e
 cases q:G b with
 |none=>rw[q]at e;exact⟨rfl,e.symm⟩
 |some o=>rw[q]at e;cases e
theorem cm.frame(P:cm G F H){b:Addr}{o:HO}(h:F b=some o):H b=some o∧G b=Option.none:=by
 have hn:G b=Option.none:=by
  cases q:G b with
  |none=>rfl
  |some u=>rw[P.zK b u q]at h;cases h
 exact⟨by rw[P.eq b,hn,h];rfl,hn⟩
theorem cm.laid(P:cm G F H){p:Addr}{o:HO}(h:H p=Option.none):cm (upd G p o) F (upd H p o):=by
 obtain⟨h1,h2⟩:=P.none h
 refine⟨fun b=>?_,fun b u e=>?_⟩
 · by_cases hb:b=p
   · subst hb;rw[a5,a5];rfl
   · rw[aQ hb,aQ hb];exact P.eq b
 · by_cases hb:b=p
   · subst hb;exact h2
   · rw[aQ hb]at e;exact P.zK b u e
theorem cm.write(P:cm G F H){p:Addr}{o o':HO}(h:G p=some o):cm (upd G p o') F (upd H p o'):=by
 refine⟨fun b=>?_,fun b u e=>?_⟩
 · by_cases hb:b=p
   · subst hb;rw[a5,a5];rfl
   · rw[aQ hb,aQ hb];exact P.eq b
 · by_cases hb:b=p
   · subst hb;exact P.zK b o h
   · rw[aQ hb]at e;exact P.zK b u e
theorem cm.hide(P:cm G F H){p:Addr}{o:HO}(h:H p=Option.none):cm G (upd F p o) (upd H p o):=by
 obtain⟨h1,h2⟩:=P.none h
 refine⟨fun b=>?_,fun b u e=>?_⟩
 · by_cases hb:b=p
   · subst hb;rw[a5,a5,h1];rfl
   · rw[aQ hb,aQ hb];exact P.eq b
 · by_cases hb:b=p
   · subst hb;rw[h1]at e;cases e
   · rw[aQ hb];exact P.zK b u e
theorem cm.OY(P:cm G F H){p:Addr}{o o':HO}(h:F p=some o):cm G (upd F p o') (upd H p o'):=by
 have h1:=(P.frame h).2
 refine⟨fun b=>?_,fun b u e=>?_⟩
 · by_cases hb:b=p
   · subst hb;rw[a5,a5,h1];rfl
   · rw[aQ hb,aQ hb];exact P.eq b
 · by_cases hb:b=p
   · subst hb;rw[h1]at e;cases e
   · rw[aQ hb];exact P.zK b u e
theorem cm.show{p:Addr}{o:HO}(P:cm G (upd F p o) H)(h:F p=Option.none):cm (upd G p o) F H:=by
 have h1:=(P.frame (b:=p) a5)
 refine⟨fun b=>?_,fun b u e=>?_⟩
 · by_cases hb:b=p
   · subst hb;rw[a5,h1.1];rfl
   · rw[aQ hb,P.eq b,aQ hb]
 · by_cases hb:b=p
   · subst hb;exact h
   · rw[aQ hb]at e
     have:=P.zK b u e
     rw[aQ hb]at this;exact this
end
mutual
theorem Rep.mono{α:List (Option Addr)}{G H:Hp}(s:Gn G H):∀ {d:D} {v:V},Rep α G d v→Rep α H d v
 | .aA,_,h=>by unfold Rep at h⊢;exact h
 | .bl _,_,h=>by unfold Rep at h⊢;exact h
 | .int _,_,h=>by unfold Rep at h⊢;exact h
 | .str _,_,h=>by unfold Rep at h⊢;exact h
 | .ty _,_,h=>by unfold Rep at h⊢;exact h
 | .ref n,_,h=>by unfold Rep at h⊢;exact h
 | .lst xs,_,h=>by
   unfold Rep at h⊢
   obtain⟨a,vs,e,n,r,q⟩:=h
   refine⟨a,vs,e,n,?_,aJ.mono s q⟩
   rcases r with r|⟨o,r⟩
   · exact .inl (s _ _ r)
   · exact .inr ⟨o,s _ _ r⟩
 | .tup xs,_,h=>by
   unfold Rep at h⊢
   obtain⟨a,vs,e,n,r,q⟩:=h
   exact⟨a,vs,e,n,s _ _ r,aJ.mono s q⟩
theorem aJ.mono{α:List (Option Addr)}{G H:Hp}(s:Gn G H):∀ {ds:List D} {vs:List V},aJ α G ds vs→aJ α H ds vs
 | [],_,h=>by unfold aJ at h⊢;exact h
 |d::ds,_,h=>by
  unfold aJ at h⊢
  obtain⟨v,r,e,h1,h2⟩:=h
  exact⟨v,r,e,Rep.mono s h1,aJ.mono s h2⟩
end
noncomputable def jY(α:List (Option Addr))(H:Hp):List (Str×D)→List (Str×V)→Prop:=Paired fun p q=>p.1=q.1∧Rep α H p.2 q.2
noncomputable def kC(α:List (Option Addr))(H:Hp)(a:Addr):Cell→Prop
 | .lst xs=>∃vs,H a=some (.lst vs)∧aJ α H xs vs
 | .ins C fs=>∃dx vs,H a=some (.ins C dx vs)∧jY α H fs vs
 | .dead=>False
 | .tab P pos qual b=>a=P∧∃ps:Array Value,H a=some (.kh ps)∧TriplesOk ps.toList∧
    ((b=false∧codeAmong pos ps.toList=none)∨(b=true∧∃c o vs t,codeAmong pos ps.toList=some (.ref c)∧some c∉α∧H c=some (.gj o (.own c))∧o.data= .fields vs∧vs[1]?=some (.str qual t)))
structure aY(α:List (Option Addr))(st:af)(H:Hp):Prop where
 len:α.length=st.length
 nd:∀(i j:Nat) (a:Addr),α[i]?=some (some a)→α[j]?=some (some a)→i=j
 at':∀(n:Nat) (c:Cell),st[n]?=some c→(c= .dead∧α[n]?=some none)∨∃a,α[n]?=some (some a)∧kC α H a c
theorem jY.step{α α':List (Option Addr)}{H H':Hp}(s:Step α H α' H'){ds:List (Str×D)}{vs:List (Str×V)}(h:jY α H ds vs):jY α' H' ds vs:=Paired.F3 h fun _ _ z=>⟨z.1,z.2.step s⟩
theorem kC.same{α α':List (Option Addr)}{H H':Hp}{a:Addr}{c:Cell}(s:Step α H α' H')(e:H' a=H a)(h:kC α H a c):kC α' H' a c:=by
 cases c with
 |lst xs=>obtain⟨vs,h1,h2⟩:=h;exact⟨vs,e.trans h1,h2.step s⟩
 |ins C fs=>obtain⟨dx,vs,h1,h2⟩:=h;exact⟨dx,vs,e.trans h1,h2.step s⟩
 |dead=>exact h.elim
 |tab P pos qual b=>
  obtain⟨z,ps,h1,h2,h3⟩:=h
  refine⟨z,ps,e.trans h1,h2,?_⟩
  rcases h3 with h3|⟨hb,c,o,vs,t,q1,q2,q3,q4⟩
  · exact .inl h3
  · exact .inr ⟨hb,c,o,vs,t,q1,(fun y=>by rw[s.new c y q2]at q3;cases q3),s.ext c _ q2 q3,q4⟩
theorem kC.some{α:List (Option Addr)}{H:Hp}{a:Addr}{c:Cell}(h:kC α H a c):∃o,H a=some o:=by
 cases c with
 |lst xs=>obtain⟨vs,h1,h2⟩:=h;exact⟨_,h1⟩
 |ins C fs=>obtain⟨dx,vs,h1,h2⟩:=h;exact⟨_,h1⟩
 |dead=>exact h.elim
 |tab P pos qual b=>obtain⟨_,ps,h1,_⟩:=h;exact⟨_,h1⟩
theorem dU{α:List (Option Addr)}{H:Hp}{n:Nat}{v:V}{a:Addr}(e:α[n]?=Option.some (Option.some a))(r:Rep α H (.ref n) v):v= .ref a:=by
 unfold Rep at r
 rcases r with r|⟨b,eb,rfl⟩
 · rw[e]at r;cases r
 · rw[e]at eb;cases eb;rfl
section
variable {α:List (Option Addr)}{st:af}{H:Hp}
theorem aY.fv(S:aY α st H){n:Nat}{xs:List D}(e:st[n]?=Option.some (.lst xs)):∃a,α[n]?=Option.some (Option.some a)∧∃vs,H a=Option.some (.lst vs)∧aJ α H xs vs:=by
 rcases S.at' n _ e with⟨z,_⟩|z
 · cases z
 · exact z
theorem aY.yo(S:aY α st H){n:Nat}{C:Addr}{fs:List (Str×D)}(e:st[n]?=Option.some (.ins C fs)):∃a,α[n]?=Option.some (Option.some a)∧∃dx vs,H a=Option.some (.ins C dx vs)∧jY α H fs vs:=by
 rcases S.at' n _ e with⟨z,_⟩|z
 · cases z
 · exact z
theorem aY.mem(S:aY α st H){a:Addr}(h:Option.some a∈α):∃(n:Nat) (c:Cell),α[n]?=Option.some (Option.some a)∧st[n]?=Option.some c∧kC α H a c:=by
 obtain⟨n,hn,e⟩:=List.mem_iff_getElem.mp h
 have hl:n<st.length:=by rw[←S.len];exact hn
 have e':α[n]?=Option.some (Option.some a):=by rw[List.getElem?_eq_getElem hn,e]
 rcases S.at' n st[n] (by simp[hl])with⟨_,q⟩|⟨a',q,ca⟩
 · rw[e']at q;cases q
 · rw[e']at q;cases q
   exact⟨n,_,e',by simp[hl],ca⟩
theorem aY.kl(S:aY α st H){p:Addr}(h:H p=none):Option.some p∉α:=fun z=>by
 obtain⟨n,c,_,_,ca⟩:=S.mem z
 obtain⟨o,e⟩:=ca.some
 rw[h]at e;cases e
theorem aY.laid(S:aY α st H){p:Addr}{o:HO}(h:H p=none):aY α st (upd H p o):=
 ⟨S.len,S.nd,fun n c e=>by
  rcases S.at' n c e with z|⟨a,q,ca⟩
  · exact .inl z
  · exact .inr ⟨a,q,ca.same (Step.laid h) (aQ (by obtain⟨u,z⟩:=ca.some;exact dq z h))⟩⟩
theorem aY.cell(S:aY α st H){p:Addr}{o:HO}{c:Cell}(h:H p=none)(hc:kC (α++[Option.some p]) (upd H p o) p c):aY (α++[Option.some p]) (st++[c]) (upd H p o) where
 len:=by rw[List.length_append,List.length_append,S.len];rfl
 nd:=fun i j a ei ej=>by
  have key:∀(i:Nat) (a:Addr),(α++[Option.some p])[i]?=Option.some (Option.some a)→(i<α.length∧α[i]?=Option.some (Option.some a))∨(i=α.length∧a=p):=by
   intro i a e
   by_cases hi:i<α.length
   · rw[List.getElem?_append_left hi]at e;exact .inl ⟨hi,e⟩
   · rw[List.getElem?_append_right (Nat.le_of_not_lt hi)]at e
     have h0:i-α.length=0:=by
      cases q:i-α.length with
      |zero=>rfl
      |succ k=>rw[q]at e;simp at e
     rw[h0]at e
     have:p=a:=by simpa using e
     exact .inr ⟨by omega,this.symm⟩
  rcases key i a ei with⟨h1,e1⟩|⟨h1,e1⟩<;>rcases key j a ej with⟨h2,e2⟩|⟨h2,e2⟩
  · exact S.nd i j a e1 e2
  · subst e2;exact absurd (List.mem_of_getElem? e1) (S.kl h)
  · subst e1;exact absurd (List.mem_of_getElem? e2) (S.kl h)
  · omega
 at':=fun n d e=>by
  by_cases hn:n<st.length
  · rw[List.getElem?_append_left hn]at e
    have hl:n<α.length:=by rw[S.len];exact hn
    rcases S.at' n d e with⟨z,q⟩|⟨a,q,ca⟩
    · exact .inl ⟨z,by rw[List.getElem?_append_left hl];exact q⟩
    · exact .inr ⟨a,by rw[List.getElem?_append_left hl];exact q,ca.same (Step.cell h) (aQ (by obtain⟨u,z⟩:=ca.some;exact dq z h))⟩
  · rw[List.getElem?_append_right (Nat.le_of_not_lt hn)]at e
    have h0:n-st.length=0:=by
     cases q:n-st.length with
     |zero=>rfl
     |succ k=>rw[q]at e;simp at e
    rw[h0]at e
    have hd:c=d:=by simpa using e
    subst hd
    refine .inr ⟨p,?_,hc⟩
    rw[List.getElem?_append_right (by rw[S.len];exact Nat.le_of_not_lt hn),S.len,h0]
    rfl
theorem aY.write(S:aY α st H){p:Addr}{o:HO}{c:Cell}{n:Nat}(e:α[n]?=Option.some (Option.some p))(hc:kC α (upd H p o) p c):aY α (st.set n c) (upd H p o) where
 len:=by rw[List.length_set];exact S.len
 nd:=S.nd
 at':=fun m d q=>by
  have hp:Option.some p∈α:=List.mem_of_getElem? e
  by_cases hm:m=n
  · subst hm
    have hl:m<st.length:=by
     have:=(List.getElem?_eq_some_iff.mp q).1
     rw[List.length_set]at this;exact this
    rw[List.getElem?_set_self hl]at q
    cases q
    exact .inr ⟨p,e,hc⟩
  · rw[List.getElem?_set_ne (Ne.symm hm)]at q
    rcases S.at' m d q with z|⟨a,r,ca⟩
    · exact .inl z
    · refine .inr ⟨a,r,ca.same (Step.write hp) (aQ fun z=>?_)⟩
      subst z
      exact hm (S.nd m n _ r e)
end
end L3
namespace L3
open PySem PySem.Spec L2
open PyProof.Rows hiding St
noncomputable abbrev DK:=D→af→Prop
noncomputable abbrev DE:=bM→af→DK→Prop
noncomputable abbrev DT:=bM→af→(Bool→af→Prop)→Prop
noncomputable abbrev DA:=bM→af→(List D→af→Prop)→Prop
structure mY where
 nx:bM→af→Prop
 rt:DK
 bk:bM→af→Prop:=fun _ _=>False
 ct:bM→af→Prop:=fun _ _=>False
noncomputable abbrev DS:=mY→bM→af→Prop
structure dO(α:List (Option Addr))(H:Hp)(σd:bM)(σ:L2.St):Prop where
 len:σd.length=σ.length
 at':∀(i:Nat) (d:D),σd[i]?=some (some d)→∃v,σ[i]?=some (some v)∧Rep α H d v
theorem dO.step{α α':List (Option Addr)}{H H':Hp}{σd:bM}{σ:L2.St}(s:Step α H α' H')(h:dO α H σd σ):dO α' H' σd σ:=
 ⟨h.len,fun i d e=>let⟨v,q,r⟩:=h.at' i d e;⟨v,q,r.step s⟩⟩
theorem dO.set{α:List (Option Addr)}{H:Hp}{σd:bM}{σ:L2.St}(h:dO α H σd σ)(i:Nat){d:D}{v:V}(r:Rep α H d v):dO α H (σd.set i (some d)) (σ.set i (some v)):=by
 refine⟨by rw[List.length_set,List.length_set,h.len],fun j e q=>?_⟩
 have hl:=h.len
 by_cases hj:j=i
 · subst hj
   have hlt:j<σd.length:=by
    have:=(List.getElem?_eq_some_iff.mp q).1
    rw[List.length_set]at this;exact this
   rw[List.getElem?_set_self hlt]at q
   cases q
   exact⟨v,List.getElem?_set_self (by omega),r⟩
 · rw[List.getElem?_set_ne (Ne.symm hj)]at q
   rw[List.getElem?_set_ne (Ne.symm hj)]
   exact h.at' j e q
noncomputable def LK(α:List (Option Addr))(G F:Hp)(K:DK)(Q:VK):Prop:=∀d st',K d st'→∀α' G' H' v,Step α G α' G'→cm G' F H'→aY α' st' G'→Rep α' G' d v→Q v H'
noncomputable def GD(α:List (Option Addr))(G F:Hp)(K:Bool→af→Prop)(Q:Bool→Hp→Prop):Prop:=∀b st',K b st'→∀α' G' H',Step α G α' G'→cm G' F H'→aY α' st' G'→Q b H'
noncomputable def O8(α:List (Option Addr))(G F:Hp)(K:List D→af→Prop)(Q:List V→Hp→Prop):Prop:=∀ds st',K ds st'→∀α' G' H' vs,Step α G α' G'→cm G' F H'→aY α' st' G'→aJ α' G' ds vs→Q vs H'
inductive NA(t:DE)(σ:L2.St)(H:Hp)(Q:VK):Prop
 |mk (α:List (Option Addr)) (σd:bM) (st:af) (K:DK) (G F:Hp) (P:cm G F H) (R:dO α G σd σ) (S:aY α st G) (h:t σd st K) (k:LK α G F K Q):NA t σ H Q
noncomputable def LE(t:DE):TE:=NA t
inductive NO(t:DT)(σ:L2.St)(H:Hp)(Q:Bool→Hp→Prop):Prop
 |mk (α:List (Option Addr)) (σd:bM) (st:af) (K:Bool→af→Prop) (G F:Hp) (P:cm G F H) (R:dO α G σd σ) (S:aY α st G) (h:t σd st K) (k:GD α G F K Q):NO t σ H Q
noncomputable def LT(t:DT):TT:=NO t
inductive NJ(t:DA)(σ:L2.St)(H:Hp)(Q:List V→Hp→Prop):Prop
 |mk (α:List (Option Addr)) (σd:bM) (st:af) (K:List D→af→Prop) (G F:Hp) (P:cm G F H) (R:dO α G σd σ) (S:aY α st G) (h:t σd st K) (k:O8 α G F K Q):NJ t σ H Q
noncomputable def LA(t:DA):TA:=NJ t
theorem LK.here{α:List (Option Addr)}{G F H:Hp}{K:DK}{Q:VK}(h:LK α G F K Q)(P:cm G F H){d:D}{st:af}{v:V}(k:K d st)(S:aY α st G)(r:Rep α G d v):Q v H:=h d st k α G H v Step.refl P S r
theorem LK.at{α α1:List (Option Addr)}{G F G1:Hp}{K:DK}{Q:VK}(h:LK α G F K Q)(s:Step α G α1 G1):LK α1 G1 F K Q:=fun d st' k α' G' H' v s' P S r=>h d st' k α' G' H' v (s.trans s') P S r
theorem GD.at{α α1:List (Option Addr)}{G F G1:Hp}{K:Bool→af→Prop}{Q:Bool→Hp→Prop}(h:GD α G F K Q)(s:Step α G α1 G1):GD α1 G1 F K Q:=fun d st' k α' G' H' s' P S=>h d st' k α' G' H' (s.trans s') P S
section
variable {X:Cx}{a b c e:Expr}{es:List Expr}{ta tb tc te:DE}{pos:Pos}
theorem PE.imp{t t':TE}(h:PE X e t)(f:∀σ H Q,t' σ H Q→t σ H Q):PE X e t':=fun pins s σ H Q I q=>h pins s σ H Q I (f σ H Q q)
theorem PT.imp{t t':TT}(h:PT X e t)(f:∀σ H Q,t' σ H Q→t σ H Q):PT X e t':=fun pins s σ H Q I q=>h pins s σ H Q I (f σ H Q q)
theorem PW.imp{t t':TT}(h:PW X e t)(f:∀σ H Q,t' σ H Q→t σ H Q):PW X e t':=fun w pins s σ H Q I q=>h w pins s σ H Q I (f σ H Q q)
theorem PA.imp{t t':TA}(h:PA X es t)(f:∀σ H Q,t' σ H Q→t σ H Q):PA X es t':=fun p pins s σ H Q I q=>h p pins s σ H Q I (f σ H Q q)
noncomputable def ab(i:Nat):DE:=fun σ st K=>match σ[i]? with|some (some d)=>K d st|_=>False
noncomputable def dC(d:D):DE:=fun _ st K=>K d st
theorem L_{i:Nat}{x:Str}(h:PE X (.Name x pos) (Lm i)):PE X (.Name x pos) (LE (ab i)):=PE.imp h fun σ H Q ⟨α,σd,st,K,G,F,P,R,S,t,k⟩=>by
 unfold ab at t
 split at t
 · rename_i d q
   obtain⟨v,e,r⟩:=R.at' i d q
   exact⟨v,e,k.here P t S r⟩
 · exact t.elim
theorem pF{v:V}{d:D}(h:PE X e (tC v))(r:∀α H,Rep α H d v):PE X e (LE (dC d)):=PE.imp h fun σ H Q ⟨α,σd,st,K,G,F,P,R,S,t,k⟩=>k.here P t S (r α G)
theorem Nt{i:Int}{j:Nat}:PE X (.Constant (.int i) j pos) (LE (dC (.int i))):=pF Jl fun _ _=>by unfold Rep;rfl
theorem Ob{i:Bool}{j:Nat}:PE X (.Constant (.bool i) j pos) (LE (dC (.bl i))):=pF M9 fun _ _=>by unfold Rep;rfl
theorem MS{i:Str}{j:Nat}:PE X (.Constant (.str i) j pos) (LE (dC (.str i))):=pF J_ fun _ _=>by unfold Rep;rfl
theorem MW{j:Nat}:PE X (.Constant .none j pos) (LE (dC .aA)):=pF JD fun _ _=>by unfold Rep;rfl
noncomputable abbrev cX:=D→D→af→DK→Prop
noncomputable abbrev zU:=D→af→DK→Prop
noncomputable abbrev fM:=List D→af→DK→Prop
inductive NS(r:cX)(x y:V)(H:Hp)(Q:VK):Prop
 |mk (α:List (Option Addr)) (d e:D) (st:af) (K:DK) (G F:Hp) (P:cm G F H) (rx:Rep α G d x) (ry:Rep α G e y) (S:aY α st G) (h:r d e st K) (k:LK α G F K Q):NS r x y H Q
noncomputable def LR(r:cX):R2:=NS r
inductive JP(r:zU)(x:V)(H:Hp)(Q:VK):Prop
 |mk (α:List (Option Addr)) (d:D) (st:af) (K:DK) (G F:Hp) (P:cm G F H) (rx:Rep α G d x) (S:aY α st G) (h:r d st K) (k:LK α G F K Q):JP r x H Q
noncomputable def GH(r:zU):V→Hp→VK→Prop:=JP r
inductive LB(r:fM)(xs:List V)(H:Hp)(Q:VK):Prop
 |mk (α:List (Option Addr)) (ds:List D) (st:af) (K:DK) (G F:Hp) (P:cm G F H) (rx:aJ α G ds xs) (S:aY α st G) (h:r ds st K) (k:LK α G F K Q):LB r xs H Q
noncomputable def hZ(r:fM):List V→Hp→VK→Prop:=LB r
noncomputable def aw(r:cX)(ta tb:DE):DE:=fun σ st K=>ta σ st fun x st1=>tb σ st1 fun y st2=>r x y st2 K
noncomputable def j9(r:zU)(ta:DE):DE:=fun σ st K=>ta σ st fun x st1=>r x st1 K
theorem LE.op{r:cX}{σ:L2.St}{H:Hp}{Q:VK}(h:LE (aw r ta tb) σ H Q):Eg (LR r) (LE ta) (LE tb) σ H Q:=by
 obtain⟨α,σd,st,K,G,F,P,R,S,t,k⟩:=h
 refine⟨α,σd,st,_,G,F,P,R,S,t,fun d st1 q α1 G1 H1 v s1 P1 S1 r1=>?_⟩
 refine⟨α1,σd,st1,_,G1,F,P1,R.step s1,S1,q,fun d2 st2 q2 α2 G2 H2 v2 s2 P2 S2 r2=>?_⟩
 exact⟨α2,d,d2,st2,K,G2,F,P2,r1.step s2,r2,S2,q2,(k.at s1).at s2⟩
theorem LE.un{r:zU}{σ:L2.St}{H:Hp}{Q:VK}(h:LE (j9 r ta) σ H Q):NG (GH r) (LE ta) σ H Q:=by
 obtain⟨α,σd,st,K,G,F,P,R,S,t,k⟩:=h
 refine⟨α,σd,st,_,G,F,P,R,S,t,fun d st1 q α1 G1 H1 v s1 P1 S1 r1=>?_⟩
 exact⟨α1,d,st1,K,G1,F,P1,r1,S1,q,k.at s1⟩
theorem Oe{op:Operator}{r:cX}(ho:bR X (binaryOp op) (LR r))(ha:PE X a (LE ta))(hb:PE X b (LE tb)):PE X (.BinOp a op b pos) (LE (aw r ta tb)):=PE.imp (MV ho ha hb) fun _ _ _ h=>LE.op h
theorem OG{op:UnaryOp}{r:zU}(ho:Bz X (unaryOp op) (GH r))(ha:PE X a (LE ta)):PE X (.UnaryOp op a pos) (LE (j9 r ta)):=PE.imp (LX ho ha) fun _ _ _ h=>LE.un h
theorem Nh{op:CmpOp}{r:cX}(ho:bR X (compareOp op) (LR r))(ha:PE X a (LE ta))(hb:PE X b (LE tb))(hm:behindInMarks op b=false:=by first|exact aU _|rfl):PE X (.Compare a [op] [b] pos) (LE (aw r ta tb)):=PE.imp (Hw ho ha hb hm) fun _ _ _ h=>LE.op h
noncomputable def aM(t:DE):DT:=fun σ st K=>t σ st fun d st1=>match d with| .bl b=>K b st1|_=>False
theorem LT.test{σ:L2.St}{H:Hp}{Q:Bool→Hp→Prop}(h:LT (aM te) σ H Q):LE te σ H fun x H'=>∃k,x= .bl k∧Q k H':=by
 obtain⟨α,σd,st,K,G,F,P,R,S,t,k⟩:=h
 refine⟨α,σd,st,_,G,F,P,R,S,t,fun d st1 q α1 G1 H1 v s1 P1 S1 r1=>?_⟩
 cases d with
 |bl b=>
  unfold Rep at r1
  exact⟨b,r1,k b st1 q α1 G1 H1 s1 P1 S1⟩
 |_=>exact q.elim
theorem LL{op:CmpOp}{r:cX}(ho:bR X (compareOp op) (LR r))(ha:PE X a (LE ta))(hb:PE X b (LE tb))(hm:behindInMarks op b=false:=by first|exact aU _|rfl):PT X (.Compare a [op] [b] pos) (LT (aM (aw r ta tb))):=PT.imp (H_ ho ha hb hm) fun σ H Q h=>by
 have q:=LT.test h
 exact LE.op (Q:=fun x H'=>∃k,x= .bl k∧Q k H') q
theorem KU(he:PE X e (LE te))(hv:∀whole,isTrue e X.env whole=(do let v ←whole;standAt e.pos;holding [v] (truthy v)):=by intro _;rfl):PT X e (LT (aM te)):=PT.imp (Kd he hv) fun σ H Q h=>LT.test h
noncomputable def d7(t:DT):DT:=fun σ st K=>t σ st fun b st1=>K (!b) st1
noncomputable def oG(t u:DT):DT:=fun σ st K=>t σ st fun b st1=>if b=true then u σ st1 K else K false st1
noncomputable def gD(t u:DT):DT:=fun σ st K=>t σ st fun b st1=>if b=true then K true st1 else u σ st1 K
theorem Lg{t:DT}(ha:PT X a (LT t)):PT X (.UnaryOp .Not a pos) (LT (d7 t)):=PT.imp (Lw ha) fun σ H Q ⟨α,σd,st,K,G,F,P,R,S,t,k⟩=>
 ⟨α,σd,st,_,G,F,P,R,S,t,fun b st1 q α1 G1 H1 s1 P1 S1=>k _ st1 q α1 G1 H1 s1 P1 S1⟩
theorem LT.and{t u:DT}{σ:L2.St}{H:Hp}{Q:Bool→Hp→Prop}(h:LT (oG t u) σ H Q):Ls (LT t) (LT u) σ H Q:=by
 obtain⟨α,σd,st,K,G,F,P,R,S,t,k⟩:=h
 refine⟨α,σd,st,_,G,F,P,R,S,t,fun b st1 q α1 G1 H1 s1 P1 S1=>?_⟩
 cases b with
 |true=>exact⟨α1,σd,st1,K,G1,F,P1,R.step s1,S1,q,k.at s1⟩
 |false=>exact k _ st1 q α1 G1 H1 s1 P1 S1
theorem LT.or{t u:DT}{σ:L2.St}{H:Hp}{Q:Bool→Hp→Prop}(h:LT (gD t u) σ H Q):Nv (LT t) (LT u) σ H Q:=by
 obtain⟨α,σd,st,K,G,F,P,R,S,t,k⟩:=h
 refine⟨α,σd,st,_,G,F,P,R,S,t,fun b st1 q α1 G1 H1 s1 P1 S1=>?_⟩
 cases b with
 |false=>exact⟨α1,σd,st1,K,G1,F,P1,R.step s1,S1,q,k.at s1⟩
 |true=>exact k _ st1 q α1 G1 H1 s1 P1 S1
theorem Iq{t:DT}(ha:PT X a (LT t)):PW X (.BoolOp .And [a] pos) (LT t):=pw_and1 ha
theorem Lu{t:DT}(ha:PT X a (LT t)):PW X (.BoolOp .Or [a] pos) (LT t):=pw_or1 ha
theorem Jg{t u:DT}(ha:PT X a (LT t))(hb:PW X (.BoolOp .And (b::es) pos) (LT u)):PW X (.BoolOp .And (a::b::es) pos) (LT (oG t u)):=PW.imp (pw_and ha hb) fun _ _ _ h=>LT.and h
theorem M0{t u:DT}(ha:PT X a (LT t))(hb:PW X (.BoolOp .Or (b::es) pos) (LT u)):PW X (.BoolOp .Or (a::b::es) pos) (LT (gD t u)):=PW.imp (pw_or ha hb) fun _ _ _ h=>LT.or h
noncomputable def lT(ta tb:DE):DE:=fun σ st K=>ta σ st fun d st1=>match d with| .bl b=>if b=true then tb σ st1 K else K (.bl false) st1|_=>False
noncomputable def CA(ta tb:DE):DE:=fun σ st K=>ta σ st fun d st1=>match d with| .bl b=>if b=true then K (.bl true) st1 else tb σ st1 K|_=>False
noncomputable def sT(t:DT):DE:=fun σ st K=>t σ st fun b st1=>K (.bl (!b)) st1
theorem Mm{op:BoolOp}(ha:PE X a (LE ta)):PE X (.BoolOp op [a] pos) (LE ta):=Ke ha
theorem MI(ha:PE X a (LE ta))(hb:PE X (.BoolOp .And (b::es) pos) (LE tb)):PE X (.BoolOp .And (a::b::es) pos) (LE (lT ta tb)):=PE.imp (Lc ha hb) fun σ H Q ⟨α,σd,st,K,G,F,P,R,S,t,k⟩=>by
 refine⟨α,σd,st,_,G,F,P,R,S,t,fun d st1 q α1 G1 H1 v s1 P1 S1 r1=>?_⟩
 cases d with
 |bl b=>
  unfold Rep at r1
  refine⟨b,r1,?_⟩
  cases b with
  |true=>exact⟨α1,σd,st1,K,G1,F,P1,R.step s1,S1,q,k.at s1⟩
  |false=>exact k _ st1 q α1 G1 H1 _ s1 P1 S1 (by unfold Rep;rfl)
 |_=>exact q.elim
theorem Oy(ha:PE X a (LE ta))(hb:PE X (.BoolOp .Or (b::es) pos) (LE tb)):PE X (.BoolOp .Or (a::b::es) pos) (LE (CA ta tb)):=PE.imp (M_ ha hb) fun σ H Q ⟨α,σd,st,K,G,F,P,R,S,t,k⟩=>by
 refine⟨α,σd,st,_,G,F,P,R,S,t,fun d st1 q α1 G1 H1 v s1 P1 S1 r1=>?_⟩
 cases d with
 |bl b=>
  unfold Rep at r1
  refine⟨b,r1,?_⟩
  cases b with
  |false=>exact⟨α1,σd,st1,K,G1,F,P1,R.step s1,S1,q,k.at s1⟩
  |true=>exact k _ st1 q α1 G1 H1 _ s1 P1 S1 (by unfold Rep;rfl)
 |_=>exact q.elim
theorem Ms(ha:PE X a (LE ta)):PE X (.UnaryOp .Not a pos) (LE (sT (aM ta))):=PE.imp (Kq ha) fun σ H Q ⟨α,σd,st,K,G,F,P,R,S,t,k⟩=>by
 refine⟨α,σd,st,_,G,F,P,R,S,t,fun d st1 q α1 G1 H1 v s1 P1 S1 r1=>?_⟩
 cases d with
 |bl b=>
  unfold Rep at r1
  exact⟨b,r1,k _ st1 q α1 G1 H1 _ s1 P1 S1 (by unfold Rep;rfl)⟩
 |_=>exact q.elim
noncomputable def K6(t:DT)(ta tb:DE):DE:=fun σ st K=>t σ st fun b st1=>if b=true then ta σ st1 K else tb σ st1 K
theorem Nj{t:DT}(hc:PT X c (LT t))(ha:PE X a (LE ta))(hb:PE X b (LE tb)):PE X (.IfExp c a b pos) (LE (K6 t ta tb)):=PE.imp (FC hc ha hb) fun σ H Q ⟨α,σd,st,K,G,F,P,R,S,t,k⟩=>by
 refine⟨α,σd,st,_,G,F,P,R,S,t,fun b st1 q α1 G1 H1 s1 P1 S1=>?_⟩
 cases b with
 |true=>exact⟨α1,σd,st1,K,G1,F,P1,R.step s1,S1,q,k.at s1⟩
 |false=>exact⟨α1,σd,st1,K,G1,F,P1,R.step s1,S1,q,k.at s1⟩
noncomputable def aj:DA:=fun _ st K=>K [] st
noncomputable def ae(ta:DE)(tr:DA):DA:=fun σ st K=>ta σ st fun x st1=>tr σ st1 fun xs st2=>K (x::xs) st2
theorem qU:PA X [] (LA aj):=PA.imp JY fun σ H Q ⟨α,σd,st,K,G,F,P,R,S,t,k⟩=>k [] st t α G H [] Step.refl P S (by unfold aJ;rfl)
theorem nB{tr:DA}(ha:PE X e (LE te))(hr:PA X es (LA tr))(hs:starEach (e::es) X.env=(false,eval e X.env)::starEach es X.env:=by rfl):PA X (e::es) (LA (ae te tr)):=PA.imp (HU ha hr hs) fun σ H Q ⟨α,σd,st,K,G,F,P,R,S,t,k⟩=>by
 refine⟨α,σd,st,_,G,F,P,R,S,t,fun d st1 q α1 G1 H1 v s1 P1 S1 r1=>?_⟩
 refine⟨α1,σd,st1,_,G1,F,P1,R.step s1,S1,q,fun ds st2 q2 α2 G2 H2 vs s2 P2 S2 r2=>?_⟩
 exact k _ st2 q2 α2 G2 H2 (v::vs) (s1.trans s2) P2 S2 (by unfold aJ;exact⟨v,vs,rfl,r1.step s2,r2⟩)
noncomputable def iy(t:DA):DE:=fun σ st K=>t σ st fun ds st1=>ds.length≤sizeLine∧K (.tup ds) st1
noncomputable def jv(t:DA):DE:=fun σ st K=>t σ st fun ds st1=>ds.length≤sizeLine∧K (.lst ds) st1
noncomputable def CM(t:DA):DE:=fun σ st K=>t σ st fun ds st1=>ds.length≤sizeLine∧K (.ref st1.length) (st1++[.lst ds])
theorem LK.tup{α:List (Option Addr)}{G F H:Hp}{K:DK}{Q:VK}{ds:List D}{vs:List V}{st:af}{p:Addr}(k:LK α G F K Q)(P:cm G F H)(q:K (.tup ds) st)(S:aY α st G)(r:aJ α G ds vs)(hp:H p=none):Q (.ref p) (upd H p (.tup vs)):=
 have hg:=(P.none hp).1
 k _ st q α _ _ _ (Step.laid hg) (P.laid hp) (S.laid hg) (by unfold Rep;exact⟨p,vs,rfl,S.kl hg,a5,r.step (Step.laid hg)⟩)
theorem LK.lst{α:List (Option Addr)}{G F H:Hp}{K:DK}{Q:VK}{ds:List D}{vs:List V}{st:af}{p:Addr}(k:LK α G F K Q)(P:cm G F H)(q:K (.lst ds) st)(S:aY α st G)(r:aJ α G ds vs)(hp:H p=none):Q (.ref p) (upd H p (.lst vs)):=
 have hg:=(P.none hp).1
 k _ st q α _ _ _ (Step.laid hg) (P.laid hp) (S.laid hg) (by unfold Rep;exact⟨p,vs,rfl,S.kl hg,.of a5,r.step (Step.laid hg)⟩)
theorem LK.new{α:List (Option Addr)}{G F H:Hp}{K:DK}{Q:VK}{ds:List D}{vs:List V}{st:af}{p:Addr}(k:LK α G F K Q)(P:cm G F H)(q:K (.ref st.length) (st++[.lst ds]))(S:aY α st G)(r:aJ α G ds vs)(hp:H p=none):Q (.ref p) (upd H p (.lst vs)):=
 have hg:=(P.none hp).1
 k _ _ q (α++[some p]) _ _ _ (Step.cell hg) (P.laid hp) (S.cell hg ⟨vs,a5,r.step (Step.cell hg)⟩) (by
  unfold Rep
  refine .inr ⟨p,?_,rfl⟩
  rw[List.getElem?_append_right (by rw[S.len];exact Nat.le_refl _),S.len,Nat.sub_self]
  rfl)
theorem Nu{n:Nat}{t:DA}(h:PA X es (LA t)):PE X (.Tuple es n pos) (LE (iy t)):=PE.imp (Lr h) fun σ H Q ⟨α,σd,st,K,G,F,P,R,S,t,k⟩=>
 ⟨α,σd,st,_,G,F,P,R,S,t,fun ds st1 q α1 G1 H1 vs s1 P1 S1 r1=>⟨by rw[←r1.length];exact q.1,fun p hp=>(k.at s1).tup P1 q.2 S1 r1 hp⟩⟩
theorem Mc{t:DA}(h:PA X es (LA t)):PE X (.List es pos) (LE (jv t)):=PE.imp (EB h) fun σ H Q ⟨α,σd,st,K,G,F,P,R,S,t,k⟩=>
 ⟨α,σd,st,_,G,F,P,R,S,t,fun ds st1 q α1 G1 H1 vs s1 P1 S1 r1=>⟨by rw[←r1.length];exact q.1,fun p hp=>(k.at s1).lst P1 q.2 S1 r1 hp⟩⟩
theorem Nn{t:DA}(h:PA X es (LA t)):PE X (.List es pos) (LE (CM t)):=PE.imp (EB h) fun σ H Q ⟨α,σd,st,K,G,F,P,R,S,t,k⟩=>
 ⟨α,σd,st,_,G,F,P,R,S,t,fun ds st1 q α1 G1 H1 vs s1 P1 S1 r1=>⟨by rw[←r1.length];exact q.1,fun p hp=>(k.at s1).new P1 q.2 S1 r1 hp⟩⟩
noncomputable abbrev cC:=List D→af→DK→Prop
inductive Kt(T:cC)(vs:List V)(H:Hp)(Q:VK):Prop
 |mk (α:List (Option Addr)) (ds:List D) (st:af) (K:DK) (G F:Hp) (P:cm G F H) (rx:aJ α G ds vs) (S:aY α st G) (h:T ds st K) (k:LK α G F K Q):Kt T vs H Q
noncomputable def cG(S:cC):Sp:=fun vs H Q _=>Kt S vs H Q
noncomputable def aG(S:cC)(t:DA):DE:=fun σ st K=>t σ st fun ds st1=>S ds st1 K
theorem LE.call{S:cC}{t:DA}{σ:L2.St}{H:Hp}{Q:VK}(h:LE (aG S t) σ H Q):GY (cG S) [] E0 (LA t) σ H Q:=by
 obtain⟨α,σd,st,K,G,F,P,R,S,t,k⟩:=h
 refine⟨α,σd,st,_,G,F,P,R,S,t,fun ds st1 q α1 G1 H1 vs s1 P1 S1 r1=>?_⟩
 try dsimp only
 rw[List.append_nil]
 exact⟨α1,ds,st1,K,G1,F,P1,r1,S1,q,k.at s1⟩
theorem Ks{S:cC}{k:Nat}{f:Addr}{fd:FuncData}{ps:List Str}{x:Str}{p:Pos}{t:DA}(F:bD X.prog X.w X.K X.mg X.base cD k f fd ps (cG S))(hr:cQ k X.A)(hg:Gl X x)(hm:X.mg x=some (.ref f))(hk:PySem.W.keepIn X.K (.ref f)=true)(hb:Binds X.K fd ps [])
 (ha:PA X (e::es) (LA t)) (hdb:(x==("__debug__":Str))=false:=by decide) (he:starEach (e::es) X.env=(false,eval e X.env)::starEach es X.env:=by rfl) (hpl:(backTo pos (starEach es X.env)).any (·.1)=false:=by rfl):
 PE X (.Call (.Name x p) (e::es) [] pos) (LE (aG S t)):=PE.imp (Io F hr hg hm hk hb .nil CL ha hdb he hpl) fun _ _ _ h=>LE.call h
noncomputable def bF(r:fM)(t:DA):DE:=fun σ st K=>t σ st fun ds st1=>r ds st1 K
theorem LE.cb{r:fM}{t:DA}{σ:L2.St}{H:Hp}{Q:VK}(h:LE (bF r t) σ H Q):Lf (hZ r) (LA t) σ H Q:=by
 obtain⟨α,σd,st,K,G,F,P,R,S,t,k⟩:=h
 refine⟨α,σd,st,_,G,F,P,R,S,t,fun ds st1 q α1 G1 H1 vs s1 P1 S1 r1=>?_⟩
 exact⟨α1,ds,st1,K,G1,F,P1,r1,S1,q,k.at s1⟩
end
end L3
namespace L3
open PySem PySem.Spec L2
open PyProof.Rows hiding St
section
variable {X:Cx}
theorem bR.imp{f:Value→Value→Sem Value}{r r':R2}(h:bR X f r)(k:∀x y H Q,r' x y H Q→r x y H Q):bR X f r':=fun pins s σ H x y v u Q I rx ry q=>h pins s σ H x y v u Q I rx ry (k x y H Q q)
theorem cp.imp{f:Value}{r r':List V→Hp→VK→Prop}(h:cp X f r)(k:∀xs H Q,r' xs H Q→r xs H Q):cp X f r':=fun pins s σ H xs us Q I rs q=>h pins s σ H xs us Q I rs (k xs H Q q)
noncomputable def tY(C:Int→Int→Prop)(g:Int→Int→D):cX:=fun x y st K=>match x,y with| .int i,.int j=>C i j∧K (g i j) st|_,_=>False
theorem ky{f:Value→Value→Sem Value}{C:Int→Int→Prop}{g:Int→Int→D}{g':Int→Int→V}(hg:∀i j α H,Rep α H (g i j) (g' i j))(h:bR X f (rI C g')):bR X f (LR (tY C g)):=bR.imp h fun x y H Q ⟨α,d,e,st,K,G,F',P,r1,r2,S,q,k⟩=>by
 cases d<;>cases e<;>first
  |exact q.elim
  |(unfold Rep at r1 r2;exact⟨_,_,r1,r2,q.1,k.here P q.2 S (hg _ _ _ _)⟩)
noncomputable abbrev T2:Int→Int→Prop:=fun _ _=>True
theorem vt{g:Int→Int→V}{f:Value→Value→Sem Value}(h:bR X f (uZ g)):bR X f (rI T2 g):=bR.imp h fun x y H Q ⟨i,j,e1,e2,_,q⟩=>⟨i,j,e1,e2,q⟩
noncomputable abbrev Gy:cX:=tY T2 fun i j=> .int (i-j)
noncomputable abbrev E2:cX:=tY (fun _ j=>j≠0∧j.natAbs.log2<9000) fun i j=> .int (i.fdiv j)
noncomputable abbrev GJ:cX:=tY (fun _ j=>j≠0) fun i j=> .int (i.fmod j)
noncomputable abbrev GZ:cX:=tY E_ fun i j=> .int (i^j.toNat)
noncomputable abbrev Ly:cX:=tY T2 fun i j=> .bl (decide (i<j))
noncomputable abbrev Kw:cX:=tY T2 fun i j=> .bl (decide (i≤j))
noncomputable abbrev KW:cX:=tY T2 fun i j=> .bl (decide (j<i))
noncomputable abbrev Jr:cX:=tY T2 fun i j=> .bl (decide (j≤i))
theorem Nd:bR X (binaryOp .Sub) (LR Gy):=ky (fun _ _ _ _=>by unfold Rep;rfl) (vt KJ)
theorem LQ:bR X (binaryOp .FloorDiv) (LR E2):=ky (fun _ _ _ _=>by unfold Rep;rfl) (Gr fun i j _ _ _ _ _ hc q=>floordiv_int hc.1 q (.inl (PyProof.noPylong_of_log2 hc.2)))
theorem M5:bR X (binaryOp .Mod) (LR GJ):=ky (fun _ _ _ _=>by unfold Rep;rfl) Hr
theorem L9:bR X (binaryOp .Pow) (LR GZ):=ky (fun _ _ _ _=>by unfold Rep;rfl) J6
theorem N3:bR X (compareOp .Lt) (LR Ly):=ky (fun _ _ _ _=>by unfold Rep;rfl) (vt L7)
theorem Oz:bR X (compareOp .LtE) (LR Kw):=ky (fun _ _ _ _=>by unfold Rep;rfl) (vt L5)
theorem NX:bR X (compareOp .Gt) (LR KW):=ky (fun _ _ _ _=>by unfold Rep;rfl) (vt Np)
theorem OB:bR X (compareOp .GtE) (LR Jr):=ky (fun _ _ _ _=>by unfold Rep;rfl) (vt Mr)
noncomputable def GV:zU:=fun x st K=>match x with| .int i=>K (.int (-i)) st|_=>False
theorem M8:Bz X (unaryOp .USub) (GH GV):=fun pins s σ H x v Q I rx ⟨α,d,st,K,G,F',P,r,S,q,k⟩=>by
 cases d<;>first
  |exact q.elim
  |(unfold Rep at r;exact K7 pins s σ H x v Q I rx ⟨_,r,k.here P q S (by unfold Rep;rfl)⟩)
theorem Inv.wV{pins:List (Addr×Obj)}{σ:L2.St}{H:Hp}{s:Shared}{l:Addr}{xs:List V}(I:Inv X pins σ H s)(h:Rd H l (.lst xs)):
 xs.length≤sizeLine∧∃(au:List Value) (n:Nat),Vals xs au∧xs.length=au.length∧s.heap.get? l=some {cls:= .type "list",data:= .seq au.toArray n}:=by
 obtain⟨z,au,n,r,e⟩:=h.ok I.aI
 exact⟨z,au,n,r,r.length,e⟩
theorem g6{G F H:Hp}(P:cm G F H){a:Addr}{u:HO}(h:Rd G a u):Rd H a u:=by
 rcases h with h|⟨o,h⟩
 · exact .inl (P.get h)
 · exact .inr ⟨o,P.get h⟩
theorem IS:bR X (binaryOp .Add) (fun x y H Q=>∃l b xs zs,x= .ref l∧y= .ref b∧Rd H l (.lst xs)∧Rd H b (.lst zs)∧xs.length+zs.length≤sizeLine∧∀p,H p=none→Q (.ref p) (upd H p (.lst (xs++zs)))):=by
 intro pins s σ H x y v u Q I rx ry h
 obtain⟨l,b,xs,zs,rfl,rfl,hH,hB,hz,q⟩:=h
 cases rx
 cases ry
 obtain⟨z,au,n,r,hl,e⟩:=Inv.wV I hH
 obtain⟨z2,its2,n2,r2,hl2,e2⟩:=Inv.wV I hB
 refine PySem.P.add_list e e2 ?_ (by rw[List.size_toArray,List.size_toArray];omega)
 have ea:au.toArray++its2.toArray=(au++its2).toArray:=by simp
 rw[ea]
 exact⟨.ref _,_,I.Fy (t':=s.toks) (r.append r2) (by rw[List.length_append];omega),rfl,q _ I.fresh⟩
theorem Iy:bR X (binaryOp .Mult) (fun x y H Q=>∃l k xs,x= .ref l∧y= .int k∧Rd H l (.lst xs)∧ -(2^63)≤k∧k<2^63∧xs.length*k.toNat≤sizeLine∧
 ∀p,H p=none→Q (.ref p) (upd H p (.lst (List.replicate k.toNat xs).flatten))):=by
 intro pins s σ H x y v u Q I rx ry h
 obtain⟨l,k,xs,rfl,rfl,hH,h1,h2,hz,q⟩:=h
 cases rx
 obtain⟨t,rfl⟩:=ry
 obtain⟨z,au,n,r,hl,e⟩:=Inv.wV I hH
 have hlen:au.toArray.size*k.toNat≤sizeLine:=by rw[List.size_toArray,←hl];exact hz
 have hcap:¬au.toArray.size*k.toNat>(2^63-1)/8:=by
  have:(sizeLine:Nat)≤(2^63-1)/8:=by decide
  omega
 have hfit:¬(!Builtin.List.listFitsIndex k)=true:=by
  rw[fitsIndex_both h1 h2]
  exact Bool.false_ne_true
 have hlong:¬Builtin.List.listTooLong (au.toArray.size*k.toNat)=true:=by
  rw[Gg hlen]
  exact Bool.false_ne_true
 have hnew:List.foldl (fun x1 x2=>x1++x2) #[] (List.replicate (if au.toArray.isEmpty=true then 0 else k.toNat) au.toArray)=(List.replicate k.toNat au).flatten.toArray:=by
  have f0:∀m:Nat,List.foldl (fun x1 x2=>x1++x2) #[] (List.replicate m au.toArray)=(List.replicate m au).flatten.toArray:=fun m=>by
   have:=foldl_rep au m []
   rw[List.nil_append]at this
   exact this
  rw[f0]
  cases au with
  |nil=>simp
  |cons a r'=>rw[if_neg (by simp)]
 refine wpAny_binaryOp_repeat_ref (T:="list") (U:="int") (by decide) ⟨_,e,rfl⟩ (fun s'=>typeIs_int s' k t) noFill_list_mul F.fills_int_mul F.slot_int_rmul repeat_list F.slot_int_index.lookup
  (call_meets F.slot_int_rmul (typeIs_int s k t) F.entry_int_rmul (F.args_int_rmul_2 _ _) (int___rmul___int_list k t l au.toArray n)
    ⟨e,rfl,⟨_,e,rfl⟩,call_meets F.slot_list_mul ⟨_,e,rfl⟩ F.entry_list_mul (F.args_list_mul_2 _ _) (AutoListH.list___mul___list_int_3 l au.toArray n k t hfit hcap hlong) ⟨e,?_⟩⟩)
 rw[hnew]
 exact⟨.ref _,_,I.Fy (t':=s.toks) (r.rep k.toNat) (by rw[len_rep,Nat.mul_comm];exact hz),rfl,q _ I.fresh⟩
theorem Fd:bR X (binaryOp .Add) (fun x y H Q=>∃a b xs ys,x= .ref a∧y= .ref b∧H a=some (.tup xs)∧H b=some (.tup ys)∧xs.length+ys.length≤sizeLine∧
 (xs=[]→Q (.ref b) H)∧(xs≠ []→ys=[]→Q (.ref a) H)∧(xs≠ []→ys≠ []→∀p,H p=none→Q (.ref p) (upd H p (.tup (xs++ys))))):=by
 intro pins s σ H x y v u Q I rx ry h
 obtain⟨a,b,xs,ys,rfl,rfl,ha,hb,hz,q0,q1,q2⟩:=h
 by_cases hx:xs=[]
 · cases rx
   cases ry
   obtain⟨au,r1,p1,_⟩:=I.tuple (.of ha)
   obtain⟨its2,r2,p2,_⟩:=I.tuple (.of hb)
   obtain⟨⟨cls,dd,data,sl⟩,ho,hc,n,hd⟩:=id p1
   obtain⟨⟨cls2,dd2,data2,sl2⟩,ho2,hc2,n2,hd2⟩:=id p2
   simp only at hc hd hc2 hd2
   subst hc hd hc2 hd2
   have hi:au=[]:=(L2.Vals.sX r1).mpr hx
   exact concat_meets ⟨_,ho,rfl⟩ ⟨_,ho2,rfl⟩ noFill_tuple_add seq_tuple_add PySem.F.slot_tuple_add PySem.F.entry_tuple_add (PySem.F.args_tuple_add_2 _ _)
    (tuple_addW0 a b au.toArray its2.toArray n n2 dd dd2 sl sl2 (by simp[hi])) ⟨ho,ho2,⟨.ref b,H,I,rfl,q0 hx⟩⟩
 · exact HC pins s σ H _ _ v u Q I rx ry ⟨a,b,xs,ys,rfl,rfl,.of ha,.of hb,hx,hz,q1 hx,q2 hx⟩
theorem v_:fillsNumberSlot (.type "tuple") "mul"=pure false:=
 PySem.fillsNumberSlot_seq (id:="tuple.__mul__") (r:=some (.builtin "tuple.__rmul__")) F.slot_tuple_mul.lookup (by decide+kernel) F.slot_tuple_rmul.lookup (by decide+kernel)
theorem C5:seqRepeat? (.type "tuple")=pure (some (.builtin "tuple.__mul__")):=by
 unfold seqRepeat?
 rw[PySem.seqSlot_of (T:="tuple") (name:="__mul__") (id:="tuple.__mul__") F.slot_tuple_mul.lookup (by decide+kernel),PySem.seqSlot_of (T:="tuple") (name:="__rmul__") (id:="tuple.__rmul__") F.slot_tuple_rmul.lookup (by decide+kernel)]
 rfl
theorem Af(a:Int)(t:Tok)(l:Addr)(au:Array Value)(n:Nat)(dd:Option Addr)(sl:Array (Option Value)):Meets (Builtin.«int.__rmul__» ⟨[.int a t,.ref l],[]⟩) (fun _ R s=>s.heap.get? l=some {cls:= .type "tuple",dict:=dd,data:= .seq au n,slots:=sl}∧R (.ok (.ret Value.notImplemented)) s):=
 .of_wp fun P w A R s h=>by
  obtain⟨hp,g,d,tk,os⟩:=s
  obtain⟨hl,h⟩:=h
  wp_walk
  exact⟨_,rfl,h⟩
theorem Aj(l:Addr)(au:Array Value)(n:Nat)(dd:Option Addr)(sl:Array (Option Value))(x:Int)(u:Tok)(h0:(decide (x< -(2^63))||decide (x≥2^63))=false)(h1:(au.isEmpty||x==1)=true):
 Meets (Builtin.«tuple.__mul__» ⟨[.ref l,.int x u],[]⟩) (fun _ R s=>s.heap.get? l=some {cls:= .type "tuple",dict:=dd,data:= .seq au n,slots:=sl}∧R (.ok (.ret (.ref l))) s):=
 .of_wp fun P w A R s h=>by
  obtain⟨hp,g,d,tk,os⟩:=s
  obtain⟨hl,h⟩:=h
  wp_walk
  refine wpAny_ite_false (by rw[h0];rfl) ?_
  wp_walk
  exact⟨_,rfl,h⟩
theorem Ak(l:Addr)(au:Array Value)(n:Nat)(dd:Option Addr)(sl:Array (Option Value))(x:Int)(u:Tok)(h0:(decide (x< -(2^63))||decide (x≥2^63))=false)(h1:(au.isEmpty||x==1)=false)(h2:(decide (x≤0)||au.isEmpty)=true):
 Meets (Builtin.«tuple.__mul__» ⟨[.ref l,.int x u],[]⟩) (fun _ R s=>s.heap.get? l=some {cls:= .type "tuple",dict:=dd,data:= .seq au n,slots:=sl}∧R (.ok (.ret (.ref s.heap.objs.size))) {s with heap:=s.heap.push {cls:= .type "tuple",data:= .seq #[]}}):=
 .of_wp fun P w A R s h=>by
  obtain⟨hp,g,d,tk,os⟩:=s
  obtain⟨hl,h⟩:=h
  wp_walk
  refine wpAny_ite_false (by rw[h0];rfl) ?_
  wp_walk
  exact⟨_,rfl,h⟩
theorem zZ(l:Addr)(au:Array Value)(n:Nat)(dd:Option Addr)(sl:Array (Option Value))(x:Int)(u:Tok)(h0:(decide (x< -(2^63))||decide (x≥2^63))=false)(h1:(au.isEmpty||x==1)=false)(h2:(decide (x≤0)||au.isEmpty)=false)(h3:¬((au.size:Int)*x>(2^63-1)/8))(h4:Builtin.Tuple.tupleTooMany (au.size*x)=false)
 (hz:(List.foldl (fun x1 x2=>x1++x2) #[] (List.replicate x.toNat au)).size≤sizeLine):
 Meets (Builtin.«tuple.__mul__» ⟨[.ref l,.int x u],[]⟩) (fun _ R s=>s.heap.get? l=some {cls:= .type "tuple",dict:=dd,data:= .seq au n,slots:=sl}∧R (.ok (.ret (.ref s.heap.objs.size))) {s with heap:=s.heap.push {cls:= .type "tuple",data:= .seq (List.foldl (fun x1 x2=>x1++x2) #[] (List.replicate x.toNat au))}}):=
 .of_wp fun P w A R s h=>by
  obtain⟨hp,g,d,tk,os⟩:=s
  obtain⟨hl,h⟩:=h
  wp_walk
  refine wpAny_ite_false (by rw[h0];rfl) ?_
  wp_walk
  refine wpAny_ite_false (decide_eq_false h3) ?_
  wp_walk
  exact⟨_,rfl,h⟩
theorem HQ:bR X (binaryOp .Mult) (fun x y H Q=>∃l k xs,x= .ref l∧y= .int k∧H l=some (.tup xs)∧ -(2^63)≤k∧k<2^63∧xs.length*k.toNat≤sizeLine∧
 ((xs=[]∨k=1)→Q (.ref l) H)∧(¬(xs=[]∨k=1)→∀p,H p=none→Q (.ref p) (upd H p (.tup (List.replicate k.toNat xs).flatten)))):=by
 intro pins s σ H x y v u Q I rx ry h
 obtain⟨l,k,xs,rfl,rfl,hH,h1,h2,hz,q1,q2⟩:=h
 cases rx
 obtain⟨t,rfl⟩:=ry
 obtain⟨au,r,p1,_⟩:=I.tuple (.of hH)
 obtain⟨⟨cls,dd,data,sl⟩,ho,hc,n,hd⟩:=id p1
 simp only at hc hd
 subst hc hd
 have hl:xs.length=au.length:=r.length
 have f0:(decide (k< -(2^63))||decide (k≥2^63))=false:=by
  rw[decide_eq_false (by omega),decide_eq_false (by omega)];rfl
 refine wpAny_binaryOp_repeat_ref (T:="tuple") (U:="int") (by decide) ⟨_,ho,rfl⟩ (fun s'=>typeIs_int s' k t) v_ F.fills_int_mul F.slot_int_rmul C5 F.slot_int_index.lookup
  (call_meets F.slot_int_rmul (typeIs_int s k t) F.entry_int_rmul (F.args_int_rmul_2 _ _) (Af k t l au.toArray n dd sl) ⟨ho,rfl,⟨_,ho,rfl⟩,?_⟩)
 by_cases hs:xs=[]∨k=1
 · have f1:(au.toArray.isEmpty||k==1)=true:=by
    rcases hs with z|z
    · have:au=[]:=List.length_eq_zero_iff.mp (by rw[←hl,z];rfl)
      rw[this];rfl
    · rw[z];simp
   exact call_meets F.slot_tuple_mul ⟨_,ho,rfl⟩ F.entry_tuple_mul (F.args_tuple_mul_2 _ _) (Aj l au.toArray n dd sl k t f0 f1) ⟨ho,⟨.ref l,H,I,rfl,q1 hs⟩⟩
 · have hne:au≠ []:=fun z=>hs (.inl (List.length_eq_zero_iff.mp (by rw[hl,z];rfl)))
   have hk1:k≠1:=fun z=>hs (.inr z)
   have e1:au.toArray.isEmpty=false:=by simpa using hne
   have f1:(au.toArray.isEmpty||k==1)=false:=by rw[e1];simpa using hk1
   have new:∀(us:List Value) (ys:List V),Vals ys us→ys.length≤sizeLine→Inv X pins σ (upd H s.heap.objs.size (.tup ys)) {s with heap:=s.heap.push {cls:= .type "tuple",data:= .seq us.toArray}}:=fun us ys hv hy=>
    I.laid (t':=s.toks) (fun _ _ q=>Heap.get?_push_of_some _ q) (Nat.le_refl _) ⟨hy,us,hv,⟨_,Heap.get?_push_size _ rfl,rfl,_,rfl⟩⟩
   by_cases h0:k≤0
   · have f2:(decide (k≤0)||au.toArray.isEmpty)=true:=by rw[decide_eq_true h0];rfl
     refine call_meets F.slot_tuple_mul ⟨_,ho,rfl⟩ F.entry_tuple_mul (F.args_tuple_mul_2 _ _) (Ak l au.toArray n dd sl k t f0 f1 f2) ⟨ho,?_⟩
     have ez:k.toNat=0:=by omega
     rw[ez]at q2
     exact⟨.ref _,_,new [] [] .nil (Nat.zero_le _),rfl,q2 hs _ I.fresh⟩
   · have f2:(decide (k≤0)||au.toArray.isEmpty)=false:=by rw[decide_eq_false h0,e1];rfl
     have hk:(k.toNat:Int)=k:=by omega
     have hlen:au.toArray.size*k.toNat≤sizeLine:=by rw[List.size_toArray,←hl];exact hz
     have hsz:((au.toArray.size:Nat):Int)*k≤(sizeLine:Int):=by
      rw[←hk]
      exact_mod_cast hlen
     have f3:¬(((au.toArray.size:Nat):Int)*k>(2^63-1)/8):=by
      have:((sizeLine:Nat):Int)≤(2^63-1)/8:=by decide
      omega
     have f4:Builtin.Tuple.tupleTooMany (((au.toArray.size:Nat):Int)*k)=false:=by
      unfold Builtin.Tuple.tupleTooMany
      exact decide_eq_false (by omega)
     have hnew:List.foldl (fun x1 x2=>x1++x2) #[] (List.replicate k.toNat au.toArray)=(List.replicate k.toNat au).flatten.toArray:=by
      have:=foldl_rep au k.toNat []
      rw[List.nil_append]at this
      exact this
     have hfl:(List.replicate k.toNat au).flatten.length=au.length*k.toNat:=by rw[len_rep,Nat.mul_comm]
     refine call_meets F.slot_tuple_mul ⟨_,ho,rfl⟩ F.entry_tuple_mul (F.args_tuple_mul_2 _ _) (zZ l au.toArray n dd sl k t f0 f1 f2 f3 f4 (by rw[hnew,List.size_toArray,hfl];exact hlen)) ⟨ho,?_⟩
     rw[hnew]
     exact⟨.ref _,_,new _ _ (r.rep k.toNat) (by rw[len_rep,Nat.mul_comm];exact hz),rfl,q2 hs _ I.fresh⟩
noncomputable def Ho:cX:=fun x y st K=>match x,y with
 | .int i,.int j=>K (.int (i+j)) st
 | .tup xs,.tup ys=>xs.length+ys.length≤sizeLine∧K (.tup (xs++ys)) st
 | .lst xs,.lst ys=>xs.length+ys.length≤sizeLine∧K (.lst (xs++ys)) st
 | .str x,.str y=>x.length+y.length≤sizeLine∧K (.str (x++y)) st
 |_,_=>False
theorem L8:bR X (binaryOp .Add) (LR Ho):=fun pins s σ H x y v u Q I rx ry ⟨α,d,e,st,K,G,F',P,r1,r2,S,q,k⟩=>by
 cases d<;>cases e<;>try exact q.elim
 · unfold Rep at r1 r2
   exact Kf pins s σ H x y v u Q I rx ry ⟨_,_,r1,r2,k.here P q S (by unfold Rep;rfl)⟩
 · unfold Rep at r1 r2
   exact Dd pins s σ H x y v u Q I rx ry ⟨_,_,r1,r2,q.1,k.here P q.2 S (by unfold Rep;rfl)⟩
 · unfold Rep at r1 r2
   obtain⟨a,vs,rfl,na,ha,ra⟩:=r1
   obtain⟨b,ws,rfl,nb,hb,rb⟩:=r2
   refine IS pins s σ H _ _ v u Q I rx ry ⟨a,b,vs,ws,rfl,rfl,g6 P ha,g6 P hb,by rw[←ra.length,←rb.length];exact q.1,fun p hp=>?_⟩
   exact k.lst P q.2 S (bg.mpr (fS (bg.mp ra) (bg.mp rb))) hp
 · rename_i xs ys
   unfold Rep at r1 r2
   obtain⟨a,vs,rfl,na,ha,ra⟩:=r1
   obtain⟨b,ws,rfl,nb,hb,rb⟩:=r2
   have hl1:=ra.length
   have hl2:=rb.length
   refine Fd pins s σ H _ _ v u Q I rx ry ⟨a,b,vs,ws,rfl,rfl,P.get ha,P.get hb,by rw[←hl1,←hl2];exact q.1,fun z=>?_,fun _ z=>?_,fun _ _ p hp=>?_⟩
   · refine k.here P q.2 S ?_
     unfold Rep
     have:xs=[]:=by rw[z]at hl1;exact List.length_eq_zero_iff.mp hl1
     subst this
     exact⟨b,ws,rfl,nb,hb,rb⟩
   · refine k.here P q.2 S ?_
     unfold Rep
     have:ys=[]:=by rw[z]at hl2;exact List.length_eq_zero_iff.mp hl2
     subst this
     rw[List.append_nil]
     exact⟨a,vs,rfl,na,ha,ra⟩
   · exact k.tup P q.2 S (bg.mpr (fS (bg.mp ra) (bg.mp rb))) hp
noncomputable def Gp:cX:=fun x y st K=>match x,y with
 | .int i,.int j=>IntMulOk i j∧K (.int (i*j)) st
 | .lst xs,.int k=>(-(2^63)≤k∧k<2^63∧xs.length*k.toNat≤sizeLine)∧K (.lst (List.replicate k.toNat xs).flatten) st
 | .tup xs,.int k=>(-(2^63)≤k∧k<2^63∧xs.length*k.toNat≤sizeLine)∧K (.tup (List.replicate k.toNat xs).flatten) st
 |_,_=>False
theorem MP:bR X (binaryOp .Mult) (LR Gp):=fun pins s σ H x y v u Q I rx ry ⟨α,d,e,st,K,G,F',P,r1,r2,S,q,k⟩=>by
 cases d<;>cases e<;>try exact q.elim
 · unfold Rep at r1 r2
   have h:bR X (binaryOp .Mult) (rI IntMulOk fun i j=> .int (i*j)):=Gr fun _ _ _ _ _ _ _ hc q=>mul_int q hc
   exact h pins s σ H x y v u Q I rx ry ⟨_,_,r1,r2,q.1,k.here P q.2 S (by unfold Rep;rfl)⟩
 · unfold Rep at r1 r2
   obtain⟨a,vs,rfl,na,ha,ra⟩:=r1
   refine Iy pins s σ H _ _ v u Q I rx ry ⟨a,_,vs,rfl,r2,g6 P ha,q.1.1,q.1.2.1,by rw[←ra.length];exact q.1.2.2,fun p hp=>?_⟩
   exact k.lst P q.2 S (bg.mpr (o_ (bg.mp ra) _)) hp
 · rename_i xs m
   have r1':=r1
   unfold Rep at r1 r2
   obtain⟨a,vs,rfl,na,ha,ra⟩:=r1
   refine HQ pins s σ H _ _ v u Q I rx ry ⟨a,_,vs,rfl,r2,P.get ha,q.1.1,q.1.2.1,by rw[←ra.length];exact q.1.2.2,fun hs=>?_,fun _ p hp=>k.tup P q.2 S (bg.mpr (o_ (bg.mp ra) _)) hp⟩
   have e:(List.replicate m.toNat xs).flatten=xs:=by
    rcases hs with z|z
    · have:xs=[]:=List.length_eq_zero_iff.mp (by rw[ra.length,z];rfl)
      rw[this];simp
    · rw[z];simp
   have q2:=q.2
   rw[e]at q2
   exact k.here P q2 S r1'
noncomputable def live(st:af):D→Bool
 | .ref n=>(match st[n]? with|some (.lst _)=>true|some (.ins _ _)=>true|_=>false)
 |_=>true
theorem uA{α:List (Option Addr)}{H:Hp}{st:af}{n:Nat}{v:V}(S:aY α st H)(h:live st (.ref n)=true)(r:Rep α H (.ref n) v):∃a,v= .ref a:=by
 unfold live at h
 simp only at h
 split at h
 · rename_i e
   obtain⟨a,ea,_⟩:=S.fv e
   exact⟨a,dU ea r⟩
 · rename_i e
   obtain⟨a,ea,_⟩:=S.yo e
   exact⟨a,dU ea r⟩
 · cases h
noncomputable def HM:cX:=fun x y st K=>match y with| .aA=>live st x=true∧K (.bl (match x with| .aA=>false|_=>true)) st|_=>False
theorem HK:bR X (compareOp .IsNot) (LR HM):=bR.imp Ig fun x y H Q ⟨α,d,e,st,K,G,F',P,r1,r2,S,q,k⟩=>by
 cases e<;>try exact q.elim
 unfold Rep at r2
 refine⟨r2,k.here P q.2 S ?_⟩
 unfold Rep
 cases d
 case ref n=>
  obtain⟨a,rfl⟩:=uA S q.1 r1
  rfl
 all_goals(unfold Rep at r1;first|(rw[r1];rfl)|(obtain⟨a,vs,rfl,_⟩:=r1;rfl))
noncomputable def qw:cX:=fun x y st K=>match y with
 | .int i=>(match x with
   | .lst xs=>(match dQ xs i with|some d=>K d st|none=>False)
   | .tup xs=>(match dQ xs i with|some d=>K d st|none=>False)
   | .ref n=>(match st[n]? with|some (.lst xs)=>(match dQ xs i with|some d=>K d st|none=>False)|_=>False)
   |_=>False)
 |_=>False
theorem aJ.dQ{α:List (Option Addr)}{H:Hp}{ds:List D}{vs:List V}{i:Int}{d:D}(h:aJ α H ds vs)(e:L2.dQ ds i=some d):∃v,L2.dQ vs i=some v∧Rep α H d v:=by
 unfold L2.dQ at e⊢
 rw[←h.length]
 cases q:jA ds.length i with
 |none=>rw[q]at e;cases e
 |some j=>rw[q]at e;exact h.get e
theorem Oa:Hc X (LR qw):=fun value slice pins s σ H x y v u Q I rx ry ⟨α,d,e,st,K,G,F',P,r1,r2,S,q,k⟩ hs=>by
 cases e<;>try exact q.elim
 unfold Rep at r2
 cases d<;>try exact q.elim
 · rename_i i n
   unfold qw at q
   simp only at q
   split at q
   · split at q
     · rename_i xs e1 _ d' e2
       obtain⟨a,ea,vs,hv,rv⟩:=S.fv e1
       have r1':=dU ea r1
       subst r1'
       obtain⟨z,ez,rz⟩:=rv.dQ e2
       exact BJ value slice pins s σ H _ _ v u Q I rx ry ⟨a,vs,_,z,rfl,r2,.of (P.get hv),ez,k.here P q S rz⟩ hs
     · exact q.elim
   · exact q.elim
 · unfold qw at q
   simp only at q
   split at q
   · rename_i xs d' e2
     unfold Rep at r1
     obtain⟨a,vs,rfl,na,ha,ra⟩:=r1
     obtain⟨z,ez,rz⟩:=ra.dQ e2
     exact BJ value slice pins s σ H _ _ v u Q I rx ry ⟨a,vs,_,z,rfl,r2,.inl (g6 P ha),ez,k.here P q S rz⟩ hs
   · exact q.elim
 · unfold qw at q
   simp only at q
   split at q
   · rename_i xs d' e2
     unfold Rep at r1
     obtain⟨a,vs,rfl,na,ha,ra⟩:=r1
     obtain⟨z,ez,rz⟩:=ra.dQ e2
     exact KY value slice pins s σ H _ _ v u Q I rx ry ⟨a,vs,_,z,rfl,r2,.of (P.get ha),ez,k.here P q S rz⟩ hs
   · exact q.elim
theorem OE{a b:Expr}{ta tb:DE}{pos:Pos}(ha:PE X a (LE ta))(hb:PE X b (LE tb))(hs:sV b:=by intro _ _;rfl):PE X (.Subscript a b pos) (LE (aw qw ta tb)):=PE.imp (Ni Oa ha hb hs) fun _ _ _ h=>LE.op h
end
end L3
namespace L3
open PySem PySem.Spec L2
open PyProof.Rows hiding St
section
variable {X:Cx}
noncomputable def items?(st:af):D→Option (List D)
 | .lst xs=>some xs
 | .tup xs=>some xs
 | .ref n=>(match st[n]? with|some (.lst xs)=>some xs|_=>none)
 |_=>none
@[simp] theorem NK(st:af)(xs:List D):items? st (.lst xs)=some xs:=rfl
@[simp] theorem ND(st:af)(xs:List D):items? st (.tup xs)=some xs:=rfl
@[simp] theorem items_int(st:af)(i:Int):items? st (.int i)=none:=rfl
@[simp] theorem Ot(st:af)(i:Bool):items? st (.bl i)=none:=rfl
@[simp] theorem items_str(st:af)(i:Str):items? st (.str i)=none:=rfl
@[simp] theorem NM(st:af):items? st .aA=none:=rfl
theorem az{st:af}{n:Nat}{xs:List D}(h:st[n]?=some (.lst xs)):items? st (.ref n)=some xs:=by unfold items?;simp only[h]
theorem ma{α:List (Option Addr)}{H:Hp}{st:af}{d:D}{v:V}{xs:List D}(S:aY α st H)(r:Rep α H d v)(e:items? st d=some xs):
 ∃p vs,v= .ref p∧aJ α H xs vs∧(Rd H p (.lst vs)∨H p=some (.tup vs)):=by
 cases d<;>try(cases e;done)
 · unfold items? at e
   simp only at e
   split at e
   · rename_i ys q
     cases e
     obtain⟨a,ea,vs,h1,h2⟩:=S.fv q
     have r':=dU ea r
     subst r'
     exact⟨a,vs,rfl,h2,.inl (.of h1)⟩
   · cases e
 · cases e
   unfold Rep at r
   obtain⟨a,vs,rfl,_,h1,h2⟩:=r
   exact⟨a,vs,rfl,h2,.inl h1⟩
 · cases e
   unfold Rep at r
   obtain⟨a,vs,rfl,_,h1,h2⟩:=r
   exact⟨a,vs,rfl,h2,.inr h1⟩
theorem Cu{K:PySem.W.Frag}{G F H:Hp}(P:cm G F H){p:Addr}{vs:List V}(h:Rd G p (.lst vs)∨G p=some (.tup vs)):lY K H p vs∨iX K H p vs:=h.elim (fun z=> .inl (.inl (g6 P z))) fun z=> .inr (.of (P.get z))
theorem iH{α:List (Option Addr)}{H:Hp}{ds:List D}{xs:List V}{d:D}(r:aJ α H ds xs)(e:ds=[d]):∃v,xs=[v]∧Rep α H d v:=by
 subst e
 unfold aJ at r
 obtain⟨v,q,rfl,h1,h2⟩:=r
 unfold aJ at h2
 subst h2
 exact⟨v,rfl,h1⟩
theorem lX{α:List (Option Addr)}{H:Hp}{ds:List D}{xs:List V}{d e:D}(r:aJ α H ds xs)(q:ds=[d,e]):∃v u,xs=[v,u]∧Rep α H d v∧Rep α H e u:=by
 subst q
 unfold aJ at r
 obtain⟨v,q,rfl,h1,h2⟩:=r
 obtain⟨u,rfl,h3⟩:=iH h2 rfl
 exact⟨v,u,rfl,h1,h3⟩
noncomputable def yy:fM:=fun ds st K=>match ds with
 | [.str x]=>x.length≤sizeLine∧K (.int x.length) st
 | [d]=>(match items? st d with|some xs=>K (.int xs.length) st|none=>False)
 |_=>False
theorem Nf:cp X (.builtin "len") (hZ yy):=fun pins s σ H xs us Q I rs ⟨α,ds,st,K,G,F',P,r,S,q,k⟩=>by
 unfold yy at q
 split at q
 · rename_i x
   obtain⟨v,rfl,r1⟩:=iH r rfl
   unfold Rep at r1
   subst r1
   exact yL pins s σ H _ us Q I rs ⟨x,rfl,q.1,k.here P q.2 S (by unfold Rep;rfl)⟩
 · rename_i d _
   split at q
   · rename_i ys e
     obtain⟨v,rfl,r1⟩:=iH r rfl
     obtain⟨p,vs,rfl,r2,h⟩:=ma S r1 e
     refine Aq pins s σ H _ us Q I rs ⟨p,vs,rfl,Cu P h,k.here P q S (by unfold Rep;rw[r2.length])⟩
   · exact q.elim
 · exact q.elim
noncomputable def NN(g:Int→Int):fM:=fun ds st K=>match ds with| [.int i]=>K (.int (g i)) st|_=>False
noncomputable abbrev Cy:fM:=NN fun i=>if i<0 then-i else i
theorem MH:cp X (.builtin "abs") (hZ Cy):=cp.imp Fo fun xs H Q ⟨α,ds,st,K,G,F',P,r,S,q,k⟩=>by
 unfold Cy NN at q
 split at q
 · obtain⟨v,rfl,r1⟩:=iH r rfl
   unfold Rep at r1
   subst r1
   exact⟨_,rfl,k.here P q S (by unfold Rep;rfl)⟩
 · exact q.elim
noncomputable def LH(g:Int→Int→Int):fM:=fun ds st K=>match ds with| [.int i,.int j]=>K (.int (g i j)) st|_=>False
noncomputable abbrev Cv:fM:=LH fun i j=>if j>i then j else i
theorem MT(hc:X.calm=true):cp X (.builtin "max") (hZ Cv):=cp.imp (Dv hc) fun xs H Q ⟨α,ds,st,K,G,F',P,r,S,q,k⟩=>by
 unfold Cv LH at q
 split at q
 · obtain⟨v,u,rfl,r1,r2⟩:=lX r rfl
   unfold Rep at r1 r2
   subst r1 r2
   exact⟨_,_,rfl,k.here P q S (by unfold Rep;rfl)⟩
 · exact q.elim
noncomputable def B7:fM:=fun ds st K=>match ds with| [.int i]=>K (.int i) st| [.bl b]=>K (.int (if b then 1 else 0)) st|_=>False
theorem Mh:cp X (.type "int") (hZ B7):=cp.imp D7 fun xs H Q ⟨α,ds,st,K,G,F',P,r,S,q,k⟩=>by
 unfold B7 at q
 split at q
 · obtain⟨v,rfl,r1⟩:=iH r rfl
   unfold Rep at r1
   subst r1
   exact .inl ⟨_,rfl,k.here P q S (by unfold Rep;rfl)⟩
 · obtain⟨v,rfl,r1⟩:=iH r rfl
   unfold Rep at r1
   subst r1
   exact .inr ⟨_,rfl,k.here P q S (by unfold Rep;rfl)⟩
 · exact q.elim
noncomputable def s_:fM:=fun ds st K=>match ds with| [d]=>(match items? st d with|some xs=>K (.tup xs) st|none=>False)|_=>False
theorem IU:cp X (.type "tuple") (hZ s_):=cp.imp x6 fun xs H Q ⟨α,ds,st,K,G,F',P,r,S,q,k⟩=>by
 unfold s_ at q
 split at q
 · rename_i d
   split at q
   · rename_i ys e
     obtain⟨v,rfl,r1⟩:=iH r rfl
     cases d with
     |tup zs=>
      cases e
      have r0:=r1
      unfold Rep at r1
      obtain⟨a,vs,rfl,na,h1,h2⟩:=r1
      exact⟨a,vs,rfl,.inr ⟨.of (P.get h1),k.here P q S r0⟩⟩
     |_=>
      obtain⟨p,vs,rfl,r2,h⟩:=ma S r1 e
      refine⟨p,vs,rfl,?_⟩
      rcases h with h|h
      · exact .inl ⟨.inl (g6 P h),fun l hl=>k.tup P q S r2 hl⟩
      · first
         |(cases e;done)
         |(exfalso
           unfold items? at e
           simp only at e
           first
            |(split at e
              · rename_i z
                obtain⟨a,ea,vs',h1,h2⟩:=S.fv z
                have e':=dU ea r1
                cases e'
                rw[h]at h1;cases h1
              · cases e)
            |(unfold Rep at r1
              obtain⟨a,vs',e',_,h1,_⟩:=r1
              cases e'
              rcases h1 with h1|⟨o,h1⟩<;>(rw[h]at h1;cases h1)))
   · exact q.elim
 · exact q.elim
noncomputable def vm:fM:=fun ds st K=>match ds with| [d]=>(match items? st d with|some xs=>K (.lst xs) st|none=>False)|_=>False
theorem Jf:cp X (.type "list") (hZ vm):=cp.imp rE fun xs H Q ⟨α,ds,st,K,G,F',P,r,S,q,k⟩=>by
 unfold vm at q
 split at q
 · split at q
   · rename_i ys e
     obtain⟨v,rfl,r1⟩:=iH r rfl
     obtain⟨p,vs,rfl,r2,h⟩:=ma S r1 e
     exact⟨p,vs,rfl,Cu P h,fun l hl=>k.lst P q S r2 hl⟩
   · exact q.elim
 · exact q.elim
noncomputable def sF:fM:=fun ds st K=>match ds with| [d]=>(match items? st d with|some xs=>K (.ref st.length) (st++[.lst xs])|none=>False)|_=>False
theorem IP:cp X (.type "list") (hZ sF):=cp.imp rE fun xs H Q ⟨α,ds,st,K,G,F',P,r,S,q,k⟩=>by
 unfold sF at q
 split at q
 · split at q
   · rename_i ys e
     obtain⟨v,rfl,r1⟩:=iH r rfl
     obtain⟨p,vs,rfl,r2,h⟩:=ma S r1 e
     exact⟨p,vs,rfl,Cu P h,fun l hl=>k.new P q S r2 hl⟩
   · exact q.elim
 · exact q.elim
noncomputable def jy:List D→Option (List Bool)
 | []=>some []
 | .bl b::r=>(jy r).map (b:: ·)
 |_::_=>none
theorem uX{α:List (Option Addr)}{H:Hp}:∀ {ds:List D} {vs:List V} {bs:List Bool},aJ α H ds vs→jy ds=some bs→vs=bs.map V.bl
 | [],vs,bs,r,e=>by
   unfold aJ at r
   cases e
   exact r
 |d::ds,vs,bs,r,e=>by
  unfold aJ at r
  obtain⟨v,q,rfl,h1,h2⟩:=r
  cases d<;>try(cases e;done)
  unfold jy at e
  cases z:jy ds with
  |none=>rw[z]at e;cases e
  |some cs=>
   rw[z]at e
   cases e
   unfold Rep at h1
   rw[h1,uX h2 z]
   rfl
theorem uR:∀ {bs:List Bool} {us:List Value},Vals (bs.map V.bl) us→us=bs.map Value.bool
 | [],_,.nil=>rfl
 |b::bs,_,.cons h t=>by
  have h:_=Value.bool b:=h
  rw[h,uR t]
  rfl
end
end L3
namespace L3
open PySem PySem.Spec L2
open PyProof.Rows hiding St
section
variable {X:Cx}
noncomputable def yr:fM:=fun ds st K=>match ds with| [.lst xs]=>(match jy xs with|some bs=>K (.bl (bs.all id)) st|none=>False)|_=>False
theorem range_all{α:Type}(l:List α)(f:α→Bool)(tr:Nat→Bool)(h:∀i x,l[i]?=some x→tr i=f x):(List.range l.length).all tr=l.all f:=by
 induction l generalizing tr with
 |nil=>rfl
 |cons a l ih=>
  rw[List.length_cons,List.range_succ_eq_map,List.all_cons,List.all_cons,List.all_map,h 0 a rfl]
  congr 1
  exact ih (tr∘Nat.succ) fun i x e=>h (i+1) x (by simpa using e)
theorem LZ(hc:X.calm=true):cp X (.builtin "all") (hZ yr):=fun pins s σ H xs us Q I rs ⟨α,ds,st,K,G,F',P,r,S,q,k⟩=>by
 unfold yr at q
 split at q
 · rename_i ys
   split at q
   · rename_i bs e
     obtain⟨v,rfl,r1⟩:=iH r rfl
     unfold Rep at r1
     obtain⟨a,vs,rfl,na,h1,h2⟩:=r1
     obtain⟨u,rfl,ru⟩:=vals1 rs
     cases ru
     have hv:=uX h2 e
     subst hv
     obtain⟨z,au,n,rv,hl,eo⟩:=Inv.wV I (g6 P h1)
     have hits:=uR rv
     subst hits
     have isL:s.heap.IsList a (bs.map Value.bool).toArray:=⟨_,eo,rfl,n,rfl⟩
     refine call_all_walk (wpAny_pyIter_list isL ?_)
     have hne:a≠s.heap.objs.size:=Nat.ne_of_lt (Heap.lt_size eo)
     refine⟨s.heap.objs.size,_,_,_,_,_,fun i=>(bs[i]?).getD true,rfl,Walks.list (A:=X.A.in1) (I.ok.hd hc) _ a hne (bs.map Value.bool).toArray,⟨⟨_,Heap.get?_push_size _ rfl,rfl,rfl⟩,⟨_,Heap.get?_push_of_some _ eo,rfl,n,rfl⟩⟩,?_,?_⟩
     · intro i w s' Q' E' hP hQ
       rw[List.getElem?_toArray,List.getElem?_map]at hP
       cases zb:bs[i]? with
       |none=>rw[zb]at hP;cases hP
       |some b=>
        rw[zb]at hP
        cases hP
        simp only[zb]at hQ
        exact wpAny_truthy_bool hQ
     · intro h' tk hk
       have kp:∀b o,s.heap.get? b=some o→h'.get? b=some o:=fun b o q=>hk b o (by
        intro hb
        have:b=s.heap.objs.size:=by simpa using hb
        exact absurd (Heap.lt_size q) (by rw[this];exact Nat.lt_irrefl _)) (Heap.get?_push_of_some _ q)
       have ea:(List.range (bs.map Value.bool).toArray.size).all (fun i=>(bs[i]?).getD true)=bs.all id:=by
        rw[List.size_toArray,List.length_map]
        exact range_all bs id _ fun i x e=>by rw[e];rfl
       rw[ea]
       exact⟨.bl (bs.all id),H,I.kept (t':=tk) kp,rfl,k.here P q S (by unfold Rep;rfl)⟩
   · exact q.elim
 · exact q.elim
noncomputable def eP(st:af):D→Option String
 | .aA=>some "NoneType"
 | .bl _=>some "bool"
 | .int _=>some "int"
 | .str _=>some "str"
 | .lst _=>some "list"
 | .tup _=>some "tuple"
 | .ref n=>(match st[n]? with|some (.lst _)=>some "list"|_=>none)
 | .ty _=>none
@[simp] theorem OS(st:af)(xs:List D):eP st (.lst xs)=some "list":=rfl
@[simp] theorem OL(st:af)(xs:List D):eP st (.tup xs)=some "tuple":=rfl
@[simp] theorem ty_int(st:af)(i:Int):eP st (.int i)=some "int":=rfl
@[simp] theorem O_(st:af)(i:Bool):eP st (.bl i)=some "bool":=rfl
@[simp] theorem ty_str(st:af)(i:Str):eP st (.str i)=some "str":=rfl
@[simp] theorem OK(st:af):eP st .aA=some "NoneType":=rfl
theorem zx{st:af}{n:Nat}{xs:List D}(h:st[n]?=some (.lst xs)):eP st (.ref n)=some "list":=by unfold eP;simp only[h]
noncomputable def rp(t c:String):Bool:=t==c||(t=="bool"&&c=="int")
theorem zy{α:List (Option Addr)}{H:Hp}{st:af}{K:PySem.W.Frag}{d:D}{v:V}{t:String}(S:aY α st H)(r:Rep α H d v)(e:eP st d=some t):jw K H v (.type t):=by
 cases d<;>unfold eP at e<;>try(cases e;done)
 · unfold Rep at r;cases e;subst r;exact .aA
 · unfold Rep at r;cases e;subst r;exact .bl _
 · unfold Rep at r;cases e;subst r;exact .int _
 · unfold Rep at r;cases e;subst r;exact .str _
 · simp only at e
   split at e
   · rename_i z
     cases e
     obtain⟨a,ea,vs',h1,h2⟩:=S.fv z
     have r':=dU ea r
     subst r'
     exact .lst h1
   · cases e
 · cases e
   unfold Rep at r
   obtain⟨a,vs,rfl,na,h1,h2⟩:=r
   rcases h1 with h1|⟨o,h1⟩
   · exact .lst h1
   · exact .gj h1
 · cases e
   unfold Rep at r
   obtain⟨a,vs,rfl,na,h1,h2⟩:=r
   exact .tup h1
theorem BH{G F H:Hp}{K:PySem.W.Frag}(P:cm G F H){x:V}{t:Value}(h:jw K G x t):jw K H x t:=by
 cases h with
 |aA=>exact .aA
 |bl x=>exact .bl x
 |int x=>exact .int x
 |str x=>exact .str x
 |tJ x=>exact .tJ x
 |lst e=>exact .lst (P.get e)
 |gj e=>exact .gj (P.get e)
 |tup e=>exact .tup (P.get e)
 |dK e=>exact .dK (P.get e)
 |dT e=>exact .dT (P.get e)
 |ins e a b c d f=>exact .ins (P.get e) a b c d f
noncomputable def j8:List String:=["NoneType","bool","int","str","list","tuple"]
noncomputable def lp:List String:=["bool","int","str","list","tuple"]
theorem BA(K:PySem.W.Frag){t c:String}(ht:t∈j8)(hc:c∈lp):PySem.W.kitOne K (.type t) (.type c)=some (rp t c):=by
 simp only[j8,lp,List.mem_cons,List.not_mem_nil,or_false]at ht hc
 rcases ht with rfl|rfl|rfl|rfl|rfl|rfl<;>rcases hc with rfl|rfl|rfl|rfl|rfl<;>with_unfolding_all rfl
theorem lj{st:af}{d:D}{t:String}(e:eP st d=some t):t∈j8:=by
 cases d<;>unfold eP at e<;>first
  |(cases e;done)
  |(cases e;decide)
  |(simp only at e;split at e<;>cases e;decide)
theorem kitx_of{pins:List (Addr×Obj)}{σ:L2.St}{H:Hp}{s:Shared}{x:V}{u:Value}{t:String}(I:Inv X pins σ H s)(rx:RelV x u)(ty:jw X.K H x (.type t)):
 ∃Hh:Heap→Prop,PySem.W.KitX X.K u (.type t) Hh∧Hh s.heap∧u≠ .builtin "__main__.__loader__#opaque":=by
 cases ty with
 |aA=>cases (show u=Value.none from rx);exact⟨_,PySem.W.kitx_none,True.intro,fun z=>nomatch z⟩
 |bl y=>cases (show u=Value.bool y from rx);exact⟨_,PySem.W.kitx_bool,True.intro,fun z=>nomatch z⟩
 |int i=>obtain⟨t,q⟩:=(show∃t,u=Value.int i t from rx);cases q;exact⟨_,PySem.W.kitx_int,True.intro,fun z=>nomatch z⟩
 |str y=>obtain⟨t,q⟩:=(show∃t,u=Value.str y t from rx);cases q;exact⟨_,PySem.W.kitx_str,True.intro,fun z=>nomatch z⟩
 |tJ y=>obtain⟨t,q⟩:=(show∃t,u=Value.float y t from rx);cases q;exact⟨_,PySem.W.kitx_float,True.intro,fun z=>nomatch z⟩
 | @lst a xs ea=>
   cases (show u=Value.ref a from rx)
   obtain⟨_,_,n,_,h1⟩:=(show dj X.prog X.w H s.heap a (.lst xs)from I.aI a _ ea)
   exact⟨_,PySem.W.kitx_list,⟨_,h1,rfl⟩,fun z=>nomatch z⟩
 | @gj a ob xs ea=>
   cases (show u=Value.ref a from rx)
   obtain⟨_,_,_,n,_,h1⟩:=(show dj X.prog X.w H s.heap a (.gj ob (.lst xs))from I.aI a _ ea)
   exact⟨_,PySem.W.kitx_list,⟨_,h1,rfl⟩,fun z=>nomatch z⟩
 | @tup a xs ea=>
   cases (show u=Value.ref a from rx)
   obtain⟨_,_,_,p⟩:=(show dj X.prog X.w H s.heap a (.tup xs)from I.aI a _ ea)
   obtain⟨o,h1,h2,_⟩:=p
   exact⟨_,PySem.W.kitx_tuple,⟨o,h1,h2⟩,fun z=>nomatch z⟩
 | @dK a kvs ea=>
   cases (show u=Value.ref a from rx)
   obtain⟨_,_,vs,_,p⟩:=(show dj X.prog X.w H s.heap a (.dK kvs)from I.aI a _ ea)
   obtain⟨o,es,ep,h1,h2,_⟩:=p
   exact⟨_,PySem.W.kitx_dict,⟨o,h1,h2.1⟩,fun z=>nomatch z⟩
 | @dT a kvs ea=>
   cases (show u=Value.ref a from rx)
   obtain⟨_,_,xs,_,o,es,ep,h1,h2,_⟩:=(show dj X.prog X.w H s.heap a (.dT kvs)from I.aI a _ ea)
   exact⟨_,PySem.W.kitx_dict,⟨o,h1,h2.1⟩,fun z=>nomatch z⟩
noncomputable def ny:List D→Option (List String)
 | []=>some []
 | .ty b::r=>(ny r).map (b:: ·)
 |_::_=>none
theorem yM{α:List (Option Addr)}{H:Hp}:∀ {ds:List D} {vs:List V} {bs:List String},aJ α H ds vs→ny ds=some bs→vs=bs.map V.ty
 | [],vs,bs,r,e=>by
   unfold aJ at r
   cases e
   exact r
 |d::ds,vs,bs,r,e=>by
  unfold aJ at r
  obtain⟨v,q,rfl,h1,h2⟩:=r
  cases d<;>try(cases e;done)
  unfold ny at e
  cases z:ny ds with
  |none=>rw[z]at e;cases e
  |some cs=>
   rw[z]at e
   cases e
   unfold Rep at h1
   rw[h1,yM h2 z]
   rfl
theorem yU:∀ {bs:List String} {us:List Value},Vals (bs.map V.ty) us→us=bs.map Value.type
 | [],_,.nil=>rfl
 |b::bs,_,.cons h t=>by
  have h:_=Value.type b:=h
  rw[h,yU t]
  rfl
theorem Bv(K:PySem.W.Frag){t:String}(ht:t∈j8):∀cs:List String,(∀c∈cs,c∈lp)→PySem.W.kitAny K (.type t) (cs.map Value.type)=some (cs.any (rp t))
 | [],_=>rfl
 |c::cs,h=>by
  show(match PySem.W.kitOne K (.type t) (.type c)with|some true=>some true|some false=>PySem.W.kitAny K (.type t) (cs.map Value.type)|none=>none)=_
  rw[BA K ht (h c List.mem_cons_self),List.any_cons]
  cases rp t c with
  |true=>rfl
  |false=>exact Bv K ht cs fun c hc=>h c (List.mem_cons_of_mem _ hc)
noncomputable def vq:fM:=fun ds st K=>match ds with
 | [d,.ty c]=>(match eP st d with|some t=>c∈lp∧K (.bl (rp t c)) st|none=>False)
 | [d,.tup cs]=>(match eP st d,ny cs with|some t,some cl=>(∀c∈cl,c∈lp)∧K (.bl (cl.any (rp t))) st|_,_=>False)
 |_=>False
theorem Mo:cp X (.builtin "isinstance") (hZ vq):=fun pins s σ H xs us Q I rs ⟨α,ds,st,K,G,F',P,r,S,q,k⟩=>by
 unfold vq at q
 split at q
 · rename_i d c
   split at q
   · rename_i t e
     obtain⟨v,v2,rfl,r1,r2⟩:=lX r rfl
     obtain⟨u,u2,rfl,ru,ru2⟩:=vals2 rs
     unfold Rep at r2
     subst r2
     cases (show u2=Value.type c from ru2)
     exact DQ I ru (BH P (zy S r1 e)) (BA _ (lj e) q.1) fun tk=>⟨.bl (rp t c),H,I.tok tk,rfl,k.here P q.2 S (by unfold Rep;rfl)⟩
   · exact q.elim
 · rename_i d cs
   split at q
   · rename_i t cl e ec
     obtain⟨v,v2,rfl,r1,r2⟩:=lX r rfl
     obtain⟨u,u2,rfl,ru,ru2⟩:=vals2 rs
     unfold Rep at r2
     obtain⟨a,vs,rfl,na,h1,h2⟩:=r2
     cases (show u2=Value.ref a from ru2)
     have hv:=yM h2 ec
     subst hv
     obtain⟨Hh,Z,hh,hne⟩:=kitx_of I ru (BH P (zy S r1 e))
     obtain⟨au,r',pl,hz⟩:=I.tuple (iX.of (P.get h1))
     have hi:=yU r'
     subst hi
     obtain⟨⟨cls,dd,data,sl⟩,ho,hc,n,hd⟩:=pl
     simp only at hc hd
     subst hc hd
     exact PySem.W.kia_tup Z I.gY hh ho (Bv _ (lj e) cl q.1) hne fun tk=>⟨.bl _,H,I.tok tk,rfl,k.here P q.2 S (by unfold Rep;rfl)⟩
   · exact q.elim
 · exact q.elim
end
end L3
namespace L3
open PySem PySem.Spec L2 PySem.SeqAt
open PyProof.Rows hiding St
mutual
noncomputable def cy:D→D→Bool
 | .aA,.aA=>true
 | .bl a,.bl b=>a==b
 | .bl a,.int b=>(if a then 1 else 0)==b
 | .int a,.bl b=>a==(if b then 1 else 0)
 | .int a,.int b=>a==b
 | .str a,.str b=>a==b
 | .lst xs,.lst ys=>eU xs ys
 | .tup xs,.tup ys=>eU xs ys
 |_,_=>false
noncomputable def eU:List D→List D→Bool
 | [],[]=>true
 |x::xs,y::ys=>cy x y&&eU xs ys
 |_,_=>false
end
noncomputable def pl:Nat→D→Bool
 |_,.aA=>true
 |_,.bl _=>true
 |_,.int _=>true
 |_,.str _=>true
 |n+1,.lst xs=>xs.all (pl n)
 |n+1,.tup xs=>xs.all (pl n)
 |_,_=>false
mutual
theorem uz:∀(n:Nat) (d:D),pl n d=true→cy d d=true
 |_,.aA,_=>rfl
 |_,.bl _,_=>by simp[cy]
 |_,.int _,_=>by simp[cy]
 |_,.str _,_=>by simp[cy]
 |n+1,.lst xs,h=>by unfold cy;exact qV n xs (by unfold pl at h;exact h)
 |n+1,.tup xs,h=>by unfold cy;exact qV n xs (by unfold pl at h;exact h)
 |0,.lst xs,h=>by cases h
 |0,.tup xs,h=>by cases h
 |_,.ref _,h=>by unfold pl at h;cases h
 |_,.ty _,h=>by unfold pl at h;cases h
theorem qV:∀(n:Nat) (xs:List D),xs.all (pl n)=true→eU xs xs=true
 |_,[],_=>by unfold eU;rfl
 |n,x::xs,h=>by
  rw[List.all_cons,Bool.and_eq_true]at h
  unfold eU
  rw[uz n x h.1,qV n xs h.2]
  rfl
end
mutual
theorem Rep.inj{α:List (Option Addr)}{H:Hp}:∀ {d e:D} {v:V} (n:Nat),pl n d=true→pl n e=true→Rep α H d v→Rep α H e v→d=e
 | .aA,e,v,n,_,he,h1,h2=>by
   unfold Rep at h1;subst h1
   cases e<;>first|(unfold pl at he;cases he;done)|(unfold Rep at h2;cases h2;rfl)|(unfold Rep at h2;cases h2;done)|(unfold Rep at h2;obtain⟨_,_,h2,_⟩:=h2;cases h2)|rfl|(cases h2;done)|(obtain⟨_,_,h2,_⟩:=h2;cases h2)|(obtain⟨_,_,h2⟩:=h2;cases h2)
 | .bl b,e,v,n,_,he,h1,h2=>by
   unfold Rep at h1;subst h1
   cases e<;>first|(unfold pl at he;cases he;done)|(unfold Rep at h2;cases h2;rfl)|(unfold Rep at h2;cases h2;done)|(unfold Rep at h2;obtain⟨_,_,h2,_⟩:=h2;cases h2)|(cases h2;rfl)|(cases h2;done)|(obtain⟨_,_,h2,_⟩:=h2;cases h2)|(obtain⟨_,_,h2⟩:=h2;cases h2)
 | .int b,e,v,n,_,he,h1,h2=>by
   unfold Rep at h1;subst h1
   cases e<;>first|(unfold pl at he;cases he;done)|(unfold Rep at h2;cases h2;rfl)|(unfold Rep at h2;cases h2;done)|(unfold Rep at h2;obtain⟨_,_,h2,_⟩:=h2;cases h2)|(cases h2;rfl)|(cases h2;done)|(obtain⟨_,_,h2,_⟩:=h2;cases h2)|(obtain⟨_,_,h2⟩:=h2;cases h2)
 | .str b,e,v,n,_,he,h1,h2=>by
   unfold Rep at h1;subst h1
   cases e<;>first|(unfold pl at he;cases he;done)|(unfold Rep at h2;cases h2;rfl)|(unfold Rep at h2;cases h2;done)|(unfold Rep at h2;obtain⟨_,_,h2,_⟩:=h2;cases h2)|(cases h2;rfl)|(cases h2;done)|(obtain⟨_,_,h2,_⟩:=h2;cases h2)|(obtain⟨_,_,h2⟩:=h2;cases h2)
 | .ty b,e,v,n,hd,he,h1,h2=>by unfold pl at hd;cases hd
 | .ref b,e,v,n,hd,he,h1,h2=>by unfold pl at hd;cases hd
 | .lst xs,e,v,0,hd,he,h1,h2=>by cases hd
 | .tup xs,e,v,0,hd,he,h1,h2=>by cases hd
 | .lst xs,e,v,n+1,hd,he,h1,h2=>by
   unfold Rep at h1
   obtain⟨a,vs,rfl,na,ha,ra⟩:=h1
   cases e<;>unfold Rep at h2<;>try(cases h2;done)
   · unfold pl at he;cases he
   · obtain⟨a',vs',e',na',ha',ra'⟩:=h2
     cases e'
     have:vs=vs':=by
      rcases ha with ha|⟨o,ha⟩<;>rcases ha' with ha'|⟨o',ha'⟩<;>(rw[ha]at ha';first|(cases ha';rfl)|(cases ha';done))
     subst this
     rw[aJ.inj n (by unfold pl at hd;exact hd) (by unfold pl at he;exact he) ra ra']
   · obtain⟨a',vs',e',na',ha',ra'⟩:=h2
     cases e'
     rcases ha with ha|⟨o,ha⟩<;>(rw[ha]at ha';cases ha')
 | .tup xs,e,v,n+1,hd,he,h1,h2=>by
   unfold Rep at h1
   obtain⟨a,vs,rfl,na,ha,ra⟩:=h1
   cases e<;>unfold Rep at h2<;>try(cases h2;done)
   · unfold pl at he;cases he
   · obtain⟨a',vs',e',na',ha',ra'⟩:=h2
     cases e'
     rcases ha' with ha'|⟨o,ha'⟩<;>(rw[ha]at ha';cases ha')
   · obtain⟨a',vs',e',na',ha',ra'⟩:=h2
     cases e'
     rw[ha]at ha'
     cases ha'
     rw[aJ.inj n (by unfold pl at hd;exact hd) (by unfold pl at he;exact he) ra ra']
theorem aJ.inj{α:List (Option Addr)}{H:Hp}:∀ {ds es:List D} {vs:List V} (n:Nat),ds.all (pl n)=true→es.all (pl n)=true→aJ α H ds vs→aJ α H es vs→ds=es
 | [],es,vs,n,_,_,h1,h2=>by
   unfold aJ at h1
   subst h1
   cases es with
   |nil=>rfl
   |cons e es=>unfold aJ at h2;obtain⟨_,_,h,_⟩:=h2;cases h
 |d::ds,es,vs,n,hd,he,h1,h2=>by
  unfold aJ at h1
  obtain⟨v,r,rfl,r1,r2⟩:=h1
  cases es with
  |nil=>unfold aJ at h2;cases h2
  |cons e es=>
   unfold aJ at h2
   obtain⟨v',r',h,q1,q2⟩:=h2
   cases h
   rw[List.all_cons,Bool.and_eq_true]at hd he
   rw[Rep.inj n hd.1 he.1 r1 q1,aJ.inj n hd.2 he.2 r2 q2]
end
theorem jW:∀ {xs ys:List D},xs.length≠ys.length→eU xs ys=false
 | [],[],h=>absurd rfl h
 | [],_::_,_=>by unfold eU;rfl
 |_::_,[],_=>by unfold eU;rfl
 |x::xs,y::ys,h=>by
  unfold eU
  rw[jW (by simpa using h),Bool.and_false]
theorem nS:∀ {xs ys:List D},xs.length=ys.length→eU xs ys=(List.range xs.length).all fun j=>cy (xs.getD j .aA) (ys.getD j .aA)
 | [],[],_=>by unfold eU;rfl
 | [],_::_,h=>by cases h
 |_::_,[],h=>by cases h
 |x::xs,y::ys,h=>by
  unfold eU
  rw[List.length_cons,List.range_succ_eq_map,List.all_cons,List.all_map,nS (by simpa using h)]
  rfl
section
variable {X:Cx}{pins:List (Addr×Obj)}{σ:L2.St}{H:Hp}{s:Shared}{α:List (Option Addr)}
theorem ke{xs:List D}{vs:List V}{au:List Value}(r:aJ α H xs vs)(v:Vals vs au)(j:Nat)(hj:j<au.length):∃x,xs[j]?=some (xs.getD j .aA)∧Rep α H (xs.getD j .aA) x∧RelV x au[j]:=by
 have h1:=r.length
 have h2:=v.length
 have hx:j<xs.length:=by omega
 have e:xs[j]?=some (xs.getD j .aA):=by rw[List.getElem?_eq_getElem hx,List.getD_eq_getElem?_getD,List.getElem?_eq_getElem hx];rfl
 obtain⟨x,q,rr⟩:=r.get e
 obtain⟨u,q2,rv⟩:=v.get q
 rw[List.getElem?_eq_getElem hj]at q2
 cases q2
 exact⟨x,e,rr,rv⟩
theorem iW{xs:List D}{n:Nat}(h:xs.all (pl n)=true)(j:Nat):pl n (xs.getD j .aA)=true:=by
 rw[List.getD_eq_getElem?_getD]
 cases e:xs[j]? with
 |none=>cases n<;>rfl
 |some d=>exact List.all_eq_true.mp h d (List.mem_of_getElem? e)
noncomputable def xl:D→Bool
 | .aA=>true
 | .bl _=>true
 | .int _=>true
 | .str _=>true
 |_=>false
theorem Bs{A:Around}{d e:D}{x y:V}{u v:Value}(hd:xl d=true)(he:xl e=true)(rd:Rep α H d x)(re:Rep α H e y)(rx:RelV x u)(ry:RelV y v):RcAt A s u v (cy d e)∧EqAt A s u v (cy d e):=by
 cases d<;>cases e<;>try(first|(cases hd;done)|(cases he;done))
 all_goals(unfold Rep at rd re;subst rd re)
 all_goals(first|(obtain⟨t,rfl⟩:=rx;obtain⟨t',rfl⟩:=ry)|(obtain⟨t,rfl⟩:=rx;cases ry)|(cases rx;obtain⟨t,rfl⟩:=ry)|(cases rx;cases ry))
 all_goals unfold cy
 · exact⟨RcAt.none_none,EqAt.same _⟩
 · exact⟨RcAt.none_bool _,EqAt.none_bool _⟩
 · exact⟨RcAt.none_int _ _,EqAt.none_int _ _⟩
 · exact⟨RcAt.none_str _ _,EqAt.none_str _ _⟩
 · exact⟨RcAt.bool_none _,EqAt.bool_none _⟩
 · exact⟨RcAt.bool_bool _ _,EqAt.bool_bool _ _⟩
 · exact⟨RcAt.bool_int _ _ _,EqAt.bool_int _ _ _⟩
 · exact⟨RcAt.bool_str _ _ _,EqAt.bool_str _ _ _⟩
 · exact⟨RcAt.int_none _ _,EqAt.int_none _ _⟩
 · exact⟨RcAt.int_bool _ _ _,EqAt.int_bool _ _ _⟩
 · exact⟨RcAt.int_int _ _ _ _,EqAt.int_int _ _ _ _⟩
 · exact⟨RcAt.int_str _ _ _ _,EqAt.int_str _ _ _ _⟩
 · exact⟨RcAt.str_none _ _,EqAt.str_none _ _⟩
 · exact⟨RcAt.str_bool _ _ _,EqAt.str_bool _ _ _⟩
 · exact⟨RcAt.str_int _ _ _ _,EqAt.str_int _ _ _ _⟩
 · exact⟨RcAt.str_str _ _ _ _,EqAt.str_str _ _ _ _⟩
theorem lst_is(I:Inv X pins σ H s){xs:List D}{x:V}{u:Value}(r:Rep α H (.lst xs) x)(rx:RelV x u):∃a vs au,u= .ref a∧aJ α H xs vs∧Vals vs au∧s.heap.IsList a au.toArray:=by
 unfold Rep at r
 obtain⟨a,vs,rfl,na,ha,ra⟩:=r
 cases rx
 obtain⟨z,au,n,rv,hl,eo⟩:=Inv.wV I ha
 exact⟨a,vs,au,rfl,ra,rv,⟨_,eo,rfl,n,rfl⟩⟩
theorem tup_is(I:Inv X pins σ H s){xs:List D}{x:V}{u:Value}(r:Rep α H (.tup xs) x)(rx:RelV x u):∃a vs au,u= .ref a∧aJ α H xs vs∧Vals vs au∧s.heap.IsTuple a au.toArray:=by
 unfold Rep at r
 obtain⟨a,vs,rfl,na,ha,ra⟩:=r
 cases rx
 obtain⟨au,r',p,hz⟩:=I.tuple (iX.of ha)
 exact⟨a,vs,au,rfl,ra,r',p⟩
theorem xX(I:Inv X pins σ H s){A:Around}{xs:List D}{e:D}{x y:V}{u v:Value}(he:xl e=true)(rd:Rep α H (.lst xs) x)(re:Rep α H e y)(rx:RelV x u)(ry:RelV y v)(hu:A.units<cLine):
 (RcAt A s u v (cy (.lst xs) e)∧EqAt A s u v (cy (.lst xs) e))∧RcAt A s v u (cy e (.lst xs))∧EqAt A s v u (cy e (.lst xs)):=by
 obtain⟨a,vs,au,rfl,_,_,hl⟩:=lst_is I rd rx
 cases e<;>try(cases he;done)
 all_goals(unfold Rep at re;subst re)
 all_goals(first|(obtain⟨t,rfl⟩:=ry)|(cases ry))
 all_goals unfold cy
 · exact⟨⟨RcAt.list_none hl hu,EqAt.list_none hl hu⟩,RcAt.none_list hl hu,EqAt.none_list hl hu⟩
 · exact⟨⟨RcAt.list_bool _ hl hu,EqAt.list_bool _ hl hu⟩,RcAt.bool_list _ hl hu,EqAt.bool_list _ hl hu⟩
 · exact⟨⟨RcAt.list_int _ _ hl hu,EqAt.list_int _ _ hl hu⟩,RcAt.int_list _ _ hl hu,EqAt.int_list _ _ hl hu⟩
 · exact⟨⟨RcAt.list_str _ _ hl hu,EqAt.list_str _ _ hl hu⟩,RcAt.str_list _ _ hl hu,EqAt.str_list _ _ hl hu⟩
theorem xF(I:Inv X pins σ H s){A:Around}{xs:List D}{e:D}{x y:V}{u v:Value}(he:xl e=true)(rd:Rep α H (.tup xs) x)(re:Rep α H e y)(rx:RelV x u)(ry:RelV y v)(hu:A.units<cLine):
 (RcAt A s u v (cy (.tup xs) e)∧EqAt A s u v (cy (.tup xs) e))∧RcAt A s v u (cy e (.tup xs))∧EqAt A s v u (cy e (.tup xs)):=by
 obtain⟨a,vs,au,rfl,_,_,hl⟩:=tup_is I rd rx
 cases e<;>try(cases he;done)
 all_goals(unfold Rep at re;subst re)
 all_goals(first|(obtain⟨t,rfl⟩:=ry)|(cases ry))
 all_goals unfold cy
 · exact⟨⟨RcAt.tuple_none hl hu,EqAt.tuple_none hl hu⟩,RcAt.none_tuple hl hu,EqAt.none_tuple hl hu⟩
 · exact⟨⟨RcAt.tuple_bool _ hl hu,EqAt.tuple_bool _ hl hu⟩,RcAt.bool_tuple _ hl hu,EqAt.bool_tuple _ hl hu⟩
 · exact⟨⟨RcAt.tuple_int _ _ hl hu,EqAt.tuple_int _ _ hl hu⟩,RcAt.int_tuple _ _ hl hu,EqAt.int_tuple _ _ hl hu⟩
 · exact⟨⟨RcAt.tuple_str _ _ hl hu,EqAt.tuple_str _ _ hl hu⟩,RcAt.str_tuple _ _ hl hu,EqAt.str_tuple _ _ hl hu⟩
theorem BG{A:Around}{n:Nat}{d e:D}{x y:V}{a b:Addr}(hd:pl n d=true)(he:pl n e=true)(rd:Rep α H d x)(re:Rep α H e y)(rx:RelV x (.ref a))(ry:RelV y (.ref b))(h:RcAt A s (.ref a) (.ref b) (cy d e)):
 RcAt A s (.ref a) (.ref b) (cy d e)∧EqAt A s (.ref a) (.ref b) (cy d e):=by
 refine⟨h,?_⟩
 by_cases hab:a=b
 · subst hab
   have hx:x=y:=RelV.inj rx ry
   subst hx
   have:=Rep.inj n hd he rd re
   subst this
   rw[uz n d hd]
   exact EqAt.same _
 · exact EqAt.of_refs hab h
theorem yx(I:Inv X pins σ H s):∀(n:Nat) (A:Around) (d e:D) (x y:V) (u v:Value),pl n d=true→pl n e=true→Rep α H d x→Rep α H e y→RelV x u→RelV y v→A.units+n<cLine→
 RcAt A s u v (cy d e)∧EqAt A s u v (cy d e):=by
 intro n
 induction n with
 |zero=>
  intro A d e x y u v hd he rd re rx ry hu
  refine Bs ?_ ?_ rd re rx ry
  · cases d<;>first|rfl|(cases hd)
  · cases e<;>first|rfl|(cases he)
 |succ n ih=>
  intro A d e x y u v hd he rd re rx ry hu
  have hu0:A.units<cLine:=by omega
  have hin:A.in1.units+n<cLine:=by rw[Around.in1_units];omega
  cases d<;>try(cases hd;done)
  case lst xs=>
   cases e<;>try(cases he;done)
   case lst ys=>
    have rd0:=rd
    have re0:=re
    have rx0:=rx
    have ry0:=ry
    obtain⟨a,vs,au,rfl,r1,v1,l1⟩:=lst_is I rd rx
    obtain⟨b,ws,jts,rfl,r2,v2,l2⟩:=lst_is I re ry
    have e1:=r1.length
    have e2:=v1.length
    have e3:=r2.length
    have e4:=v2.length
    refine BG hd he rd0 re0 rx0 ry0 ?_
    unfold cy
    by_cases hlen:xs.length=ys.length
    · rw[nS hlen]
      have hsz:au.toArray.size=jts.toArray.size:=by simp only[List.size_toArray];omega
      have hx:xs.length=au.toArray.size:=by simp only[List.size_toArray];omega
      rw[hx]
      refine RcAt.lists l1 l2 hsz hu0 fun j h1 h2=>?_
      have h1':j<au.length:=by simpa using h1
      have h2':j<jts.length:=by simpa using h2
      obtain⟨p,_,q1,q2⟩:=ke r1 v1 j h1'
      obtain⟨p',_,q1',q2'⟩:=ke r2 v2 j h2'
      exact(ih A.in1 _ _ p p' _ _ (iW (by unfold pl at hd;exact hd) j) (iW (by unfold pl at he;exact he) j) q1 q1' (by simpa using q2) (by simpa using q2') hin).2
    · rw[jW hlen]
      exact RcAt.lists_lengths l1 l2 (by simp only[List.size_toArray,bne_iff_ne,ne_eq];omega) hu0
   case tup ys=>
    obtain⟨a,vs,au,rfl,r1,v1,l1⟩:=lst_is I rd rx
    obtain⟨b,ws,jts,rfl,r2,v2,l2⟩:=tup_is I re ry
    unfold cy
    exact⟨RcAt.list_tuple l1 l2 hu0,EqAt.list_tuple l1 l2 hu0⟩
   all_goals exact(xX I rfl rd re rx ry hu0).1
  case tup xs=>
   cases e<;>try(cases he;done)
   case tup ys=>
    have rd0:=rd
    have re0:=re
    have rx0:=rx
    have ry0:=ry
    obtain⟨a,vs,au,rfl,r1,v1,l1⟩:=tup_is I rd rx
    obtain⟨b,ws,jts,rfl,r2,v2,l2⟩:=tup_is I re ry
    have e1:=r1.length
    have e2:=v1.length
    have e3:=r2.length
    have e4:=v2.length
    refine BG hd he rd0 re0 rx0 ry0 ?_
    unfold cy
    have key:=RcAt.tuples (e:=fun j=>cy (xs.getD j .aA) (ys.getD j .aA)) l1 l2 hu0 fun j h1 h2=>by
     have h1':j<au.length:=by simpa using h1
     have h2':j<jts.length:=by simpa using h2
     obtain⟨p,_,q1,q2⟩:=ke r1 v1 j h1'
     obtain⟨p',_,q1',q2'⟩:=ke r2 v2 j h2'
     exact(ih A.in1 _ _ p p' _ _ (iW (by unfold pl at hd;exact hd) j) (iW (by unfold pl at he;exact he) j) q1 q1' (by simpa using q2) (by simpa using q2') hin).2
    by_cases hlen:xs.length=ys.length
    · rw[nS hlen]
      have hsz:au.toArray.size=jts.toArray.size:=by simp only[List.size_toArray];omega
      have hx:xs.length=au.toArray.size:=by simp only[List.size_toArray];omega
      rw[hsz,Nat.min_self,beq_self_eq_true,Bool.and_true,←hsz,←hx]at key
      exact key
    · rw[jW hlen]
      have hne:(au.toArray.size==jts.toArray.size)=false:=by simp only[List.size_toArray,beq_eq_false_iff_ne,ne_eq];omega
      rw[hne,Bool.and_false]at key
      exact key
   case lst ys=>
    obtain⟨a,vs,au,rfl,r1,v1,l1⟩:=tup_is I rd rx
    obtain⟨b,ws,jts,rfl,r2,v2,l2⟩:=lst_is I re ry
    unfold cy
    exact⟨RcAt.tuple_list l1 l2 hu0,EqAt.tuple_list l1 l2 hu0⟩
   all_goals exact(xF I rfl rd re rx ry hu0).1
  all_goals
   cases e<;>try(cases he;done)
   case lst ys=>exact(xX I rfl re rd ry rx hu0).2
   case tup ys=>exact(xF I rfl re rd ry rx hu0).2
   all_goals exact Bs rfl rfl rd re rx ry
noncomputable def Kx:cX:=fun x y st K=>pl 40 x=true∧pl 40 y=true∧K (.bl (cy x y)) st
theorem N9{k:Nat}(hr:cQ k X.A):bR X (compareOp .Eq) (LR Kx):=fun pins s σ H x y v u Q I rx ry ⟨α,d,e,st,K,G,F',P,r1,r2,S,q,k⟩=>by
 have hu:=hr.units
 exact(yx I 40 X.A d e x y v u q.1 q.2.1 (r1.mono P.same) (r2.mono P.same) rx ry (by omega)).1 _ _ _ _ ⟨.bl (cy d e),H,I,rfl,k.here P q.2.2 S (by unfold Rep;rfl)⟩
noncomputable def Ln:cX:=fun x y st K=>match x,y with
 | .int i,.int j=>K (.bl (!decide (i=j))) st
 | .bl i,.bl j=>K (.bl (!decide (i=j))) st
 | .str i,.str j=>K (.bl (!decide (i=j))) st
 |_,_=>False
theorem NZ:bR X (compareOp .NotEq) (LR Ln):=bR.imp Mq fun x y H Q ⟨α,d,e,st,K,G,F',P,r1,r2,S,q,k⟩=>by
 cases d<;>cases e<;>try exact q.elim
 all_goals(unfold Rep at r1 r2;subst r1 r2)
 · exact⟨rfl,k.here P q S (by unfold Rep;congr 2;exact decide_eq_decide.mpr ⟨fun h=>by cases h;rfl,fun h=>by rw[h]⟩)⟩
 · exact⟨rfl,k.here P q S (by unfold Rep;congr 2;exact decide_eq_decide.mpr ⟨fun h=>by cases h;rfl,fun h=>by rw[h]⟩)⟩
 · exact⟨rfl,k.here P q S (by unfold Rep;congr 2;exact decide_eq_decide.mpr ⟨fun h=>by cases h;rfl,fun h=>by rw[h]⟩)⟩
end
end L3
namespace L3
open PySem PySem.Spec L2
open PyProof.Rows hiding St
noncomputable def LC(α:List (Option Addr))(G F:Hp)(K:bM→af→Prop)(Q:L2.St→Hp→Prop):Prop:=∀σd' st',K σd' st'→∀α' G' H' σ',Step α G α' G'→cm G' F H'→dO α' G' σd' σ'→aY α' st' G'→Q σ' H'
structure yC(α:List (Option Addr))(G F:Hp)(DD:mY)(D:Ends):Prop where
 nx:LC α G F DD.nx D.nx
 rt:LK α G F DD.rt D.rt
 bk:LC α G F DD.bk D.bk
 ct:LC α G F DD.ct D.ct
inductive NB(t:DS)(D:Ends)(σ:L2.St)(H:Hp):Prop
 |mk (α:List (Option Addr)) (σd:bM) (st:af) (DD:mY) (G F:Hp) (P:cm G F H) (R:dO α G σd σ) (S:aY α st G) (h:t DD σd st) (k:yC α G F DD D):NB t D σ H
noncomputable def LS(t:DS):TS:=NB t
theorem LC.at{α α1:List (Option Addr)}{G F G1:Hp}{K:bM→af→Prop}{Q:L2.St→Hp→Prop}(h:LC α G F K Q)(s:Step α G α1 G1):LC α1 G1 F K Q:=fun d st' k α' G' H' v s' P R S=>h d st' k α' G' H' v (s.trans s') P R S
theorem LC.here{α:List (Option Addr)}{G F H:Hp}{K:bM→af→Prop}{Q:L2.St→Hp→Prop}(h:LC α G F K Q)(P:cm G F H){σd:bM}{st:af}{σ:L2.St}(k:K σd st)(R:dO α G σd σ)(S:aY α st G):Q σ H:=h σd st k α G H σ Step.refl P R S
theorem yC.at{α α1:List (Option Addr)}{G F G1:Hp}{DD:mY}{D:Ends}(h:yC α G F DD D)(s:Step α G α1 G1):yC α1 G1 F DD D:=⟨h.nx.at s,h.rt.at s,h.bk.at s,h.ct.at s⟩
section
variable {X:Cx}{a b c e o i:Expr}{es:List Expr}{ta tb tc te:DE}{pos:Pos}{st:Stmt}{sts:List Stmt}{t u:DS}
theorem PS.imp{t t':TS}(h:PS X st t)(f:∀D σ H,t' D σ H→t D σ H):PS X st t':=fun pins s σ H D I q=>h pins s σ H D I (f D σ H q)
theorem gT.imp{t t':TS}(h:gT X sts t)(f:∀D σ H,t' D σ H→t D σ H):gT X sts t':=fun pins s σ H D I q=>h pins s σ H D I (f D σ H q)
noncomputable def bY:DS:=fun D σ st=>D.nx σ st
noncomputable def aE(t u:DS):DS:=fun D σ st=>t {D with nx:=u D} σ st
theorem HN:gT X [] (LS bY):=gT.imp HG fun D σ H ⟨α,σd,st,DD,G,F,P,R,S,t,k⟩=>k.nx.here P t R S
theorem IV(h:PS X st (LS t)):gT X [st] (LS t):=IF h
theorem F9(h:PS X st (LS t))(h2:gT X sts (LS u)):gT X (st::sts) (LS (aE t u)):=gT.imp (Fx h h2) fun D σ H ⟨α,σd,st,DD,G,F,P,R,S,t,k⟩=>
 ⟨α,σd,st,_,G,F,P,R,S,t,fun σd' st' q α' G' H' σ' s' P' R' S'=>⟨α',σd',st',DD,G',F,P',R',S',q,k.at s'⟩,k.rt,k.bk,k.ct⟩
noncomputable def ba(te:DE):DS:=fun D σ st=>te σ st D.rt
theorem Jt(h:PE X e (LE te)):PS X (.Return (some e) pos) (LS (ba te)):=PS.imp (Ko h) fun D σ H ⟨α,σd,st,DD,G,F,P,R,S,t,k⟩=>⟨α,σd,st,_,G,F,P,R,S,t,k.rt⟩
noncomputable def jj(te:DE):DS:=fun D σ st=>te σ st fun _ st1=>D.nx σ st1
theorem HZ(h:PE X e (LE te))(hs:swapsWith e none pos.line X.env=pure false:=by rfl):PS X (.Expr e pos) (LS (jj te)):=PS.imp (Hz h hs) fun D σ H ⟨α,σd,st,DD,G,F,P,R,S,t,k⟩=>
 ⟨α,σd,st,_,G,F,P,R,S,t,fun d st1 q α1 G1 H1 v s1 P1 S1 r1=>(k.nx.at s1).here P1 q (R.step s1) S1⟩
noncomputable def cx(c:DT)(t u:DS):DS:=fun D σ st=>c σ st fun b st1=>if b=true then t D σ st1 else u D σ st1
theorem MA{x y:List Stmt}{tc:DT}(hc:PT X c (LT tc))(ha:gT X x (LS t))(hb:gT X y (LS u)):PS X (.If c x y pos) (LS (cx tc t u)):=PS.imp (Mn hc ha hb) fun D σ H ⟨α,σd,st,DD,G,F,P,R,S,t,k⟩=>by
 refine⟨α,σd,st,_,G,F,P,R,S,t,fun b st1 q α1 G1 H1 s1 P1 S1=>?_⟩
 cases b with
 |true=>exact⟨α1,σd,st1,DD,G1,F,P1,R.step s1,S1,q,k.at s1⟩
 |false=>exact⟨α1,σd,st1,DD,G1,F,P1,R.step s1,S1,q,k.at s1⟩
noncomputable abbrev e7:=D→bM→Option bM
noncomputable def bB(i:Nat):e7:=fun d σ=>some (σ.set i (some d))
noncomputable def iJ(i j:Nat):e7:=fun d σ=>match d with| .tup [x,y]=>some ((σ.set i (some x)).set j (some y))|_=>none
inductive NT(t:e7)(v:V)(σ:L2.St)(H:Hp)(Q:L2.St→Hp→Prop):Prop
 |mk (α:List (Option Addr)) (σd:bM) (st:af) (d:D) (K:bM→af→Prop) (G F:Hp) (P:cm G F H) (R:dO α G σd σ) (S:aY α st G) (r:Rep α G d v) (h:∃σ',t d σd=some σ'∧K σ' st) (k:LC α G F K Q):NT t v σ H Q
noncomputable def LG(t:e7):TG:=NT t
theorem PG.imp{tg:Expr}{t t':TG}(h:PG X tg t)(f:∀v σ H Q,t' v σ H Q→t v σ H Q):PG X tg t':=fun pins s σ H v u Q I r q=>h pins s σ H v u Q I r (f v σ H Q q)
theorem HJ{tg:Expr}{i:Nat}(h:PG X tg (fu i)):PG X tg (LG (bB i)):=PG.imp h fun v σ H Q ⟨α,σd,st,d,K,G,F,P,R,S,r,⟨σ',e,q⟩,k⟩=>by
 cases e
 exact k.here P q (R.set i r) S
theorem Js{tg:Expr}{i j:Nat}(h:PG X tg (C0 X.K 2 (iL (fu i) (iL (fu j) wD)))):PG X tg (LG (iJ i j)):=PG.imp h fun v σ H Q ⟨α,σd,st,d,K,G,F,P,R,S,r,⟨σ',e,q⟩,k⟩=>by
 unfold iJ at e
 split at e
 · rename_i x y
   cases e
   unfold Rep at r
   obtain⟨a,vs,rfl,na,h1,h2⟩:=r
   obtain⟨v1,v2,rfl,r1,r2⟩:=lX h2 rfl
   exact⟨a,_,rfl,.of (P.get h1),rfl,v1,_,rfl,v2,_,rfl,rfl,k.here P q ((R.set i r1).set j r2) S⟩
 · cases e
noncomputable def bz(i:Nat)(te:DE):DS:=fun D σ st=>te σ st fun d st1=>D.nx (σ.set i (some d)) st1
theorem LM{i:Nat}(h:PS X st (lB (LE te) (fu i))):PS X st (LS (bz i te)):=PS.imp h fun D σ H ⟨α,σd,st,DD,G,F,P,R,S,t,k⟩=>
 ⟨α,σd,st,_,G,F,P,R,S,t,fun d st1 q α1 G1 H1 v s1 P1 S1 r1=>(k.nx.at s1).here P1 q ((R.step s1).set i r1) S1⟩
noncomputable def C1(tg:e7)(te:DE):DS:=fun D σ st=>te σ st fun d st1=>∃σ',tg d σ=some σ'∧D.nx σ' st1
theorem Jh{tg:e7}(h:PS X st (lB (LE te) (LG tg))):PS X st (LS (C1 tg te)):=PS.imp h fun D σ H ⟨α,σd,st,DD,G,F,P,R,S,t,k⟩=>
 ⟨α,σd,st,_,G,F,P,R,S,t,fun d st1 q α1 G1 H1 v s1 P1 S1 r1=>⟨α1,σd,st1,d,DD.nx,G1,F,P1,R.step s1,S1,r1,q,k.nx.at s1⟩⟩
noncomputable def Fc(i j:Nat)(ta:DA):DS:=fun D σ st=>ta σ st fun ds st1=>match ds with| [x,y]=>D.nx ((σ.set i (some x)).set j (some y)) st1|_=>False
theorem Jq{i j:Nat}{ta:DA}(h:PS X st (Jj i j (LA ta))):PS X st (LS (Fc i j ta)):=PS.imp h fun D σ H ⟨α,σd,st,DD,G,F,P,R,S,t,k⟩=>by
 refine⟨α,σd,st,_,G,F,P,R,S,t,fun ds st1 q α1 G1 H1 vs s1 P1 S1 r1=>?_⟩
 match ds,q,r1 with
 | [x,y],q,r1=>
   obtain⟨v1,v2,rfl,q1,q2⟩:=lX r1 rfl
   exact⟨v1,v2,rfl,(k.nx.at s1).here P1 q (((R.step s1).set i q1).set j q2) S1⟩
noncomputable def CB(i:Nat)(r:cX)(te:DE):DS:=fun D σ st=>match σ[i]? with|some (some x)=>te σ st fun y st1=>r x y st1 fun z st2=>D.nx (σ.set i (some z)) st2|_=>False
noncomputable def zJ(f:Int→Int→Int):cX:=fun x y st K=>match x,y with| .int i,.int j=>K (.int (f i j)) st|_,_=>False
theorem Jk{i:Nat}{f:Int→Int→Int}(h:PS X st (Je i (LE te) (JV f))):PS X st (LS (CB i (zJ f) te)):=PS.imp h fun D σ H ⟨α,σd,st,DD,G,F,P,R,S,t,k⟩=>by
 unfold CB at t
 split at t
 · rename_i x e
   obtain⟨v,ev,rv⟩:=R.at' i x e
   refine⟨v,ev,α,σd,st,_,G,F,P,R,S,t,fun y st1 q α1 G1 H1 w s1 P1 S1 r1=>?_⟩
   cases x<;>cases y<;>try exact q.elim
   have rv':=rv
   unfold Rep at rv r1
   exact⟨_,_,rv,r1,(k.nx.at s1).here P1 q ((R.step s1).set i (by unfold Rep;rfl)) S1⟩
 · exact t.elim
noncomputable def yX(x y d:D)(st:af)(K:af→Prop):Prop:=match x,y with
 | .ref n,.int k=>(match st[n]? with
   |some (.lst xs)=>(match jA xs.length k with|some j=>K (st.set n (.lst (xs.set j d)))|none=>False)
   |_=>False)
 |_,_=>False
noncomputable def Kj(to ti te:DE):DS:=fun D σ st=>te σ st fun d st1=>to σ st1 fun x st2=>ti σ st2 fun y st3=>yX x y d st3 fun st4=>D.nx σ st4
theorem Fm{to ti:DE}(h:PS X st (lB (LE te) (wU (LE to) (LE ti) sO))):PS X st (LS (Kj to ti te)):=PS.imp h fun D σ H ⟨α,σd,st,DD,G,F,P,R,S,t,k⟩=>by
 refine⟨α,σd,st,_,G,F,P,R,S,t,fun d st1 q α1 G1 H1 v s1 P1 S1 r1=>?_⟩
 refine⟨α1,σd,st1,_,G1,F,P1,R.step s1,S1,q,fun x st2 q2 α2 G2 H2 v2 s2 P2 S2 r2=>?_⟩
 refine⟨α2,σd,st2,_,G2,F,P2,(R.step s1).step s2,S2,q2,fun y st3 q3 α3 G3 H3 v3 s3 P3 S3 r3=>?_⟩
 cases x<;>cases y<;>try exact q3.elim
 rename_i n kk
 unfold yX at q3
 simp only at q3
 split at q3
 · rename_i xs e
   split at q3
   · rename_i j ej
     obtain⟨p,ep,vs,hv,rv⟩:=S3.fv e
     have r2':=dU ep (r2.step s3)
     subst r2'
     unfold Rep at r3
     have hm:some p∈α3:=List.mem_of_getElem? ep
     have rd:=(r1.step s2).step s3
     refine⟨p,vs,kk,j,rfl,r3,P3.get hv,by rw[←rv.length];exact ej,?_⟩
     refine(((k.nx.at s1).at s2).at s3) σd _ q3 α3 (upd G3 p (.lst (vs.set j v))) _ σ (Step.write hm) (P3.write hv) ((((R.step s1).step s2).step s3).step (Step.write hm)) ?_
     exact S3.write ep ⟨vs.set j v,a5,(bg.mpr (p8 rd j (bg.mp rv))).step (Step.write hm)⟩
   · exact q3.elim
 · exact q3.elim
noncomputable def zW(c:DT)(tb:DS):DS:=fun D σ st=>∃W:Nat→bM→af→Prop,(∃m,W m σ st)∧∀m σ st,W m σ st→
 c σ st fun b st1=>if b=true then tb {D with nx:=fun σ' st'=>∃m',m'<m∧W m' σ' st',ct:=fun σ' st'=>∃m',m'<m∧W m' σ' st',bk:=D.nx} σ st1 else D.nx σ st1
theorem Fs{tc:DT}(h:PS X st (DN (LT tc) (LS t))):PS X st (LS (zW tc t)):=PS.imp h fun D σ H ⟨α,σd,st,DD,G,F,P,R,S,⟨W,⟨m0,w0⟩,turn⟩,k⟩=>by
 refine⟨fun m σ' H'=>∃α' σd' st' G',Step α G α' G'∧cm G' F H'∧dO α' G' σd' σ'∧aY α' st' G'∧W m σd' st',⟨m0,α,σd,st,G,Step.refl,P,R,S,w0⟩,?_⟩
 rintro m σ1 H1 ⟨α1,σd1,st1,G1,s1,P1,R1,S1,w1⟩
 refine⟨α1,σd1,st1,_,G1,F,P1,R1,S1,turn m σd1 st1 w1,fun b st2 q α2 G2 H2 s2 P2 S2=>?_⟩
 cases b with
 |false=>exact((k.nx.at s1).at s2).here P2 q (R1.step s2) S2
 |true=>
  refine⟨fun σ' H'=>∃m',m'<m∧∃α' σd' st' G',Step α G α' G'∧cm G' F H'∧dO α' G' σd' σ'∧aY α' st' G'∧W m' σd' st',fun σ' H' z=>z,?_⟩
  refine⟨α2,σd1,st2,_,G2,F,P2,R1.step s2,S2,q,?_⟩
  refine⟨?_,(k.rt.at s1).at s2,(k.nx.at s1).at s2,?_⟩
  · rintro σd3 st3 ⟨m',hm,w3⟩ α3 G3 H3 σ3 s3 P3 R3 S3
    exact⟨m',hm,α3,σd3,st3,G3,(s1.trans s2).trans s3,P3,R3,S3,w3⟩
  · rintro σd3 st3 ⟨m',hm,w3⟩ α3 G3 H3 σ3 s3 P3 R3 S3
    exact⟨m',hm,α3,σd3,st3,G3,(s1.trans s2).trans s3,P3,R3,S3,w3⟩
noncomputable abbrev DI:=bM→af→(List D→(af→Prop)→af→Prop)→Prop
structure wN(J:It)(α:List (Option Addr))(G:Hp)(ok:af→Prop)(xs:List D):Prop where
 stop:∀(n:Nat) α' G' F' H' st',Step α G α' G'→cm G' F' H'→aY α' st' G'→ok st'→xs.length≤n→J.stop n H'
 go:∀(n:Nat) d α' G' F' H' st',Step α G α' G'→cm G' F' H'→aY α' st' G'→ok st'→xs[n]?=some d→J.go n H'
 pE:∀(n:Nat) d α' G' F' H' st' x H'',Step α G α' G'→cm G' F' H'→aY α' st' G'→ok st'→xs[n]?=some d→J.pE n H' x H''→∃G'',Step α' G' α' G''∧cm G'' F' H''∧aY α' st' G''∧Rep α' G'' d x
noncomputable def LI(t:DI):TI:=fun σ H R=>∃α σd st K G F,cm G F H∧dO α G σd σ∧aY α st G∧t σd st K∧∀xs ok st1,K xs ok st1→∀J α1 G1 H1,Step α G α1 G1→cm G1 F H1→aY α1 st1 G1→wN J α1 G1 ok xs→R J H1
noncomputable def wL(d:D)(st1:af)(K:List D→(af→Prop)→af→Prop):Prop:=match d with
 | .lst xs=>K xs (fun _=>True) st1
 | .tup xs=>K xs (fun _=>True) st1
 | .ref n=>(match st1[n]? with|some (.lst xs)=>K xs (fun st'=>st'[n]?=some (.lst xs)) st1|_=>False)
 |_=>False
noncomputable def MY(t:DE):DI:=fun σ st K=>t σ st fun d st1=>wL d st1 K
theorem BE{K:PySem.W.Frag}{a:Addr}{α:List (Option Addr)}{G:Hp}{ok:af→Prop}{xs:List D}
 (h:∀α' G' st',Step α G α' G'→aY α' st' G'→ok st'→∃vs,Rd G' a (.lst vs)∧aJ α' G' xs vs):wN (Lh K a) α G ok xs where
 stop:=fun n α' G' F' H' st' s P S o hn=>by
  obtain⟨vs,h1,h2⟩:=h α' G' st' s S o
  exact⟨vs,.inl (g6 P h1),by rw[←h2.length];exact hn⟩
 go:=fun n d α' G' F' H' st' s P S o hn=>by
  obtain⟨vs,h1,h2⟩:=h α' G' st' s S o
  obtain⟨v,e,_⟩:=h2.get hn
  exact⟨vs,v,.inl (g6 P h1),e⟩
 pE:=fun n d α' G' F' H' st' x H'' s P S o hn y=>by
  obtain⟨vs,h1,h2⟩:=h α' G' st' s S o
  obtain⟨v,e,r⟩:=h2.get hn
  obtain⟨rfl,y⟩:=y
  have:=y vs (.inl (g6 P h1))
  rw[e]at this
  cases this
  exact⟨G',Step.refl,P,S,r⟩
theorem KC{K:PySem.W.Frag}{a:Addr}{α:List (Option Addr)}{G:Hp}{ok:af→Prop}{xs:List D}
 (h:∀α' G' st',Step α G α' G'→aY α' st' G'→ok st'→∃vs,G' a=some (.tup vs)∧aJ α' G' xs vs):wN (Kr K a) α G ok xs where
 stop:=fun n α' G' F' H' st' s P S o hn=>by
  obtain⟨vs,h1,h2⟩:=h α' G' st' s S o
  exact⟨vs,.of (P.get h1),by rw[←h2.length];exact hn⟩
 go:=fun n d α' G' F' H' st' s P S o hn=>by
  obtain⟨vs,h1,h2⟩:=h α' G' st' s S o
  obtain⟨v,e,_⟩:=h2.get hn
  exact⟨vs,v,.of (P.get h1),e⟩
 pE:=fun n d α' G' F' H' st' x H'' s P S o hn y=>by
  obtain⟨vs,h1,h2⟩:=h α' G' st' s S o
  obtain⟨v,e,r⟩:=h2.get hn
  obtain⟨rfl,y⟩:=y
  have:=y vs (.of (P.get h1))
  rw[e]at this
  cases this
  exact⟨G',Step.refl,P,S,r⟩
theorem FJ{α α':List (Option Addr)}{G G':Hp}{a:Addr}{vs:List V}{xs:List D}(s:Step α G α' G')(na:some a∉α)(h1:Rd G a (.lst vs))(h2:aJ α G xs vs):Rd G' a (.lst vs)∧aJ α' G' xs vs:=by
 refine⟨?_,h2.step s⟩
 rcases h1 with h|⟨o,h⟩
 · exact .inl (s.ext _ _ na h)
 · exact .inr ⟨o,s.ext _ _ na h⟩
theorem Kb{l tg:Expr}{tl:DE}(hl:PE X l (LE tl)):PI X tg l (LI (MY tl)):=by
 intro pins s σ H R I h
 obtain⟨α,σd,st,K,G,F,P,RS,S,t,k⟩:=h
 refine bZ (hl pins s σ H (fun x H1=>∃d α1 G1 st1,Step α G α1 G1∧cm G1 F H1∧aY α1 st1 G1∧Rep α1 G1 d x∧wL d st1 K) I ⟨α,σd,st,_,G,F,P,RS,S,t,fun d st1 q α1 G1 H1 v s1 P1 S1 r1=>⟨d,α1,G1,st1,s1,P1,S1,r1,q⟩⟩) fun v s1 ⟨x,H1,I1,rx,d,α1,G1,st1,s1',P1,S1,r1,q⟩=>?_
 unfold wL at q
 have viaL:∀ {a:Addr} {vs:List V},x= .ref a→Rd H1 a (.lst vs)→R (Lh X.K a) H1→wpAny (model X.prog X.w) X.A (pyIter v) (G0 X pins σ tg R) X.xe s1:=by
  intro a vs ex hr hR
  subst ex
  cases rx
  obtain⟨au,rv,p,hz⟩:=I1.list (.inl hr)
  refine wpAny_pyIter_list p.isList ?_
  refine⟨s1.heap.objs.size,[s1.heap.objs.size],_,_,H1,rfl,I1.kept (t':=s1.toks) fun b o e=>Heap.get?_push_of_some _ e,DL a _,⟨_,Heap.get?_push_size _ rfl,rfl,rfl⟩,fun b hb=>?_,hR⟩
  have e:b=s1.heap.objs.size:=by simpa using hb
  subst e
  exact I1.wg (Nat.le_refl _) (I1.aI.fresh (Nat.le_refl _))
 have viaT:∀ {a:Addr} {vs:List V},x= .ref a→H1 a=some (.tup vs)→R (Kr X.K a) H1→wpAny (model X.prog X.w) X.A (pyIter v) (G0 X pins σ tg R) X.xe s1:=by
  intro a vs ex hr hR
  subst ex
  cases rx
  obtain⟨au,rv,p,hz⟩:=I1.tuple (iX.of hr)
  refine wpAny_pyIter_tuple (show s1.heap.IsTuple a au.toArray from p) ?_
  refine⟨s1.heap.objs.size,[s1.heap.objs.size],_,_,H1,rfl,I1.kept (t':=s1.toks) fun b o e=>Heap.get?_push_of_some _ e,CF a _,⟨_,Heap.get?_push_size _ rfl,rfl,rfl⟩,fun b hb=>?_,hR⟩
  have e:b=s1.heap.objs.size:=by simpa using hb
  subst e
  exact I1.wg (Nat.le_refl _) (I1.aI.fresh (Nat.le_refl _))
 cases d<;>try exact q.elim
 · rename_i n
   simp only at q
   split at q
   · rename_i xs e
     obtain⟨a,ea,vs,h1,h2⟩:=S1.fv e
     have r1':=dU ea r1
     subst r1'
     refine viaL rfl (g6 P1 (.of h1)) (k _ _ st1 q _ α1 G1 H1 s1' P1 S1 (BE fun α' G' st' s S o=>?_))
     obtain⟨b,eb,ws,g1,g2⟩:=S.fv o
     have hb:b=a:=by
      rcases s.pre _ _ ea with z|z<;>(rw[z]at eb;cases eb)
      rfl
     subst hb
     exact⟨ws,.of g1,g2⟩
   · exact q.elim
 · unfold Rep at r1
   obtain⟨a,vs,rfl,na,ha,ra⟩:=r1
   exact viaL rfl (g6 P1 ha) (k _ _ st1 q _ α1 G1 H1 s1' P1 S1 (BE fun α' G' st' s S o=>⟨vs,FJ s na ha ra⟩))
 · unfold Rep at r1
   obtain⟨a,vs,rfl,na,ha,ra⟩:=r1
   exact viaT rfl (P1.get ha) (k _ _ st1 q _ α1 G1 H1 s1' P1 S1 (KC fun α' G' st' s S o=>⟨vs,s.ext _ _ na ha,ra.step s⟩))
noncomputable def dD(lo:Int)(n:Nat):List D:=(List.range n).map fun(k:Nat)=>D.int (lo+(k:Int))
theorem vk{lo:Int}{n k:Nat}:(dD lo n)[k]?=if k<n then some (.int (lo+(k:Int)))else none:=by
 unfold dD
 rw[List.getElem?_map]
 by_cases h:k<n
 · rw[List.getElem?_range h,if_pos h];rfl
 · rw[List.getElem?_eq_none (by simpa using h),if_neg h];rfl
theorem fw{lo:Int}{n:Nat}:(dD lo n).length=n:=by unfold dD;simp
theorem yZ{α:List (Option Addr)}{G:Hp}{lo:Int}{n:Nat}:wN (xa lo n) α G (fun _=>True) (dD lo n) where
 stop:=fun m α' G' F' H' st' s P S o hn=>by rw[fw]at hn;exact hn
 go:=fun m d α' G' F' H' st' s P S o hn=>by
  rw[vk]at hn
  split at hn
  · assumption
  · cases hn
 pE:=fun m d α' G' F' H' st' x H'' s P S o hn y=>by
  obtain⟨rfl,rfl⟩:=y
  rw[vk]at hn
  split at hn
  · cases hn
    exact⟨G',Step.refl,P,S,by unfold Rep;rfl⟩
  · cases hn
theorem PI.imp{tg iter:Expr}{t t':TI}(h:PI X tg iter t)(f:∀σ H R,t' σ H R→t σ H R):PI X tg iter t':=fun pins s σ H R I q=>h pins s σ H R I (f σ H R q)
noncomputable def GC(ds:List D)(st1:af)(K:List D→(af→Prop)→af→Prop):Prop:=match ds with
 | [.int j]=>(-(2^62)≤j∧j<2^62)∧K (dD 0 j.toNat) (fun _=>True) st1
 |_=>False
noncomputable def Hf(ds:List D)(st1:af)(K:List D→(af→Prop)→af→Prop):Prop:=match ds with
 | [.int i,.int j]=>(-(2^62)≤i∧i<2^62∧ -(2^62)≤j∧j<2^62)∧K (dD i (j-i).toNat) (fun _=>True) st1
 |_=>False
noncomputable def IL(t:DA):DI:=fun σ st K=>t σ st fun ds st1=>GC ds st1 K
noncomputable def HS(t:DA):DI:=fun σ st K=>t σ st fun ds st1=>Hf ds st1 K
theorem Dg{tg iter:Expr}{t:DA}(h:PI X tg iter (Cr (LA t))):PI X tg iter (LI (IL t)):=PI.imp h fun σ H R ⟨α,σd,st,K,G,F,P,RS,S,t,k⟩=>by
 refine⟨α,σd,st,_,G,F,P,RS,S,t,fun ds st1 q α1 G1 H1 vs s1 P1 S1 r1=>?_⟩
 match ds,q,r1 with
 | [.int j],q,r1=>
   obtain⟨v,rfl,r2⟩:=iH r1 rfl
   unfold Rep at r2
   subst r2
   exact⟨j,rfl,q.1.1,q.1.2,k _ _ st1 q.2 _ α1 G1 H1 s1 P1 S1 yZ⟩
theorem E5{tg iter:Expr}{t:DA}(h:PI X tg iter (Cm (LA t))):PI X tg iter (LI (HS t)):=PI.imp h fun σ H R ⟨α,σd,st,K,G,F,P,RS,S,t,k⟩=>by
 refine⟨α,σd,st,_,G,F,P,RS,S,t,fun ds st1 q α1 G1 H1 vs s1 P1 S1 r1=>?_⟩
 match ds,q,r1 with
 | [.int i,.int j],q,r1=>
   obtain⟨v,u,rfl,r2,r3⟩:=lX r1 rfl
   unfold Rep at r2 r3
   subst r2 r3
   exact⟨i,j,rfl,q.1,k _ _ st1 q.2 _ α1 G1 H1 s1 P1 S1 yZ⟩
noncomputable def iM(tg:e7)(body:DS)(ok:af→Prop)(E:mY):List D→bM→af→Prop
 | [],σ,st=>ok st∧E.nx σ st
 |x::xs,σ,st=>ok st∧∃σ1,tg x σ=some σ1∧body {E with nx:=iM tg body ok E xs,ct:=iM tg body ok E xs,bk:=E.nx} σ1 st
noncomputable def i9(src:DI)(tg:e7)(body:DS):DS:=fun D σ st=>src σ st fun xs ok st1=>iM tg body ok D xs σ st1
theorem JN{src:DI}{tg:e7}(h:PS X st (JL (LI src) (LG tg) (LS t))):PS X st (LS (i9 src tg t)):=PS.imp h fun D σ H ⟨α,σd,st,DD,G,F,P,R,S,tt,k⟩=>by
 refine⟨α,σd,st,_,G,F,P,R,S,tt,fun xs ok st1 q J α1 G1 H1 s1 P1 S1 it=>?_⟩
 refine⟨fun i m σ' H'=>∃α' σd' st' G',Step α1 G1 α' G'∧cm G' F H'∧dO α' G' σd' σ'∧aY α' st' G'∧iM tg t ok DD (xs.drop i) σd' st'∧m=xs.length-i,⟨xs.length,α1,σd,st1,G1,Step.refl,P1,R.step s1,S1,q,rfl⟩,?_⟩
 rintro i m σ2 H2 ⟨α2,σd2,st2,G2,s2,P2,R2,S2,q2,rfl⟩
 cases e:xs[i]? with
 |none=>
  have hl:xs.length≤i:=List.getElem?_eq_none_iff.mp e
  rw[List.drop_eq_nil_of_le hl]at q2
  unfold iM at q2
  exact .inl ⟨it.stop i α2 G2 F H2 st2 s2 P2 S2 q2.1 hl,((k.nx.at s1).at s2).here P2 q2.2 R2 S2⟩
 |some d=>
  have hl:i<xs.length:=(List.getElem?_eq_some_iff.mp e).1
  have ed:xs.drop i=d::xs.drop (i+1):=by
   rw[List.drop_eq_getElem_cons hl]
   congr 1
   rw[List.getElem?_eq_getElem hl]at e
   exact Option.some.inj e
  rw[ed]at q2
  unfold iM at q2
  obtain⟨aI,σ3,e3,q3⟩:=q2
  refine .inr ⟨it.go i d α2 G2 F H2 st2 s2 P2 S2 aI e,fun σ' H'=>∃α' σd' st' G',Step α1 G1 α' G'∧cm G' F H'∧dO α' G' σd' σ'∧aY α' st' G'∧iM tg t ok DD (xs.drop (i+1)) σd' st',?_,?_⟩
  · rintro σ' H' ⟨α',σd',st',G',z1,z2,z3,z4,z5⟩
    exact⟨xs.length-(i+1),by omega,α',σd',st',G',z1,z2,z3,z4,z5,rfl⟩
  · intro x H' y
    obtain⟨G3,s3,P3,S3,r3⟩:=it.pE i d α2 G2 F H2 st2 x H' s2 P2 S2 aI e y
    refine⟨α2,σd2,st2,d,fun σ' st'=>σ'=σ3∧st'=st2,G3,F,P3,R2.step s3,S3,r3,⟨σ3,e3,rfl,rfl⟩,?_⟩
    rintro σ' st' ⟨rfl,rfl⟩ α4 G4 H4 σ4 s4 P4 R4 S4
    have s24:=(s2.trans s3).trans s4
    refine⟨α4,σ',st',_,G4,F,P4,R4,S4,q3,?_,((k.rt.at s1).at s24),(k.nx.at s1).at s24,?_⟩
    · intro σd5 st5 q5 α5 G5 H5 σ5 s5 P5 R5 S5
      exact⟨α5,σd5,st5,G5,s24.trans s5,P5,R5,S5,q5⟩
    · intro σd5 st5 q5 α5 G5 H5 σ5 s5 P5 R5 S5
      exact⟨α5,σd5,st5,G5,s24.trans s5,P5,R5,S5,q5⟩
end
end L3
namespace L3
open PySem PySem.Spec L2
open PyProof.Rows hiding St
noncomputable def gR(fr:List (Option Nat))(σ:bM):bM:=fr.map fun o=>o.bind fun j=>(σ[j]?).join
theorem dO.comp{α:List (Option Addr)}{G:Hp}{σd:bM}{σ:L2.St}{fr:List (Option Nat)}(h:dO α G σd σ):dO α G (gR fr σd) (σC fr σ):=by
 refine⟨by unfold gR σC;simp,fun i d e=>?_⟩
 unfold gR at e
 rw[List.getElem?_map]at e
 cases q:fr[i]? with
 |none=>rw[q]at e;cases e
 |some o=>
  rw[q]at e
  cases o with
  |none=>simp at e
  |some j=>
   simp only[Option.map_some,Option.some.injEq,Option.bind_some]at e
   have ej:σd[j]?=some (some d):=by
    cases r:σd[j]? with
    |none=>rw[r]at e;cases e
    |some u=>rw[r]at e;simp at e;rw[e]
   obtain⟨v,ev,rv⟩:=h.at' j d ej
   refine⟨v,?_,rv⟩
   unfold σC
   rw[List.getElem?_map,q]
   simp[ev]
noncomputable def cP(tg:e7)(c:DT)(te:DE)(ok:af→Prop)(σc:bM):List D→List D→af→(List D→af→Prop)→Prop
 | [],acc,st,K=>ok st∧K acc st
 |x::xs,acc,st,K=>ok st∧∃σ2,tg x σc=some σ2∧c σ2 st fun b st1=>if b=true then te σ2 st1 fun y st2=>cP tg c te ok σc xs (acc++[y]) st2 K else cP tg c te ok σc xs acc st1 K
noncomputable def cM(src:DI)(fr:List (Option Nat))(tg:e7)(c:DT)(te:DE):DE:=fun σ st K=>src σ st fun xs ok st1=>xs.length≤sizeLine∧cP tg c te ok (gR fr σ) xs [] st1 fun ys st2=>K (.lst ys) st2
noncomputable def kR(src:DI)(fr:List (Option Nat))(tg:e7)(c:DT)(te:DE):DE:=fun σ st K=>src σ st fun xs ok st1=>xs.length≤sizeLine∧cP tg c te ok (gR fr σ) xs [] st1 fun ys st2=>K (.ref st2.length) (st2++[.lst ys])
noncomputable def bW:DT:=fun _ st K=>K true st
noncomputable def sd(fr:List (Option Nat))(tg:e7):Prop:=∀(σ:bM) (d:D) (σ2:bM),tg d (gR fr σ)=some σ2→σ2.length=(gR fr σ).length∧∀(i:Nat) (e:D),(gR fr σ)[i]?=some (some e)→σ2[i]?=some (some e)
theorem sh{fr:List (Option Nat)}{σ:bM}{k:Nat}(h:fr[k]?=some none){e:D}(q:(gR fr σ)[k]?=some (some e)):False:=by
 unfold gR at q
 rw[List.getElem?_map,h]at q
 simp at q
theorem bT{fr:List (Option Nat)}{k:Nat}(h:fr[k]?=some none:=by rfl):sd fr (bB k):=fun σ d σ2 e=>by
 cases e
 refine⟨List.length_set,fun i x q=>?_⟩
 by_cases hi:i=k
 · subst hi;exact(sh h q).elim
 · rw[List.getElem?_set_ne (Ne.symm hi)];exact q
theorem sW{fr:List (Option Nat)}{k j:Nat}(h:fr[k]?=some none:=by rfl)(h':fr[j]?=some none:=by rfl):sd fr (iJ k j):=fun σ d σ2 e=>by
 unfold iJ at e
 split at e
 · cases e
   refine⟨by rw[List.length_set,List.length_set],fun i x q=>?_⟩
   by_cases hi:i=k
   · subst hi;exact(sh h q).elim
   · by_cases hj:i=j
     · subst hj;exact(sh h' q).elim
     · rw[List.getElem?_set_ne (Ne.symm hj),List.getElem?_set_ne (Ne.symm hi)];exact q
 · cases e
section
variable {X:Cx}
theorem J3{c:Expr}{t:DT}(h:PT X c (LT t)):se X [c] (LT t):=Ie h
theorem FH:se X [] (LT bW):=fun pins s σ H Q I ⟨α,σd,st,K,G,F,P,R,S,t,k⟩=>HE pins s σ H Q I (k true st t α G H Step.refl P S)
theorem LE.comp{src:DI}{fr:List (Option Nat)}{tg:e7}{c:DT}{te:DE}(fit:sd fr tg){σ:L2.St}{H:Hp}{Q:VK}{α:List (Option Addr)}{σd:bM}{st:af}{KE:List D→af→Prop}{G F:Hp}(P:cm G F H)(R:dO α G σd σ)(S:aY α st G)
 (t:src σd st fun xs ok st1=>xs.length≤sizeLine∧cP tg c te ok (gR fr σd) xs [] st1 KE)
 (fin:∀ys st2 α2 G2 H2 l vs,KE ys st2→Step α G α2 G2→cm G2 (upd F l (.lst vs)) H2→F l=none→aY α2 st2 G2→aJ α2 G2 ys vs→Q (.ref l) H2):
 sY (LI src) fr (LG tg) (LT c) (LE te) σ H Q:=by
 refine⟨α,σd,st,_,G,F,P,R,S,t,fun xs ok st1 q J α1 G1 H1 s1 P1 S1 it l hl=>?_⟩
 obtain⟨hsz,q⟩:=q
 obtain⟨hG,hF⟩:=P1.none hl
 refine⟨fun i m σ' H'=>∃α' st' G' acc vs,Step α1 G1 α' G'∧cm G' (upd F l (.lst vs)) H'∧dO α' G' (gR fr σd) σ'∧aY α' st' G'∧aJ α' G' acc vs∧acc.length≤i∧i≤xs.length∧cP tg c te ok (gR fr σd) (xs.drop i) acc st' KE∧m=xs.length-i,
  ⟨xs.length,α1,st1,G1,[],[],Step.refl,P1.hide hl,(R.step s1).comp,S1,by unfold aJ;rfl,Nat.le_refl _,Nat.zero_le _,q,rfl⟩,?_⟩
 rintro i m σ2 H2 ⟨α2,st2,G2,acc,vs,s2,P2,R2,S2,ra,hacc,hi,q2,rfl⟩
 cases e:xs[i]? with
 |none=>
  have hl2:xs.length≤i:=List.getElem?_eq_none_iff.mp e
  rw[List.drop_eq_nil_of_le hl2]at q2
  unfold cP at q2
  exact .inl ⟨it.stop i α2 G2 _ H2 st2 s2 P2 S2 q2.1 hl2,fin acc st2 α2 G2 H2 l vs q2.2 (s1.trans s2) P2 hF S2 ra⟩
 |some d=>
  have hl2:i<xs.length:=(List.getElem?_eq_some_iff.mp e).1
  have ed:xs.drop i=d::xs.drop (i+1):=by
   rw[List.drop_eq_getElem_cons hl2]
   congr 1
   rw[List.getElem?_eq_getElem hl2]at e
   exact Option.some.inj e
  rw[ed]at q2
  unfold cP at q2
  obtain⟨aI,σ3,e3,q3⟩:=q2
  refine .inr ⟨it.go i d α2 G2 _ H2 st2 s2 P2 S2 aI e,fun σ' H'=>∃α' st' G' acc vs,Step α1 G1 α' G'∧cm G' (upd F l (.lst vs)) H'∧dO α' G' (gR fr σd) σ'∧aY α' st' G'∧aJ α' G' acc vs∧acc.length≤i+1∧cP tg c te ok (gR fr σd) (xs.drop (i+1)) acc st' KE,?_,?_⟩
  · rintro σ' H' ⟨α',st',G',acc',vs',z1,z2,z3,z4,z5,z6,z7⟩
    exact⟨xs.length-(i+1),by omega,α',st',G',acc',vs',z1,z2,z3,z4,z5,z6,hl2,z7,rfl⟩
  · intro x H' y
    obtain⟨G3,s3,P3,S3,r3⟩:=it.pE i d α2 G2 _ H2 st2 x H' s2 P2 S2 aI e y
    refine⟨α2,gR fr σd,st2,d,fun σ' st'=>σ'=σ3∧st'=st2,G3,_,P3,R2.step s3,S3,r3,⟨σ3,e3,rfl,rfl⟩,?_⟩
    rintro σ' st' ⟨rfl,rfl⟩ α4 G4 H4 σ4 s4 P4 R4 S4
    have s24:=(s2.trans s3).trans s4
    have Rc:dO α4 G4 (gR fr σd) σ4:=⟨by rw[←(fit σd d σ' e3).1];exact R4.len,fun j z hz=>R4.at' j z ((fit σd d σ' e3).2 j z hz)⟩
    refine⟨α4,σ',st',_,G4,_,P4,R4,S4,q3,fun b st5 q5 α5 G5 H5 s5 P5 S5=>?_⟩
    cases b with
    |false=>exact⟨α5,st5,G5,acc,vs,s24.trans s5,P5,Rc.step s5,S5,((ra.step s3).step s4).step s5,by omega,q5⟩
    |true=>
     refine⟨α5,σ',st5,_,G5,_,P5,R4.step s5,S5,q5,fun z st6 q6 α6 G6 H6 v6 s6 P6 S6 r6=>?_⟩
     have hr:=(((ra.step s3).step s4).step s5).step s6
     refine⟨vs,(P6.frame a5).1,by rw[←hr.length];omega,α6,st6,G6,acc++[z],vs++[v6],(s24.trans s5).trans s6,?_,(Rc.step s5).step s6,S6,bg.mpr (fS (bg.mp hr) (.cons r6 .nil)),by rw[List.length_append,List.length_singleton];omega,q6⟩
     have:=P6.OY (p:=l) (o':= .lst (vs++[v6])) a5
     rw[H0]at this
     exact this
theorem Jm{scope:Scope}{Nc:List Str}{elt tg iter:Expr}{ifs:List Expr}{pos:Pos}{src:DI}{fr:List (Option Nat)}{dtg:e7}{c:DT}{te:DE}(S:bj X scope Nc fr)(hi:PI X tg iter (LI src))
 (hg:∀C s H ex,PG (fb X scope Nc C s H ex) tg (LG dtg)) (ht:∀C s H ex,se (fb X scope Nc C s H ex) ifs (LT c)) (he:∀C s H ex,PE (fb X scope Nc C s H ex) elt (LE te)) (fit:sd fr dtg)
 (hx:X.xe=fun _ _=>False:=by rfl) (hc:X.calm=true:=by rfl) (hs:∀x,foldedSetIterable iter X.env x=pure x:=by intro _;rfl):PE X (.ListComp elt [⟨tg,iter,ifs,0⟩] scope pos) (LE (cM src fr dtg c te)):=
 PE.imp (Bc hx hc S hi hg ht he hs) fun σ H Q ⟨α,σd,st,K,G,F,P,R,S,t,k⟩=>LE.comp fit P R S t fun ys st2 α2 G2 H2 l vs q s2 P2 hl S2 r=>by
  have hg:G2 l=none:=(P2.frame a5).2
  refine k _ st2 q α2 (upd G2 l (.lst vs)) H2 (.ref l) (s2.trans (Step.laid hg)) (P2.show hl) (S2.laid hg) ?_
  unfold Rep
  exact⟨l,vs,rfl,S2.kl hg,.of a5,r.step (Step.laid hg)⟩
theorem Hy{scope:Scope}{Nc:List Str}{elt tg iter:Expr}{ifs:List Expr}{pos:Pos}{src:DI}{fr:List (Option Nat)}{dtg:e7}{c:DT}{te:DE}(S:bj X scope Nc fr)(hi:PI X tg iter (LI src))
 (hg:∀C s H ex,PG (fb X scope Nc C s H ex) tg (LG dtg)) (ht:∀C s H ex,se (fb X scope Nc C s H ex) ifs (LT c)) (he:∀C s H ex,PE (fb X scope Nc C s H ex) elt (LE te)) (fit:sd fr dtg)
 (hx:X.xe=fun _ _=>False:=by rfl) (hc:X.calm=true:=by rfl) (hs:∀x,foldedSetIterable iter X.env x=pure x:=by intro _;rfl):PE X (.ListComp elt [⟨tg,iter,ifs,0⟩] scope pos) (LE (kR src fr dtg c te)):=
 PE.imp (Bc hx hc S hi hg ht he hs) fun σ H Q ⟨α,σd,st,K,G,F,P,R,S,t,k⟩=>LE.comp fit P R S t fun ys st2 α2 G2 H2 l vs q s2 P2 hl S2 r=>by
  have hg:G2 l=none:=(P2.frame a5).2
  refine k _ _ q (α2++[some l]) (upd G2 l (.lst vs)) H2 (.ref l) (s2.trans (Step.cell hg)) (P2.show hl) (S2.cell hg ⟨vs,a5,r.step (Step.cell hg)⟩) ?_
  unfold Rep
  refine .inr ⟨l,?_,rfl⟩
  rw[List.getElem?_append_right (by rw[S2.len];exact Nat.le_refl _),S2.len,Nat.sub_self]
  rfl
theorem Hu{st:Stmt}{k:Nat}{src:DI}{fr:List (Option Nat)}{dtg:e7}{c:DT}{te:DE}(fit:sd fr dtg)(h:PS X st (lB (sY (LI src) fr (LG dtg) (LT c) (LE te)) (fu k))):PS X st (LS (bz k (cM src fr dtg c te))):=
 PS.imp h fun D σ H ⟨α,σd,st,DD,G,F,P,R,S,t,q⟩=>LE.comp fit P R S t fun ys st2 α2 G2 H2 l vs qq s2 P2 hl S2 r=>by
  have hg:G2 l=none:=(P2.frame a5).2
  have s3:=s2.trans (Step.laid (o:= .lst vs) hg)
  refine q.nx _ st2 qq α2 (upd G2 l (.lst vs)) H2 _ s3 (P2.show hl) ((R.step s3).set k ?_) (S2.laid hg)
  unfold Rep
  exact⟨l,vs,rfl,S2.kl hg,.of a5,r.step (Step.laid hg)⟩
theorem FD{st:Stmt}{k:Nat}{src:DI}{fr:List (Option Nat)}{dtg:e7}{c:DT}{te:DE}(fit:sd fr dtg)(h:PS X st (lB (sY (LI src) fr (LG dtg) (LT c) (LE te)) (fu k))):PS X st (LS (bz k (kR src fr dtg c te))):=
 PS.imp h fun D σ H ⟨α,σd,st,DD,G,F,P,R,S,t,q⟩=>LE.comp fit P R S t fun ys st2 α2 G2 H2 l vs qq s2 P2 hl S2 r=>by
  have hg:G2 l=none:=(P2.frame a5).2
  have s3:=s2.trans (Step.cell (o:= .lst vs) hg)
  refine q.nx _ _ qq (α2++[some l]) (upd G2 l (.lst vs)) H2 _ s3 (P2.show hl) ((R.step s3).set k ?_) (S2.cell hg ⟨vs,a5,r.step (Step.cell hg)⟩)
  unfold Rep
  refine .inr ⟨l,?_,rfl⟩
  rw[List.getElem?_append_right (by rw[S2.len];exact Nat.le_refl _),S2.len,Nat.sub_self]
  rfl
noncomputable def a6(N:List Str)(ds:List D):bM:=ds.map some++List.replicate (N.length-ds.length) none
theorem dO.start{α:List (Option Addr)}{G:Hp}{N:List Str}{ds:List D}{vs:List V}(r:aJ α G ds vs):dO α G (a6 N ds) (L2.start N vs):=by
 have hl:=r.length
 refine⟨by unfold a6 L2.start;simp[hl],fun i d e=>?_⟩
 unfold a6 at e
 by_cases hi:i<ds.length
 · rw[List.getElem?_append_left (by simpa using hi),List.getElem?_map]at e
   cases q:ds[i]? with
   |none=>rw[q]at e;cases e
   |some x=>
    rw[q]at e
    cases e
    obtain⟨v,ev,rv⟩:=r.get q
    refine⟨v,?_,rv⟩
    unfold L2.start
    rw[List.getElem?_append_left (by rw[List.length_map];omega),List.getElem?_map,ev]
    rfl
 · rw[List.getElem?_append_right (by simpa using hi),List.getElem?_replicate]at e
   split at e<;>cases e
theorem Mv{P:Program}{w:World}{K:PySem.W.Frag}{mg:Str→Option Value}{base:Heap}{x qual:Str}{st:Stmt}{f:Addr}{fd:FuncData}{N ps:List Str}{k:Nat}{sp:cC}{t:DS}(F:nO K x qual st f fd)(S:aT N ps (ag st))
 (hbody:∀(cdv:Value) (A:Around) (outer:List Env) (s:Shared) (H:Hp) (E:XK),cQ k (A.deeper (envOfC qual (ag st) s.heap.objs.size f cdv))→gT (qu cD P w K mg base N qual (ag st) f cdv A outer s H E).vD (gQ st) (LS t))
 (hsp:∀ds st K,sp ds st K→ds.length=ps.length∧t {nx:=fun _ st'=>K .aA st',rt:=K} (a6 N ds) st):bD P w K mg base cD (k+1) f fd ps (cG sp):=by
 refine F.ok S (fun vs H Q E h=>?_) fun cdv A outer s H vs Q E hr h=>⟨_,hbody cdv A outer s H E hr,?_⟩
 · obtain⟨α,ds,st,K,G,F,P,r,S,q,k⟩:=h
   rw[←r.length]
   exact(hsp ds st K q).1
 · obtain⟨α,ds,st,K,G,F,P,r,S,q,k⟩:=h
   refine⟨α,a6 N ds,st,_,G,F,P,dO.start r,S,(hsp ds st K q).2,?_,k,?_,?_⟩
   · intro σd' st' kk α' G' H' σ' s' P' R' S'
     exact k .aA st' kk α' G' H' .aA s' P' S' (by unfold Rep;rfl)
   · intro σd' st' kk
     exact kk.elim
   · intro σd' st' kk
     exact kk.elim
noncomputable def pK(to te:DE):DE:=fun σ st K=>to σ st fun x st1=>match x with
 | .ref n=>(match st1[n]? with
   |some (.lst _)=>te σ st1 fun y st2=>∃y',[y]=[y']∧(match st2[n]? with|some (.lst xs)=>xs.length<sizeLine∧K .aA (st2.set n (.lst (xs++[y'])))|_=>False)
   |_=>False)
 |_=>False
end
end L3
namespace L3
open PySem PySem.Spec L2
open PyProof.Rows hiding St
structure bL(K:PySem.W.Frag)(mg:Str→Option Value)(x qual:Str)(st:Stmt)(ps:List Str)(f:Addr)(fd:FuncData):Prop where
 fn:nO K x qual st f fd
 mg:mg x=some (.ref f)
 bd:Binds K fd ps []
noncomputable def vE(sc:Scope)(N:List Str)(scope:Scope)(Nc:List Str)(fr:List (Option Nat)):Bool:=
 (scope.kind== .function)&&scope.names.all (fun x=>x.2 != .cell||scope.names.lookup x.1==some .cell)&&scope.names.all (fun x=>x.2 != .local||scope.names.lookup x.1==some .local)&&
 scope.names.all (fun x=>x.2 != .free||sc.names.lookup x.1==some .cell||sc.names.lookup x.1==some .free)&&(fr.length==Nc.length)&&
 (List.range fr.length).all fun i=>match fr[i]?,Nc[i]? with
   |some (some j),some x=>(N[j]?==some x)&&(scope.names.lookup x==some .free)&&(sc.names.lookup x==some .cell||sc.names.lookup x==some .free)
   |_,_=>true
theorem bj.look{X:Cx}{scope:Scope}{Nc:List Str}{fr:List (Option Nat)}(sc:Scope)(N:List Str)(h:vE sc N scope Nc fr=true)(hsc:X.env.scope=sc:=by rfl)(hN:X.N=N:=by rfl):bj X scope Nc fr:=by
 unfold vE at h
 simp only[Bool.and_eq_true]at h
 obtain⟨⟨⟨⟨⟨h1,h2⟩,h3⟩,h4⟩,h5⟩,h6⟩:=h
 subst hsc hN
 refine⟨by simpa using h1,fun x hx hk=>?_,fun x hx hk=>?_,fun x hx hk=>?_,by simpa using h5,fun i j x e1 e2=>?_⟩
 · have:=List.all_eq_true.mp h2 x hx
   rw[hk]at this
   simpa using this
 · have:=List.all_eq_true.mp h3 x hx
   rw[hk]at this
   simpa using this
 · have:=List.all_eq_true.mp h4 x hx
   rw[hk]at this
   have z:X.env.scope.names.lookup x.1=some .cell∨X.env.scope.names.lookup x.1=some .free:=by simpa using this
   exact z
 · have hi:i<fr.length:=(List.getElem?_eq_some_iff.mp e2).1
   have:=List.all_eq_true.mp h6 i (List.mem_range.mpr hi)
   rw[e1,e2]at this
   simp only[Bool.and_eq_true,Bool.or_eq_true,beq_iff_eq]at this
   exact⟨this.1.1,this.1.2,this.2⟩
section
variable {X:Cx}
theorem N2{e:Expr}{es:List Expr}{pos p:Pos}{x:Str}{id:String}{r:fM}{t:DA}(hc:cp X (.builtin id) (hZ r))(ha:PA X (e::es) (LA t))(hm:X.mg x=none)(hv:bootBuiltins x=some (.builtin id))(hg:Gl X x:=by rfl)(hn:x≠"__name__":=by decide)(hdb:(x==("__debug__":Str))=false:=by decide)
 (he:starEach (e::es) X.env=(false,eval e X.env)::starEach es X.env:=by rfl) (hpl:(backTo pos (starEach es X.env)).any (·.1)=false:=by rfl):PE X (.Call (.Name x p) (e::es) [] pos) (LE (bF r t)):=PE.imp (Ge hc hg hm hv ha hn hdb he hpl) fun _ _ _ h=>LE.cb h
theorem Oq{e:Expr}{es:List Expr}{pos p:Pos}{x:Str}{T:String}{r:fM}{t:DA}(hc:cp X (.type T) (hZ r))(ha:PA X (e::es) (LA t))(hm:X.mg x=none)(hv:bootBuiltins x=some (.type T))(hg:Gl X x:=by rfl)(hn:x≠"__name__":=by decide)(hdb:(x==("__debug__":Str))=false:=by decide)
 (he:starEach (e::es) X.env=(false,eval e X.env)::starEach es X.env:=by rfl) (hpl:(backTo pos (starEach es X.env)).any (·.1)=false:=by rfl):PE X (.Call (.Name x p) (e::es) [] pos) (LE (bF r t)):=PE.imp (DB hc hg hm hv ha hn hdb he hpl) fun _ _ _ h=>LE.cb h
theorem OH{pos:Pos}{x:Str}{T:String}(hm:X.mg x=none)(hv:bootBuiltins x=some (.type T))(hg:Gl X x:=by rfl)(hn:x≠"__name__":=by decide)(hdb:(x==("__debug__":Str))=false:=by decide):PE X (.Name x pos) (LE (dC (.ty T))):=
 pF (v:= .ty T) (Ii hg hm hv rfl hn hdb) fun _ _=>by unfold Rep;rfl
theorem Oo{e:Expr}{es:List Expr}{pos p:Pos}{x qual:Str}{st:Stmt}{ps:List Str}{f:Addr}{fd:FuncData}{k:Nat}{S:cC}{t:DA}(A:bL X.K X.mg x qual st ps f fd)(F:bD X.prog X.w X.K X.mg X.base cD k f fd ps (cG S))(hr:cQ k X.A)
 (ha:PA X (e::es) (LA t)) (hg:Gl X x:=by rfl) (hdb:(x==("__debug__":Str))=false:=by decide) (he:starEach (e::es) X.env=(false,eval e X.env)::starEach es X.env:=by rfl) (hpl:(backTo pos (starEach es X.env)).any (·.1)=false:=by rfl):
 PE X (.Call (.Name x p) (e::es) [] pos) (LE (aG S t)):=Ks F hr hg A.mg A.fn.kp A.bd ha hdb he hpl
theorem A4{M:Model}{A:Around}{E:Value→Shared→Prop}{s:Shared}{Q:Value→Shared→Prop}{x:V}{v:Value}{b:Bool}(r:RelV x v)(h:Q (.bool (v== .bool b)) s):wpAny M A (compareOp .Is v (.bool b)) Q E s:=by
 cases x
 case bl c=>
  cases r
  have e:(Value.bool c==Value.bool b)=(c==b):=by cases c<;>cases b<;>rfl
  rw[e]at h
  exact is_bool h
 all_goals first
  |(cases r;exact wpAny_pure h)
  |(obtain⟨t,rfl⟩:=r;exact wpAny_pure h)
noncomputable def y8(d:D)(b:Bool):Bool:=match d with| .bl c=>c==b|_=>false
noncomputable def Gu(d:D):Bool:=match d with| .aA=>true|_=>false
noncomputable def G9:cX:=fun x y st K=>match y with| .aA=>live st x=true∧K (.bl (Gu x)) st| .bl b=>live st x=true∧K (.bl (y8 x b)) st|_=>False
theorem BN{α:List (Option Addr)}{H:Hp}{st:af}{d:D}{v:V}{u:Value}{b:Bool}(S:aY α st H)(hl:live st d=true)(r:Rep α H d v)(ru:RelV v u):(u==Value.bool b)=y8 d b:=by
 cases d
 case ref n=>
  obtain⟨a,rfl⟩:=uA S hl r
  cases ru;rfl
 all_goals unfold Rep at r
 case bl c=>
  subst r
  cases ru
  cases c<;>cases b<;>rfl
 all_goals first
  |(subst r;first|(cases ru;rfl)|(obtain⟨t,rfl⟩:=ru;rfl))
  |(obtain⟨a,vs,rfl,_⟩:=r;cases ru;rfl)
theorem Nq:bR X (compareOp .Is) (LR G9):=fun pins s σ H x y v u Q I rx ry ⟨α,d,e,st,K,G,F',P,r1,r2,S,q,k⟩=>by
 cases e<;>try exact q.elim
 · unfold Rep at r2
   refine Jz pins s σ H x y v u Q I rx ry ⟨r2,k.here P q.2 S ?_⟩
   unfold Rep
   cases d
   case ref n=>
    obtain⟨a,rfl⟩:=uA S q.1 r1
    rfl
   all_goals(unfold Rep at r1;first|(rw[r1];rfl)|(obtain⟨a,vs,rfl,_⟩:=r1;rfl))
 · rename_i b
   unfold Rep at r2
   subst r2
   cases ry
   refine A4 rx ?_
   rw[BN S q.1 r1 rx]
   exact⟨.bl (y8 d b),H,I,rfl,k.here P q.2 S (by unfold Rep;rfl)⟩
noncomputable def u6(r r':cX)(ta tb tc:DE):DE:=fun σ st K=>ta σ st fun x st1=>tb σ st1 fun y st2=>r x y st2 fun z st3=>match z with
 | .bl b=>if b=true then tc σ st3 fun w st4=>r' y w st4 K else K (.bl false) st3
 |_=>False
theorem LE.chain{r r':cX}{ta tb tc:DE}{σ:L2.St}{H:Hp}{Q:VK}(h:LE (u6 r r' ta tb tc) σ H Q):Dt (LR r) (LR r') (LE ta) (LE tb) (LE tc) σ H Q:=by
 obtain⟨α,σd,st,K,G,F,P,R,S,t,k⟩:=h
 refine⟨α,σd,st,_,G,F,P,R,S,t,fun d st1 q α1 G1 H1 v s1 P1 S1 r1=>?_⟩
 refine⟨α1,σd,st1,_,G1,F,P1,R.step s1,S1,q,fun d2 st2 q2 α2 G2 H2 v2 s2 P2 S2 r2=>?_⟩
 refine⟨α2,d,d2,st2,_,G2,F,P2,r1.step s2,r2,S2,q2,fun z st3 q3 α3 G3 H3 v3 s3 P3 S3 r3=>?_⟩
 cases z<;>try exact q3.elim
 rename_i b
 unfold Rep at r3
 refine⟨b,r3,?_⟩
 cases b with
 |false=>exact((k.at s1).at s2).at s3 _ st3 q3 α3 G3 H3 _ Step.refl P3 S3 (by unfold Rep;rfl)
 |true=>exact⟨α3,σd,st3,_,G3,F,P3,((R.step s1).step s2).step s3,S3,q3,fun d4 st4 q4 α4 G4 H4 v4 s4 P4 S4 r4=>⟨α4,d2,d4,st4,K,G4,F,P4,(r2.step s3).step s4,r4,S4,q4,(((k.at s1).at s2).at s3).at s4⟩⟩
theorem Jc{a b c:Expr}{ta tb tc:DE}{pos:Pos}{op op':CmpOp}{r r':cX}(ho:bR X (compareOp op) (LR r))(ho':bR X (compareOp op') (LR r'))(ha:PE X a (LE ta))(hb:PE X b (LE tb))(hc:PE X c (LE tc))
 (hm:lastMarks [op,op'] [b,c]=false:=by with_unfolding_all rfl):PE X (.Compare a [op,op'] [b,c] pos) (LE (u6 r r' ta tb tc)):=PE.imp (FV ho ho' ha hb hc hm) fun _ _ _ h=>LE.chain h
theorem LE.append{to te:DE}{σ:L2.St}{H:Hp}{Q:VK}(h:LE (pK to te) σ H Q):K8 X.K "list" Ba (LE to) (LA (ae te aj)) σ H Q:=by
 obtain⟨α,σd,st,K,G,F,P,R,S,t,k⟩:=h
 refine⟨α,σd,st,_,G,F,P,R,S,t,fun x st1 q α1 G1 H1 v s1 P1 S1 r1=>?_⟩
 cases x<;>try exact q.elim
 rename_i n
 simp only at q
 split at q
 · rename_i ys e
   obtain⟨p,ep,vs,h1,h2⟩:=S1.fv e
   have r1':=dU ep r1
   subst r1'
   refine⟨.inl ⟨rfl,vs,.inl (.of (P1.get h1))⟩,α1,σd,st1,fun ds st2=>∃y,ds=[y]∧(match st2[n]? with|some (.lst xs)=>xs.length<sizeLine∧K .aA (st2.set n (.lst (xs++[y])))|_=>False),G1,F,P1,R.step s1,S1,?_,?_⟩
   · refine Eq.mp ?_ q
     rfl
   · rintro ds st2 ⟨y,rfl,q2⟩ α2 G2 H2 ws s2 P2 S2 r2
     obtain⟨w,rfl,rw'⟩:=iH r2 rfl
     split at q2
     · rename_i xs e2
       obtain⟨p2,ep2,us,g1,g2⟩:=S2.fv e2
       have:p2=p:=by
        rcases s2.pre _ _ ep with z|z<;>(rw[z]at ep2;cases ep2)
        rfl
       subst this
       have hm:some p2∈α2:=List.mem_of_getElem? ep2
       refine⟨p2,us,w,rfl,rfl,P2.get g1,by rw[←g2.length];exact q2.1,?_⟩
       refine((k.at s1).at s2) _ _ q2.2 α2 (upd G2 p2 (.lst (us++[w]))) _ .aA (Step.write hm) (P2.write g1) ?_ (by unfold Rep;rfl)
       exact S2.write ep2 ⟨us++[w],a5,(bg.mpr (fS (bg.mp g2) (.cons rw' .nil))).step (Step.write hm)⟩
     · exact q2.elim
 · exact q.elim
theorem Ga{o e:Expr}{to te:DE}{apos cpos:Pos}(ho:PE X o (LE to))(he:PE X e (LE te))(hbase:attributeBase o "append" X.env (eval o X.env)=eval o X.env:=by rfl)
 (hfew:((backTo cpos (starEach [e] X.env)).all (fun x=> !x.1)&&(backToKw cpos (keywordEach [] X.env)).all (fun x=>x.1.isSome)
   &&decide (([e]:List Expr).length+([]:List Keyword).length+(if([]:List Keyword).isEmpty then 0 else 1)<30))=true:=by rfl)
 (hline:(apos.endLine==cpos.line)=true:=by rfl) (hs:starEach [e] X.env=(false,eval e X.env)::starEach [] X.env:=by rfl) (hplain:(backTo cpos (starEach [] X.env)).any (·.1)=false:=by rfl):PE X (.Call (.Attribute o "append" apos) [e] [] cpos) (LE (pK to te)):=
 PE.imp (GW PySem.F.plainAttrs_list PySem.F.slot_list_append PySem.F.type_list_append xq ho (nB he qU hs) hbase hfew hline hs hplain) fun _ _ _ h=>LE.append h
end
end L3
namespace L3
open PySem L2
open PySem.Spec hiding items?
open PyProof.Rows hiding St
section
variable {X:Cx}
@[irreducible] noncomputable def dE:cX:=Ho
theorem eS:bR X (binaryOp .Add) (LR dE):=by unfold dE;exact L8
@[irreducible] noncomputable def mE:cX:=Gy
theorem oM:bR X (binaryOp .Sub) (LR mE):=by unfold mE;exact Nd
@[irreducible] noncomputable def dm:cX:=Gp
theorem eR:bR X (binaryOp .Mult) (LR dm):=by unfold dm;exact MP
@[irreducible] noncomputable def pY:cX:=E2
theorem Di:bR X (binaryOp .FloorDiv) (LR pY):=by unfold pY;exact LQ
@[irreducible] noncomputable def i5:cX:=GJ
theorem oE:bR X (binaryOp .Mod) (LR i5):=by unfold i5;exact M5
@[irreducible] noncomputable def qp:cX:=GZ
theorem vg:bR X (binaryOp .Pow) (LR qp):=by unfold qp;exact L9
@[irreducible] noncomputable def oJ:cX:=Ly
theorem uD:bR X (compareOp .Lt) (LR oJ):=by unfold oJ;exact N3
@[irreducible] noncomputable def zu:cX:=Kw
theorem FR:bR X (compareOp .LtE) (LR zu):=by unfold zu;exact Oz
@[irreducible] noncomputable def oF:cX:=KW
theorem uq:bR X (compareOp .Gt) (LR oF):=by unfold oF;exact NX
@[irreducible] noncomputable def Es:cX:=Jr
theorem Om:bR X (compareOp .GtE) (LR Es):=by unfold Es;exact OB
@[irreducible] noncomputable def kT:cX:=Ln
theorem rq:bR X (compareOp .NotEq) (LR kT):=by unfold kT;exact NZ
@[irreducible] noncomputable def xo:cX:=G9
theorem JX:bR X (compareOp .Is) (LR xo):=by unfold xo;exact Nq
@[irreducible] noncomputable def eL:cX:=Kx
theorem eC{k:Nat}(hr:cQ k X.A):bR X (compareOp .Eq) (LR eL):=by unfold eL;exact N9 hr
@[irreducible] noncomputable def fN:zU:=GV
theorem M3:Bz X (unaryOp .USub) (GH fN):=by unfold fN;exact M8
@[irreducible] noncomputable def bp:cX:=qw
theorem Ov{a b:Expr}{ta tb:DE}{pos:Pos}(ha:PE X a (LE ta))(hb:PE X b (LE tb))(hs:sV b:=by intro _ _;rfl):PE X (.Subscript a b pos) (LE (aw bp ta tb)):=by unfold bp;exact OE ha hb hs
@[irreducible] noncomputable def cS:fM:=yy
theorem cO:cp X (.builtin "len") (hZ cS):=by unfold cS;exact Nf
@[irreducible] noncomputable def wF:fM:=Cy
theorem Gs:cp X (.builtin "abs") (hZ wF):=by unfold wF;exact MH
@[irreducible] noncomputable def zY:fM:=Cv
theorem Ml(hc:X.calm=true):cp X (.builtin "max") (hZ zY):=by unfold zY;exact MT hc
@[irreducible] noncomputable def zp:fM:=B7
theorem Nl:cp X (.type "int") (hZ zp):=by unfold zp;exact Mh
@[irreducible] noncomputable def dB:fM:=s_
theorem dW:cp X (.type "tuple") (hZ dB):=by unfold dB;exact IU
@[irreducible] noncomputable def kE:fM:=vm
theorem nP:cp X (.type "list") (hZ kE):=by unfold kE;exact Jf
@[irreducible] noncomputable def mr:fM:=sF
theorem sj:cp X (.type "list") (hZ mr):=by unfold mr;exact IP
@[irreducible] noncomputable def oX:fM:=yr
theorem yE(hc:X.calm=true):cp X (.builtin "all") (hZ oX):=by unfold oX;exact LZ hc
@[irreducible] noncomputable def ix:fM:=vq
theorem oP:cp X (.builtin "isinstance") (hZ ix):=by unfold ix;exact Mo
@[irreducible] noncomputable def o9:D→af→(List D→(af→Prop)→af→Prop)→Prop:=wL
noncomputable def cZ(t:DE):DI:=fun σ st K=>t σ st fun d st1=>o9 d st1 K
theorem K9{l tg:Expr}{tl:DE}(hl:PE X l (LE tl)):PI X tg l (LI (cZ tl)):=by unfold cZ o9;exact Kb hl
@[irreducible] noncomputable def yq:List D→af→(List D→(af→Prop)→af→Prop)→Prop:=GC
@[irreducible] noncomputable def yA:List D→af→(List D→(af→Prop)→af→Prop)→Prop:=Hf
noncomputable def eA(t:DA):DI:=fun σ st K=>t σ st fun ds st1=>yq ds st1 K
noncomputable def sH(t:DA):DI:=fun σ st K=>t σ st fun ds st1=>yA ds st1 K
theorem En{tg iter:Expr}{t:DA}(h:PI X tg iter (Cr (LA t))):PI X tg iter (LI (eA t)):=by unfold eA yq;exact Dg h
theorem Eu{tg iter:Expr}{t:DA}(h:PI X tg iter (Cm (LA t))):PI X tg iter (LI (sH t)):=by unfold sH yA;exact E5 h
@[irreducible] noncomputable def uw:D→D→D→af→(af→Prop)→Prop:=yX
noncomputable def dh(to ti te:DE):DS:=fun D σ st=>te σ st fun d st1=>to σ st1 fun x st2=>ti σ st2 fun y st3=>uw x y d st3 fun st4=>D.nx σ st4
theorem zR{st:Stmt}{to ti te:DE}(h:PS X st (lB (LE te) (wU (LE to) (LE ti) sO))):PS X st (LS (dh to ti te)):=by unfold dh uw;exact Fm h
end
section
variable {st:af}{K:DK}{i j:Int}{b c:Bool}{xs ys:List D}{d e:D}{n:Nat}
theorem d8(k:K (.int (i+j)) st):dE (.int i) (.int j) st K:=by unfold dE;exact k
theorem BF(h:xs.length+ys.length≤sizeLine)(k:K (.tup (xs++ys)) st):dE (.tup xs) (.tup ys) st K:=by unfold dE;exact⟨h,k⟩
theorem my(k:K (.int (i-j)) st):mE (.int i) (.int j) st K:=by unfold mE;exact⟨trivial,k⟩
theorem fI(h:IntMulOk i j)(k:K (.int (i*j)) st):dm (.int i) (.int j) st K:=by unfold dm;exact⟨h,k⟩
theorem sN(h: -(2^63)≤i∧i<2^63∧xs.length*i.toNat≤sizeLine)(k:K (.lst (List.replicate i.toNat xs).flatten) st):dm (.lst xs) (.int i) st K:=by unfold dm;exact⟨h,k⟩
theorem su(h: -(2^63)≤i∧i<2^63∧xs.length*i.toNat≤sizeLine)(k:K (.tup (List.replicate i.toNat xs).flatten) st):dm (.tup xs) (.int i) st K:=by unfold dm;exact⟨h,k⟩
theorem Bj(h0:j≠0)(h:j.natAbs.log2<9000)(k:K (.int (i.fdiv j)) st):pY (.int i) (.int j) st K:=by unfold pY;exact⟨⟨h0,h⟩,k⟩
theorem mq(h0:j≠0)(k:K (.int (i.fmod j)) st):i5 (.int i) (.int j) st K:=by unfold i5;exact⟨h0,k⟩
theorem rg(h:E_ i j)(k:K (.int (i^j.toNat)) st):qp (.int i) (.int j) st K:=by unfold qp;exact⟨h,k⟩
theorem oz(k:K (.bl (decide (i<j))) st):oJ (.int i) (.int j) st K:=by unfold oJ;exact⟨trivial,k⟩
theorem CJ(k:K (.bl (decide (i≤j))) st):zu (.int i) (.int j) st K:=by unfold zu;exact⟨trivial,k⟩
theorem sL(k:K (.bl (decide (j<i))) st):oF (.int i) (.int j) st K:=by unfold oF;exact⟨trivial,k⟩
theorem MB(k:K (.bl (decide (j≤i))) st):Es (.int i) (.int j) st K:=by unfold Es;exact⟨trivial,k⟩
theorem Hn(k:K (.bl (!decide (i=j))) st):kT (.int i) (.int j) st K:=by unfold kT;exact k
theorem Lz(k:K (.bl (!decide (b=c))) st):kT (.bl b) (.bl c) st K:=by unfold kT;exact k
theorem D8(h:live st d=true)(k:K (.bl (Gu d)) st):xo d .aA st K:=by unfold xo;exact⟨h,k⟩
theorem KI(h:live st d=true)(k:K (.bl (y8 d b)) st):xo d (.bl b) st K:=by unfold xo;exact⟨h,k⟩
theorem sr(h1:pl 40 d=true)(h2:pl 40 e=true)(k:K (.bl (cy d e)) st):eL d e st K:=by unfold eL;exact⟨h1,h2,k⟩
theorem IY(a b:Int):(a==b)=decide (a=b):=by
 by_cases h:a=b
 · subst h;simp
 · simp[h]
theorem zH(k:K (.bl (decide (i=j))) st):eL (.int i) (.int j) st K:=by
 refine sr rfl rfl ?_
 have:cy (.int i) (.int j)=decide (i=j):=by unfold cy;exact IY i j
 rw[this];exact k
theorem eW(k:K (.int (-i)) st):fN (.int i) st K:=by unfold fN;exact k
theorem FT(h:items? st d=some xs)(a:dQ xs i=some e)(k:K e st):qw d (.int i) st K:=by
 cases d<;>unfold items? at h<;>first
  |(cases h;done)
  |(cases h;simp only[qw,a];exact k)
  |(simp only at h
    split at h
    · rename_i q
      cases h
      simp only[qw,q,a]
      exact k
    · cases h)
theorem aH(h:items? st d=some xs)(a:dQ xs i=some e)(k:K e st):bp d (.int i) st K:=by unfold bp;exact FT h a k
theorem cv(h:items? st d=some xs)(k:K (.int xs.length) st):cS [d] st K:=by
 unfold cS yy
 split
 · rename_i z;cases z;cases h
 · rename_i z;cases z;rw[h];exact k
 · rename_i z1 z2;exact absurd rfl (z2 d)
theorem HY(i:Int):(if i<0 then-i else i)=((i.natAbs:Nat):Int):=by split<;>omega
theorem EJ(k:K (.int ((i.natAbs:Nat):Int)) st):wF [.int i] st K:=by unfold wF;show K (.int (if i<0 then-i else i)) st;rw[HY];exact k
theorem Lb(k:K (.int (if j>i then j else i)) st):zY [.int i,.int j] st K:=by unfold zY;exact k
theorem Bx(k:K (.int (if b then 1 else 0)) st):zp [.bl b] st K:=by unfold zp;exact k
theorem dg(h:items? st d=some xs)(k:K (.tup xs) st):dB [d] st K:=by unfold dB s_;simp only[h];exact k
theorem kY(h:items? st d=some xs)(k:K (.lst xs) st):kE [d] st K:=by unfold kE vm;simp only[h];exact k
theorem p_(h:items? st d=some xs)(k:K (.ref st.length) (st++[.lst xs])):mr [d] st K:=by unfold mr sF;simp only[h];exact k
theorem vj{bs:List Bool}(h:jy xs=some bs)(k:K (.bl (bs.all id)) st):oX [.lst xs] st K:=by unfold oX yr;simp only[h];exact k
theorem kO{t c:String}(h:eP st d=some t)(hc:c∈lp)(k:K (.bl (rp t c)) st):ix [d,.ty c] st K:=by unfold ix vq;simp only[h];exact⟨hc,k⟩
theorem Iu{t:String}{cs:List D}{cl:List String}(h:eP st d=some t)(h2:ny cs=some cl)(hc:∀c∈cl,c∈lp)(k:K (.bl (cl.any (rp t))) st):ix [d,.tup cs] st K:=by unfold ix vq;simp only[h,h2];exact⟨hc,k⟩
theorem hW{K:List D→(af→Prop)→af→Prop}(h:items? st d=some xs)(k:∀ok:af→Prop,ok st→K xs ok st):o9 d st K:=by
 unfold o9 wL
 cases d<;>unfold items? at h<;>first
  |(cases h;done)
  |(cases h;exact k _ trivial)
  |(simp only at h
    split at h
    · rename_i q
      cases h
      simp only[q]
      exact k _ q
    · cases h)
theorem wI{K:List D→(af→Prop)→af→Prop}(k:K xs (fun _=>True) st):o9 (.lst xs) st K:=by unfold o9;exact k
theorem ip{K:List D→(af→Prop)→af→Prop}(k:K xs (fun _=>True) st):o9 (.tup xs) st K:=by unfold o9;exact k
theorem fB{K:List D→(af→Prop)→af→Prop}(h: -(2^62)≤j∧j<2^62)(k:K (dD 0 j.toNat) (fun _=>True) st):yq [.int j] st K:=by unfold yq;exact⟨h,k⟩
theorem Ia{K:List D→(af→Prop)→af→Prop}(h: -(2^62)≤i∧i<2^62∧ -(2^62)≤j∧j<2^62)(k:K (dD i (j-i).toNat) (fun _=>True) st):yA [.int i,.int j] st K:=by unfold yA;exact⟨h,k⟩
theorem eE{K:af→Prop}{m:Nat}(h:st[n]?=some (.lst xs))(e:jA xs.length i=some m)(k:K (st.set n (.lst (xs.set m d)))):uw (.ref n) (.int i) d st K:=by unfold uw yX;simp only[h,e];exact k
end
end L3
namespace L3
open PySem L2
open PySem.Spec hiding items?
open PyProof.Rows hiding St
noncomputable def DF(K:PySem.W.Frag):Bool:=K.all fun p=>p.2.cls != .type "list"
theorem t6{a:Addr}{o:Obj}:∀ {l:List (Addr×Obj)},l.lookup a=some o→(a,o)∈l
 | [],h=>by cases h
 |(b,u)::r,h=>by
  rw[List.lookup_cons]at h
  split at h
  · rename_i z
    cases h
    have:a=b:=by simpa using z
    subst this
    exact List.mem_cons_self
  · exact List.mem_cons_of_mem _ (t6 h)
theorem yf{K:PySem.W.Frag}(h:DF K=true){a:Addr}{o:Obj}(e:K.lookup a=some o):o.cls≠ .type "list":=by
 have:=List.all_eq_true.mp h (a,o) (t6 e)
 simpa using this
theorem xp{α:List (Option Addr)}{G:Hp}:∀ns:List Int,aJ α G (ns.map D.int) (ns.map V.int)
 | []=>by unfold aJ;rfl
 |n::ns=>by
  rw[List.map_cons,List.map_cons]
  unfold aJ
  exact⟨_,_,rfl,by unfold Rep;rfl,xp ns⟩
end L3
namespace L3
open PySem L2
open PySem.Spec hiding items?
open PyProof.Rows hiding St
noncomputable def notStar:Expr→Bool
 | .Starred .. =>false
 |_=>true
theorem bQ{e:Expr}{es:List Expr}{env:Env}(h:notStar e=true):starEach (e::es) env=(false,eval e env)::starEach es env:=by
 cases e<;>first|rfl|cases h
noncomputable def gK:List Expr→Bool
 | []=>true
 |e::es=>notStar e&&gK es
theorem k6{pos:Pos}{env:Env}:∀ {es:List Expr},gK es=true→(backTo pos (starEach es env)).any (·.1)=false
 | [],_=>rfl
 |e::es,h=>by
  unfold gK at h
  rw[Bool.and_eq_true]at h
  rw[bQ h.1]
  have ih:=k6 (pos:=pos) (env:=env) h.2
  unfold backTo at ih⊢
  rw[List.map_cons,List.any_cons,ih]
  rfl
noncomputable def jX:Expr→Bool
 | .Slice .. =>false
 |_=>true
noncomputable def sf:Expr→Bool
 | .Name .. =>true
 | .Call .. =>true
 | .Subscript .. =>true
 | .Attribute .. =>true
 |_=>false
noncomputable def lu:Expr→Bool
 | .ListComp .. =>false
 | .SetComp .. =>false
 | .DictComp .. =>false
 |_=>true
section
variable {X:Cx}
theorem E6{b:Expr}(h:jX b=true):sV b:=by
 intro o i
 cases b<;>first|rfl|cases h
theorem Cw{e:Expr}(h:sf e=true):∀whole,isTrue e X.env whole=(do let v ←whole;standAt e.pos;holding [v] (truthy v)):=by
 intro whole
 cases e<;>first|(cases h;done)|rfl
theorem vV{e:Expr}{tg:Option Expr}{n:Nat}{env:Env}(h:lu e=true):swapsWith e tg n env=pure false:=by
 cases e<;>first|(cases h;done)|rfl
theorem Fg{e:Expr}{es:List Expr}{te:DE}{tr:DA}(ha:PE X e (LE te))(hr:PA X es (LA tr))(hs:notStar e=true:=by rfl):PA X (e::es) (LA (ae te tr)):=nB ha hr (bQ hs)
theorem Mf{e:Expr}{es:List Expr}{pos p:Pos}{x:Str}{id:String}{r:fM}{t:DA}(hc:cp X (.builtin id) (hZ r))(ha:PA X (e::es) (LA t))(hm:X.mg x=none)(hv:bootBuiltins x=some (.builtin id))(hn:x≠"__name__")(hdb:(x==("__debug__":Str))=false)(hg:Gl X x:=by rfl)(hs:notStar e=true:=by rfl)(hs2:gK es=true:=by rfl):
 PE X (.Call (.Name x p) (e::es) [] pos) (LE (bF r t)):=N2 hc ha hm hv hg hn hdb (bQ hs) (k6 hs2)
theorem Na{e:Expr}{es:List Expr}{pos p:Pos}{x:Str}{T:String}{r:fM}{t:DA}(hc:cp X (.type T) (hZ r))(ha:PA X (e::es) (LA t))(hm:X.mg x=none)(hv:bootBuiltins x=some (.type T))(hn:x≠"__name__")(hdb:(x==("__debug__":Str))=false)(hg:Gl X x:=by rfl)(hs:notStar e=true:=by rfl)(hs2:gK es=true:=by rfl):
 PE X (.Call (.Name x p) (e::es) [] pos) (LE (bF r t)):=Oq hc ha hm hv hg hn hdb (bQ hs) (k6 hs2)
theorem MG{e:Expr}{es:List Expr}{pos p:Pos}{x qual:Str}{st:Stmt}{ps:List Str}{f:Addr}{fd:FuncData}{k:Nat}{S:cC}{t:DA}(A:bL X.K X.mg x qual st ps f fd)(F:bD X.prog X.w X.K X.mg X.base cD k f fd ps (cG S))(hr:cQ k X.A)
 (ha:PA X (e::es) (LA t)) (hdb:(x==("__debug__":Str))=false) (hg:Gl X x:=by rfl) (hs:notStar e=true:=by rfl) (hs2:gK es=true:=by rfl):
 PE X (.Call (.Name x p) (e::es) [] pos) (LE (aG S t)):=Oo A F hr ha hg hdb (bQ hs) (k6 hs2)
theorem Mj{a b:Expr}{ta tb:DE}{pos:Pos}(ha:PE X a (LE ta))(hb:PE X b (LE tb))(hs:jX b=true:=by rfl):PE X (.Subscript a b pos) (LE (aw bp ta tb)):=Ov ha hb (E6 hs)
theorem Jb{e:Expr}{te:DE}(he:PE X e (LE te))(h:sf e=true:=by rfl):PT X e (LT (aM te)):=KU he (Cw h)
theorem FK{e:Expr}{te:DE}{pos:Pos}(he:PE X e (LE te))(h:lu e=true:=by rfl):PS X (.Expr e pos) (LS (jj te)):=HZ he (vV h)
theorem II{i:Nat}{x:Str}{e:Expr}{te:TE}{pos pos':Pos}(hN:X.N.Nodup)(hi:X.N[i]?=some x)(hx:Loc X.env.scope x)(he:PE X e te)(hf:X.fn x=true∨X.env.scope.names.lookup x=some .local:=by first|exact .inl rfl|exact .inr rfl)(h:lu e=true:=by rfl):
 PS X (.Assign [.Name x pos'] e pos) (lB te (fu i)):=Lj hN hi hx he (vV h) hf
theorem IG{i:Nat}{x:Str}{pos:Pos}(hd:(x==("__debug__":Str))=false)(hcd:(x==("__classdict__":Str))=false)(hv:yI X.env.scope x)(hN:X.N[i]?=some x:=by rfl):PE X (.Name x pos) (LE (ab i)):=L_ (LF hN hv hd hcd)
theorem J8{o i e:Expr}{to ti te:TE}{pos pos':Pos}(he:PE X e te)(ho:PE X o to)(hi:PE X i ti)(h1:lu e=true:=by rfl)(h2:jX i=true:=by rfl):PS X (.Assign [.Subscript o i pos'] e pos) (lB te (wU to ti sO)):=
 rl he (uU ho hi set_list (by intro v;cases i<;>first|rfl|cases h2)) (by unfold swapsWithSole;exact vV h1) (by cases e<;>rfl) rfl
end
end L3
namespace L3
open PySem L2
open PySem.Spec hiding items?
open PyProof.Rows hiding St
@[irreducible] noncomputable def JE(X:Cx)(e:Expr)(t:DE):Prop:=PE X e (LE t)
@[irreducible] noncomputable def JT(X:Cx)(e:Expr)(t:DT):Prop:=PT X e (LT t)
@[irreducible] noncomputable def JW(X:Cx)(e:Expr)(t:DT):Prop:=PW X e (LT t)
@[irreducible] noncomputable def JA(X:Cx)(es:List Expr)(t:DA):Prop:=PA X es (LA t)
@[irreducible] noncomputable def JS(X:Cx)(s:Stmt)(t:DS):Prop:=PS X s (LS t)
@[irreducible] noncomputable def JB(X:Cx)(s:List Stmt)(t:DS):Prop:=gT X s (LS t)
@[irreducible] noncomputable def JG(X:Cx)(e:Expr)(t:e7):Prop:=PG X e (LG t)
@[irreducible] noncomputable def JI(X:Cx)(tg e:Expr)(t:DI):Prop:=PI X tg e (LI t)
@[irreducible] noncomputable def JC(X:Cx)(es:List Expr)(t:DT):Prop:=se X es (LT t)
section
variable {X:Cx}{a b c e o i:Expr}{es:List Expr}{ta tb tc te to ti:DE}{t u:DT}{ar:DA}{pos p pos':Pos}{s:Stmt}{ss:List Stmt}{T U:DS}
theorem DG{n:Nat}{x:Str}(hd:(x==("__debug__":Str))=false)(hcd:(x==("__classdict__":Str))=false)(hv:yI X.env.scope x)(hN:X.N[n]?=some x:=by rfl):JE X (.Name x pos) (ab n):=by unfold JE;exact IG hd hcd hv hN
theorem qc{x:Str}{T:String}(hm:X.mg x=none)(hv:bootBuiltins x=some (.type T))(hn:x≠"__name__")(hdb:(x==("__debug__":Str))=false)(hg:Gl X x):JE X (.Name x pos) (dC (.ty T)):=by unfold JE;exact OH hm hv hg hn hdb
theorem av{k:Int}{j:Nat}:JE X (.Constant (.int k) j pos) (dC (.int k)):=by unfold JE;exact Nt
theorem eD{k:Bool}{j:Nat}:JE X (.Constant (.bool k) j pos) (dC (.bl k)):=by unfold JE;exact Ob
theorem GR{k:Str}{j:Nat}:JE X (.Constant (.str k) j pos) (dC (.str k)):=by unfold JE;exact MS
theorem pN{j:Nat}:JE X (.Constant .none j pos) (dC .aA):=by unfold JE;exact MW
theorem bG{op:Operator}{r:cX}(ho:bR X (binaryOp op) (LR r))(ha:JE X a ta)(hb:JE X b tb):JE X (.BinOp a op b pos) (aw r ta tb):=by unfold JE at*;exact Oe ho ha hb
theorem fX(ha:JE X a ta):JE X (.UnaryOp .USub a pos) (j9 fN ta):=by unfold JE at*;exact OG M3 ha
theorem G8(ha:JE X a ta):JE X (.UnaryOp .Not a pos) (sT (aM ta)):=by unfold JE at*;exact Ms ha
theorem oV{op:BoolOp}(ha:JE X a ta):JE X (.BoolOp op [a] pos) ta:=by unfold JE at*;exact Mm ha
theorem tm(ha:JE X a ta)(hb:JE X (.BoolOp .And (b::es) pos) tb):JE X (.BoolOp .And (a::b::es) pos) (lT ta tb):=by unfold JE at*;exact MI ha hb
theorem Lv(ha:JE X a ta)(hb:JE X (.BoolOp .Or (b::es) pos) tb):JE X (.BoolOp .Or (a::b::es) pos) (CA ta tb):=by unfold JE at*;exact Oy ha hb
theorem oN{op:CmpOp}{r:cX}(ho:bR X (compareOp op) (LR r))(hm:behindInMarks op b=false)(ha:JE X a ta)(hb:JE X b tb):JE X (.Compare a [op] [b] pos) (aw r ta tb):=by unfold JE at*;exact Nh ho ha hb hm
theorem IE{op op':CmpOp}{r r':cX}(ho:bR X (compareOp op) (LR r))(ho':bR X (compareOp op') (LR r'))(ha:JE X a ta)(hb:JE X b tb)(hc:JE X c tc)(hm:lastMarks [op,op'] [b,c]=false:=by with_unfolding_all rfl):JE X (.Compare a [op,op'] [b,c] pos) (u6 r r' ta tb tc):=by unfold JE at*;exact Jc ho ho' ha hb hc hm
theorem ML(hc:JT X c t)(ha:JE X a ta)(hb:JE X b tb):JE X (.IfExp c a b pos) (K6 t ta tb):=by unfold JE at*;unfold JT at hc;exact Nj hc ha hb
theorem gp{n:Nat}(h:JA X es ar):JE X (.Tuple es n pos) (iy ar):=by unfold JE;unfold JA at h;exact Nu h
theorem iE(h:JA X es ar):JE X (.List es pos) (jv ar):=by unfold JE;unfold JA at h;exact Mc h
theorem Gx(h:JA X es ar):JE X (.List es pos) (CM ar):=by unfold JE;unfold JA at h;exact Nn h
theorem ai:JA X [] aj:=by unfold JA;exact qU
theorem aa(ha:JE X e te)(hr:JA X es ar)(hs:notStar e=true:=by rfl):JA X (e::es) (ae te ar):=by unfold JA at*;unfold JE at ha;exact Fg ha hr hs
theorem aX(ha:JE X a ta)(hb:JE X b tb)(hs:jX b=true:=by rfl):JE X (.Subscript a b pos) (aw bp ta tb):=by unfold JE at*;exact Mj ha hb hs
theorem cB{x:Str}{id:String}{r:fM}(hc:cp X (.builtin id) (hZ r))(ha:JA X (e::es) ar)(hm:X.mg x=none)(hv:bootBuiltins x=some (.builtin id))(hn:x≠"__name__")(hdb:(x==("__debug__":Str))=false)(hg:Gl X x)(hs:notStar e=true:=by rfl)(hs2:gK es=true:=by rfl):JE X (.Call (.Name x p) (e::es) [] pos) (bF r ar):=by
 unfold JE;unfold JA at ha;exact Mf hc ha hm hv hn hdb hg hs hs2
theorem eh{x:Str}{T:String}{r:fM}(hc:cp X (.type T) (hZ r))(ha:JA X (e::es) ar)(hm:X.mg x=none)(hv:bootBuiltins x=some (.type T))(hn:x≠"__name__")(hdb:(x==("__debug__":Str))=false)(hg:Gl X x)(hs:notStar e=true:=by rfl)(hs2:gK es=true:=by rfl):JE X (.Call (.Name x p) (e::es) [] pos) (bF r ar):=by
 unfold JE;unfold JA at ha;exact Na hc ha hm hv hn hdb hg hs hs2
theorem aV{x qual:Str}{st:Stmt}{ps:List Str}{f:Addr}{fd:FuncData}{k:Nat}{S:cC}(A:bL X.K X.mg x qual st ps f fd)(F:bD X.prog X.w X.K X.mg X.base cD k f fd ps (cG S))(hr:cQ k X.A)(ha:JA X (e::es) ar)(hdb:(x==("__debug__":Str))=false)(hg:Gl X x)(hs:notStar e=true:=by rfl)(hs2:gK es=true:=by rfl):
 JE X (.Call (.Name x p) (e::es) [] pos) (aG S ar):=by unfold JE;unfold JA at ha;exact MG A F hr ha hdb hg hs hs2
theorem F7{apos cpos:Pos}(ho:JE X o to)(he:JE X e te)(hbase:attributeBase o "append" X.env (eval o X.env)=eval o X.env:=by rfl)(hline:(apos.endLine==cpos.line)=true:=by rfl)(hs:notStar e=true:=by rfl):JE X (.Call (.Attribute o "append" apos) [e] [] cpos) (pK to te):=by
 unfold JE at*
 refine Ga ho he hbase ?_ hline (bQ hs) rfl
 rw[bQ hs]
 rfl
theorem bo{op:CmpOp}{r:cX}(ho:bR X (compareOp op) (LR r))(hm:behindInMarks op b=false)(ha:JE X a ta)(hb:JE X b tb):JT X (.Compare a [op] [b] pos) (aM (aw r ta tb)):=by unfold JE at*;unfold JT;exact LL ho ha hb hm
theorem eg(ha:JT X a t):JT X (.UnaryOp .Not a pos) (d7 t):=by unfold JT at*;exact Lg ha
theorem dP(he:JE X e te)(h:sf e=true:=by rfl):JT X e (aM te):=by unfold JT;unfold JE at he;exact Jb he h
theorem pq(ha:JT X a t):JW X (.BoolOp .And [a] pos) t:=by unfold JW;unfold JT at ha;exact Iq ha
theorem gG(ha:JT X a t):JW X (.BoolOp .Or [a] pos) t:=by unfold JW;unfold JT at ha;exact Lu ha
theorem qX(ha:JT X a t)(hb:JW X (.BoolOp .And (b::es) pos) u):JW X (.BoolOp .And (a::b::es) pos) (oG t u):=by unfold JW at*;unfold JT at ha;exact Jg ha hb
theorem gn(ha:JT X a t)(hb:JW X (.BoolOp .Or (b::es) pos) u):JW X (.BoolOp .Or (a::b::es) pos) (gD t u):=by unfold JW at*;unfold JT at ha;exact M0 ha hb
theorem fK(h:JW X e t):JT X e t:=by unfold JT;unfold JW at h;exact PW.pt h
theorem dY{l tg:Expr}(hl:JE X l ta):JI X tg l (cZ ta):=by unfold JI;unfold JE at hl;exact K9 hl
theorem eF{tg:Expr}(hg:Gl X "range")(hm:X.mg "range"=none)(ha:JA X [a] ar)(hs:notStar a=true:=by rfl):JI X tg (.Call (.Name "range" p) [a] [] pos) (eA ar):=by unfold JI;unfold JA at ha;exact En (EM hg hm ha (bQ hs))
theorem Gk{tg:Expr}(hg:Gl X "range")(hm:X.mg "range"=none)(ha:JA X [a,b] ar)(hs:notStar a=true:=by rfl)(hs2:notStar b=true:=by rfl):JI X tg (.Call (.Name "range" p) [a,b] [] pos) (sH ar):=by unfold JI;unfold JA at ha;exact Eu (DJ hg hm ha (by rw[bQ hs,bQ hs2];rfl) (bQ hs2))
theorem cY{k:Nat}{x:Str}(hN:X.N.Nodup)(hx:Loc X.env.scope x)(hf:X.fn x=true∨X.env.scope.names.lookup x=some .local)(hi:X.N[k]?=some x:=by rfl):JG X (.Name x pos) (bB k):=by unfold JG;exact HJ (jf hN hi hx hf)
theorem mT{k j n:Nat}{x y:Str}{px py:Pos}(hc:X.calm=true)(hN:X.N.Nodup)(hx:Loc X.env.scope x)(hf:X.fn x=true∨X.env.scope.names.lookup x=some .local)(hy:Loc X.env.scope y)(hg:X.fn y=true∨X.env.scope.names.lookup y=some .local)(hi:X.N[k]?=some x:=by rfl)(hj:X.N[j]?=some y:=by rfl):
 JG X (.Tuple [.Name x px,.Name y py] n pos) (iJ k j):=by unfold JG;exact Js (vw hc (gf (jf hN hi hx hf) (gf (jf hN hj hy hg) si)))
theorem ck:JC X [] bW:=by unfold JC;exact FH
theorem DH(h:JT X c t):JC X [c] t:=by unfold JC;unfold JT at h;exact J3 h
theorem dF{scope:Scope}{Nc:List Str}{elt tg iter:Expr}{ifs:List Expr}{src:DI}{fr:List (Option Nat)}{dtg:e7}(S:bj X scope Nc fr)(hi:JI X tg iter src)(hg:∀C s H ex,JG (fb X scope Nc C s H ex) tg dtg)(ht:∀C s H ex,JC (fb X scope Nc C s H ex) ifs t)(he:∀C s H ex,JE (fb X scope Nc C s H ex) elt te)(fit:sd fr dtg)
 (hx:X.xe=fun _ _=>False:=by rfl) (hc:X.calm=true:=by rfl) (hs:∀x,foldedSetIterable iter X.env x=pure x:=by intro _;rfl):JE X (.ListComp elt [⟨tg,iter,ifs,0⟩] scope pos) (cM src fr dtg t te):=by
 unfold JE JI JG JC at*;exact Jm S hi hg ht he fit hx hc hs
theorem vY{scope:Scope}{Nc:List Str}{elt tg iter:Expr}{ifs:List Expr}{src:DI}{fr:List (Option Nat)}{dtg:e7}(S:bj X scope Nc fr)(hi:JI X tg iter src)(hg:∀C s H ex,JG (fb X scope Nc C s H ex) tg dtg)(ht:∀C s H ex,JC (fb X scope Nc C s H ex) ifs t)(he:∀C s H ex,JE (fb X scope Nc C s H ex) elt te)(fit:sd fr dtg)
 (hx:X.xe=fun _ _=>False:=by rfl) (hc:X.calm=true:=by rfl) (hs:∀x,foldedSetIterable iter X.env x=pure x:=by intro _;rfl):JE X (.ListComp elt [⟨tg,iter,ifs,0⟩] scope pos) (kR src fr dtg t te):=by
 unfold JE JI JG JC at*;exact Hy S hi hg ht he fit hx hc hs
theorem bJ:JB X [] bY:=by unfold JB;exact HN
theorem ax(h:JS X s T):JB X [s] T:=by unfold JB;unfold JS at h;exact IV h
theorem aq(h:JS X s T)(h2:JB X ss U):JB X (s::ss) (aE T U):=by unfold JB at*;unfold JS at h;exact F9 h h2
theorem aK(h:JE X e te):JS X (.Return (some e) pos) (ba te):=by unfold JS;unfold JE at h;exact Jt h
theorem h9(h:JE X e te)(hc:lu e=true:=by rfl):JS X (.Expr e pos) (jj te):=by unfold JS;unfold JE at h;exact FK h hc
theorem bX{x y:List Stmt}(hc:JT X c t)(ha:JB X x T)(hb:JB X y U):JS X (.If c x y pos) (cx t T U):=by unfold JS;unfold JB at*;unfold JT at hc;exact MA hc ha hb
theorem Gj{x:List Stmt}(hc:JT X c t)(hb:JB X x T)(hx:X.xe=fun _ _=>False:=by rfl):JS X (.While c x [] pos) (zW t T):=by unfold JS;unfold JB at hb;unfold JT at hc;exact Fs (Gm (by rw[hx];exact PassesOwn.never) hc hb)
theorem gS{tg iter:Expr}{x:List Stmt}{src:DI}{dtg:e7}(hi:JI X tg iter src)(hg:JG X tg dtg)(hb:JB X x T)(hx:X.xe=fun _ _=>False:=by rfl)(hc:X.calm=true:=by rfl)(hs:∀x,foldedSetIterable iter X.env x=pure x:=by intro _;rfl):JS X (.For tg iter x [] pos) (i9 src dtg T):=by
 unfold JS;unfold JI at hi;unfold JG at hg;unfold JB at hb;exact JN (LP (by rw[hx];exact PassesOwn.never) hc hi hg hb hs)
theorem bh{k:Nat}{x:Str}(hN:X.N.Nodup)(hx:Loc X.env.scope x)(he:JE X e te)(hf:X.fn x=true∨X.env.scope.names.lookup x=some .local:=by first|exact .inl rfl|exact .inr rfl)(h:lu e=true:=by rfl)(hi:X.N[k]?=some x:=by rfl):JS X (.Assign [.Name x pos'] e pos) (bz k te):=by
 unfold JS;unfold JE at he;exact LM (II hN hi hx he hf h)
theorem kZ{scope:Scope}{Nc:List Str}{elt tg iter:Expr}{ifs:List Expr}{src:DI}{fr:List (Option Nat)}{dtg:e7}{k:Nat}{x:Str}(hN:X.N.Nodup)(hl:Loc X.env.scope x)(S:bj X scope Nc fr)(hi:JI X tg iter src)(hg:∀C s H ex,JG (fb X scope Nc C s H ex) tg dtg)(ht:∀C s H ex,JC (fb X scope Nc C s H ex) ifs t)(he:∀C s H ex,JE (fb X scope Nc C s H ex) elt te)(fit:sd fr dtg)
 (hf:X.fn x=true∨X.env.scope.names.lookup x=some .local:=by first|exact .inl rfl|exact .inr rfl) (hsw:swapsWith (.ListComp elt [⟨tg,iter,ifs,0⟩] scope p) (some (.Name x pos')) pos.line X.env=pure true:=by rfl) (hni:X.N[k]?=some x:=by rfl) (hx:X.xe=fun _ _=>False:=by rfl) (hc:X.calm=true:=by rfl) (hs:∀x,foldedSetIterable iter X.env x=pure x:=by intro _;rfl):
 JS X (.Assign [.Name x pos'] (.ListComp elt [⟨tg,iter,ifs,0⟩] scope p) pos) (bz k (cM src fr dtg t te)):=by
 unfold JS;unfold JE JI JG JC at*;exact Hu fit (BK hx hc S hi hg ht he hN hni hl hf hsw hs)
theorem zf{scope:Scope}{Nc:List Str}{elt tg iter:Expr}{ifs:List Expr}{src:DI}{fr:List (Option Nat)}{dtg:e7}{k:Nat}{x:Str}(hN:X.N.Nodup)(hl:Loc X.env.scope x)(S:bj X scope Nc fr)(hi:JI X tg iter src)(hg:∀C s H ex,JG (fb X scope Nc C s H ex) tg dtg)(ht:∀C s H ex,JC (fb X scope Nc C s H ex) ifs t)(he:∀C s H ex,JE (fb X scope Nc C s H ex) elt te)(fit:sd fr dtg)
 (hf:X.fn x=true∨X.env.scope.names.lookup x=some .local:=by first|exact .inl rfl|exact .inr rfl) (hsw:swapsWith (.ListComp elt [⟨tg,iter,ifs,0⟩] scope p) (some (.Name x pos')) pos.line X.env=pure true:=by rfl) (hni:X.N[k]?=some x:=by rfl) (hx:X.xe=fun _ _=>False:=by rfl) (hc:X.calm=true:=by rfl) (hs:∀x,foldedSetIterable iter X.env x=pure x:=by intro _;rfl):
 JS X (.Assign [.Name x pos'] (.ListComp elt [⟨tg,iter,ifs,0⟩] scope p) pos) (bz k (kR src fr dtg t te)):=by
 unfold JS;unfold JE JI JG JC at*;exact FD fit (BK hx hc S hi hg ht he hN hni hl hf hsw hs)
theorem c9(he:JE X e te)(ho:JE X o to)(hi:JE X i ti)(h1:lu e=true:=by rfl)(h2:jX i=true:=by rfl):JS X (.Assign [.Subscript o i pos'] e pos) (dh to ti te):=by unfold JS;unfold JE at*;exact zR (J8 he ho hi h1 h2)
theorem Ki{k:Nat}{x:Str}{op:Operator}{f:Int→Int→Int}(hN:X.N.Nodup)(hx:Loc X.env.scope x)(he:JE X e te)(ho:Jw X op (JV f))(hf:X.fn x=true∨X.env.scope.names.lookup x=some .local:=by first|exact .inl rfl|exact .inr rfl)(hi:X.N[k]?=some x:=by rfl):JS X (.AugAssign (.Name x pos') op e pos) (CB k (zJ f) te):=by
 unfold JS;unfold JE at he;exact Jk (KP hN hi hx he ho hf)
theorem LJ{k j kt k2:Nat}{x y:Str}{px py pt pt2:Pos}(hN:X.N.Nodup)(hij:k≠j)(hx:X.env.scope.names.lookup x=some .local)(hy:X.env.scope.names.lookup y=some .local)(ha:JA X [a,b] ar)
 (hw:swappedStores [.Tuple [.Name x px,.Name y py] kt pt] (.Tuple [a,b] k2 pt2) X.env=pure (some [x,y]):=by rfl) (hc:X.calm=true:=by rfl) (hi:X.N[k]?=some x:=by rfl) (hj:X.N[j]?=some y:=by rfl) (hs:swapsWithSole [.Tuple [.Name x px,.Name y py] kt pt] (.Tuple [a,b] k2 pt2) pos.line X.env=pure false:=by rfl):
 JS X (.Assign [.Tuple [.Name x px,.Name y py] kt pt] (.Tuple [a,b] k2 pt2) pos) (Fc k j ar):=by unfold JS;unfold JA at ha;exact Jq (Li hc hN hi hj hij hx hy ha hw hs)
theorem D5{tg:Expr}{dtg:e7}(he:JE X e te)(hg:JG X tg dtg)(hs:swapsWithSole [tg] e pos.line X.env=pure false:=by rfl)(hw:swappedStores [tg] e X.env=pure none:=by rfl)(h1:(assignEach [tg] X.env).map (·.2)=[assign tg X.env]:=by rfl):JS X (.Assign [tg] e pos) (C1 dtg te):=by
 unfold JS;unfold JE at he;unfold JG at hg;exact Jh (rl he hg hs hw h1)
end
theorem bP{P:Program}{w:World}{K:PySem.W.Frag}{mg:Str→Option Value}{base:Heap}{x qual:Str}{st:Stmt}{f:Addr}{fd:FuncData}{N ps:List Str}{k:Nat}{sp:cC}{t:DS}(F:nO K x qual st f fd)(S:aT N ps (ag st))
 (hbody:∀(cdv:Value) (A:Around) (outer:List Env) (s:Shared) (H:Hp) (E:XK),cQ k (A.deeper (envOfC qual (ag st) s.heap.objs.size f cdv))→JB (qu cD P w K mg base N qual (ag st) f cdv A outer s H E).vD (gQ st) t)
 (hsp:∀ds st K,sp ds st K→ds.length=ps.length∧t {nx:=fun _ st'=>K .aA st',rt:=K} (a6 N ds) st):bD P w K mg base cD (k+1) f fd ps (cG sp):=by
 unfold JB at hbody;exact Mv F S hbody hsp
end L3
namespace HT
open PySem PyProof.Rows
section
variable {prog:Program}{w:World}{A:Around}{E:Value→Shared→Prop}{s:Shared}
theorem qR{t sl:Addr}{items:Array Value}{vl vu:Value}{lo hi:Option Int}{Q:Value→Shared→Prop}(ht:IsTup s.heap t items)(hs:s.heap.IsSliceOf sl vl vu .none)(pl:IsPart vl lo)(pu:IsPart vu hi)
 (hw:cg items.size 0 lo=0∧cg items.size items.size hi=items.size) (h:Q (.ref t) s):wpAny (model prog w) A (getItem (.ref t) (.ref sl)) Q E s:=by
 obtain⟨os,hos,hcs,hds⟩:=id hs
 have hTs:s.TypeIs (.ref sl) "slice":=⟨os,hos,hcs⟩
 unfold getItem
 try with_reducible refine wpAny_holding ?_
 first|refine wpAny_bind (wpAny_pure ?_)|skip
 refine wpAny_bind (wpAny_sequenceKey ht.typeIs (by decide) ?_)
 refine wpAny_bind (wpAny_callSpecial?_slot (name:=Str.ofString "__getitem__") ht.typeIs PyProof.Rows.slot_tuple_getitem
  (wpAny_call_entry PyProof.Rows.slot_tuple_getitem ht.typeIs entry_tuple_getitem ?_ (args_tuple_getitem _ _)))
 show wpAny _ _ (Builtin.Tuple.tupleItemsOf (.ref t) >>= _) _ _ s
 refine wpAny_bind (tupleItemsOf_ ht ?_)
 refine wpAny_bind (wpAny_typeOf hTs ?_)
 rw[if_pos (by decide)]
 refine wpAny_bind (nK hs pl pu ?_)
 have hyes:(((cg items.size 0 lo:Nat):Int)==0&&(1:Int)==1&&(cg items.size items.size hi-cg items.size 0 lo)==items.size)=true:=by
  rw[hw.1,hw.2]
  simp
 show wpAny _ _ (if(((cg items.size 0 lo:Nat):Int)==0&&(1:Int)==1&&(cg items.size items.size hi-cg items.size 0 lo)==items.size)=true then _ else _) _ _ s
 rw[if_pos hyes]
 refine wpAny_bind ?_
 unfold Builtin.Tuple.tupleIsExact
 exact wpAny_bind (wpAny_typeOf ht.typeIs (wpAny_pure (wpAny_bind (wpAny_rule (wpAny_pure ⟨_,rfl,wpAny_pure h⟩)))))
end
end HT
namespace L3
open PySem L2
open PySem.Spec hiding items?
open PyProof.Rows hiding St
noncomputable abbrev DO:=bM→af→(Option Int→af→Prop)→Prop
noncomputable def pJ:DO:=fun _ st K=>K none st
noncomputable def vM(t:DE):DO:=fun σ st K=>t σ st fun d st1=>match d with| .int i=>K (some i) st1|_=>False
noncomputable def cutD(xs:List D)(lo hi:Option Int):List D:=(xs.drop (HT.cg xs.length 0 lo)).take (HT.cg xs.length xs.length hi-HT.cg xs.length 0 lo)
noncomputable def zF(d:D)(lo hi:Option Int)(st:af)(K:DK):Prop:=match d with
 | .lst xs=>K (.lst (cutD xs lo hi)) st
 | .tup xs=>K (.tup (cutD xs lo hi)) st
 | .ref n=>(match st[n]? with|some (.lst xs)=>K (.lst (cutD xs lo hi)) st|_=>False)
 |_=>False
@[irreducible] noncomputable def jG:D→Option Int→Option Int→af→DK→Prop:=zF
noncomputable def r9(t:DE)(lo hi:DO):DE:=fun σ st K=>t σ st fun d st1=>lo σ st1 fun l st2=>hi σ st2 fun u st3=>jG d l u st3 K
theorem ux{α:List (Option Addr)}{G:Hp}{xs:List D}{vs:List V}{lo hi:Option Int}(r:aJ α G xs vs):aJ α G (cutD xs lo hi) (pW vs lo hi):=by
 unfold cutD pW
 rw[←r.length]
 exact bg.mpr (tR _ (tQ _ (bg.mp r)))
noncomputable def OU(α:List (Option Addr))(G F:Hp)(K:Option Int→af→Prop)(Q:Option Int→Hp→Prop):Prop:=∀o st',K o st'→∀α' G' H',Step α G α' G'→cm G' F H'→aY α' st' G'→Q o H'
inductive Nx(t:DO)(σ:L2.St)(H:Hp)(Q:Option Int→Hp→Prop):Prop
 |mk (α:List (Option Addr)) (σd:bM) (st:af) (K:Option Int→af→Prop) (G F:Hp) (P:cm G F H) (R:dO α G σd σ) (S:aY α st G) (h:t σd st K) (k:OU α G F K Q):Nx t σ H Q
noncomputable def LO(t:DO):TO:=Nx t
section
variable {X:Cx}
theorem PO.imp{e:Option Expr}{t t':TO}(h:PO X e t)(f:∀σ H Q,t' σ H Q→t σ H Q):PO X e t':=fun pins s σ H Q I q=>h pins s σ H Q I (f σ H Q q)
theorem HA:PO X none (LO pJ):=PO.imp HH fun σ H Q ⟨α,σd,st,K,G,F,P,R,S,t,k⟩=>k none st t α G H Step.refl P S
theorem Hv{e:Expr}{te:DE}(h:PE X e (LE te)):PO X (some e) (LO (vM te)):=PO.imp (IK h) fun σ H Q ⟨α,σd,st,K,G,F,P,R,S,t,k⟩=>by
 refine⟨α,σd,st,_,G,F,P,R,S,t,fun d st1 q α1 G1 H1 v s1 P1 S1 r1=>?_⟩
 cases d<;>try exact q.elim
 unfold Rep at r1
 exact⟨_,r1,k _ st1 q α1 G1 H1 s1 P1 S1⟩
noncomputable def ON(x:V)(lo hi:Option Int)(H:Hp)(Q:VK):Prop:=∃α d st K G F,cm G F H∧Rep α G d x∧aY α st G∧jG d lo hi st K∧LK α G F K Q
theorem Ik:EO X (fun x lo hi H Q=>∃a xs,x= .ref a∧H a=some (.tup xs)∧((HT.cg xs.length 0 lo=0∧HT.cg xs.length xs.length hi=xs.length)→Q (.ref a) H)∧(¬(HT.cg xs.length 0 lo=0∧HT.cg xs.length xs.length hi=xs.length)→∀p,H p=none→Q (.ref p) (upd H p (.tup (pW xs lo hi))))):=by
 intro pins s σ H x v vl vu lo hi sl Q I rx hs pl pu h
 obtain⟨a,xs,rfl,hx,q1,q2⟩:=h
 by_cases hw:HT.cg xs.length 0 lo=0∧HT.cg xs.length xs.length hi=xs.length
 · cases rx
   obtain⟨au,r,ht,hz⟩:=I.tuple (iX.of hx)
   have hlen:au.toArray.size=xs.length:=by rw[List.size_toArray];exact r.length.symm
   exact⟨"tuple",_,PyProof.Rows.slot_tuple_getitem.lookup,ht.typeIs,HT.qR ht hs pl pu (by rw[hlen];exact hw) ⟨.ref a,H,I,rfl,q1 hw⟩⟩
 · exact LU pins s σ H _ v vl vu lo hi sl Q I rx hs pl pu ⟨a,xs,rfl,.of hx,hw,q2 hw⟩
theorem DW{xs:List D}{lo hi:Option Int}(hw:HT.cg xs.length 0 lo=0∧HT.cg xs.length xs.length hi=xs.length):cutD xs lo hi=xs:=by
 unfold cutD
 rw[hw.1,hw.2]
 simp
theorem J4:EO X ON:=by
 intro pins s σ H x v vl vu lo hi sl Q I rx hs pl pu ⟨α,d,st,K,G,F',P,r1,S,q,k⟩
 unfold jG zF at q
 cases d<;>try exact q.elim
 · rename_i n
   simp only at q
   split at q
   · rename_i xs e
     obtain⟨a,ea,vs,h1,h2⟩:=S.fv e
     have r1':=dU ea r1
     subst r1'
     exact Bw pins s σ H _ v vl vu lo hi sl Q I rx hs pl pu ⟨a,vs,rfl,.inl (.of (P.get h1)),fun p hp=>k.lst P q S (ux h2) hp⟩
   · exact q.elim
 · unfold Rep at r1
   obtain⟨a,vs,rfl,na,ha,ra⟩:=r1
   exact Bw pins s σ H _ v vl vu lo hi sl Q I rx hs pl pu ⟨a,vs,rfl,.inl (g6 P ha),fun p hp=>k.lst P q S (ux ra) hp⟩
 · rename_i xs
   have r0:=r1
   unfold Rep at r1
   obtain⟨a,vs,rfl,na,ha,ra⟩:=r1
   refine Ik pins s σ H _ v vl vu lo hi sl Q I rx hs pl pu ⟨a,vs,rfl,P.get ha,fun hw=>?_,fun _ p hp=>k.tup P q S (ux ra) hp⟩
   rw[←ra.length]at hw
   simp only at q
   rw[DW hw]at q
   exact k.here P q S r0
theorem IT{e:Expr}{lo hi:Option Expr}{te:DE}{tl th:DO}{p2 pos:Pos}(he:PE X e (LE te))(hl:PO X lo (LO tl))(hh:PO X hi (LO th)):PE X (.Subscript e (.Slice lo hi none p2) pos) (LE (r9 te tl th)):=PE.imp (FG J4 he hl hh) fun σ H Q ⟨α,σd,st,K,G,F,P,R,S,t,k⟩=>by
 refine⟨α,σd,st,_,G,F,P,R,S,t,fun d st1 q α1 G1 H1 v s1 P1 S1 r1=>?_⟩
 refine⟨α1,σd,st1,_,G1,F,P1,R.step s1,S1,q,fun l st2 q2 α2 G2 H2 s2 P2 S2=>?_⟩
 refine⟨α2,σd,st2,_,G2,F,P2,(R.step s1).step s2,S2,q2,fun u st3 q3 α3 G3 H3 s3 P3 S3=>?_⟩
 exact⟨α3,d,st3,K,G3,F,P3,(r1.step s2).step s3,S3,q3,((k.at s1).at s2).at s3⟩
@[irreducible] noncomputable def JO(X:Cx)(e:Option Expr)(t:DO):Prop:=PO X e (LO t)
theorem wz:JO X none pJ:=by unfold JO;exact HA
theorem wJ{e:Expr}{te:DE}(h:JE X e te):JO X (some e) (vM te):=by unfold JO;unfold JE at h;exact Hv h
theorem wW{e:Expr}{lo hi:Option Expr}{te:DE}{tl th:DO}{p2 pos:Pos}(he:JE X e te)(hl:JO X lo tl)(hh:JO X hi th):JE X (.Subscript e (.Slice lo hi none p2) pos) (r9 te tl th):=by unfold JE at*;unfold JO at*;exact IT he hl hh
end
theorem xi{st:af}{K:DK}{xs:List D}{lo hi:Option Int}(k:K (.lst (cutD xs lo hi)) st):jG (.lst xs) lo hi st K:=by unfold jG;exact k
theorem EI{st:af}{K:DK}{xs:List D}{lo hi:Option Int}(k:K (.tup (cutD xs lo hi)) st):jG (.tup xs) lo hi st K:=by unfold jG;exact k
theorem xS{st:af}{K:DK}{xs:List D}{lo hi:Option Int}{n:Nat}(h:st[n]?=some (.lst xs))(k:K (.lst (cutD xs lo hi)) st):jG (.ref n) lo hi st K:=by unfold jG zF;simp only[h];exact k
end L3
namespace L3
open PySem L2
open PySem.Spec hiding items?
open PyProof.Rows hiding St
section
variable {prog:Program}{w:World}{A:Around}{E:Value→Shared→Prop}{s:Shared}
theorem CW{iT tp:Addr}{n:Nat}{au:Array Value}{v:Value}{Q:Value→Shared→Prop}(hI:s.heap.IsTupleIter iT tp n)(hT:s.heap.IsTuple tp au)(hv:au[n]?=some v)
 (q:∀g,g.IsTupleIter iT tp (n+1)→Heap.SameBut iT s.heap g→Q v {s with heap:=g}):wpAny (model prog w) A (Builtin.SmallTypes.nextOf (.ref iT)) Q E s:=by
 obtain⟨oI,eI,cI,dI⟩:=id hI
 obtain⟨oT,eT,_,nT,dT⟩:=hT
 unfold Builtin.SmallTypes.nextOf
 refine wpAny_bind (wpAny_callSpecial?_slot (name:=Str.ofString "__next__") hI.typeIs F.slot_tuple_iterator_next (wpAny_call_entry F.slot_tuple_iterator_next hI.typeIs F.entry_tuple_iterator_next ?_ (F.args_tuple_iterator_next_1 _)))
 show wpAny _ _ (field (.ref iT) 0 >>= _) _ _ s
 refine wpAny_bind (wpAny_field eI dI (x:= .ref tp) rfl ?_)
 show wpAny _ _ (if(Value.ref tp==Value.none)=true then _ else _) _ _ s
 rw[if_neg (show¬((Value.ref tp==Value.none)=true)from Bool.false_ne_true)]
 show wpAny _ _ (field (.ref iT) 1 >>= _) _ _ s
 refine wpAny_bind (wpAny_field eI dI (x:= .int n 0) rfl ?_)
 show wpAny _ _ (seqItems? (.ref tp) >>= _) _ _ s
 refine wpAny_bind (wpAny_seqItems eT dT ?_)
 simp only[Int.toNat_natCast,hv]
 refine wpAny_bind (wpAny_setField eI dI (by simp) (wpAny_pure ⟨v,rfl,wpAny_pure (q _ ?_ (Heap.SameBut.update ..))⟩))
 refine⟨_,Heap.get?_update_self _ eI (Obj.isFreed_of_fields (Obj.data_mapFields dI _)),(Obj.cls_mapFields ..).trans cI,?_⟩
 rw[Obj.data_mapFields dI]
 simp[rawInt]
theorem EA{iT tp:Addr}{n:Nat}{au:Array Value}{Q:Value→Shared→Prop}(hh:A.handled=none)(hI:s.heap.IsTupleIter iT tp n)(hT:s.heap.IsTuple tp au)(hv:au[n]?=none)
 (q:∀g e,Heap.ExtBut iT s.heap g→(∃o,g.get? e=some o∧o.cls= .type "StopIteration")→E (.ref e) {s with heap:=g}):wpAny (model prog w) A (Builtin.SmallTypes.nextOf (.ref iT)) Q E s:=by
 obtain⟨oI,eI,cI,dI⟩:=id hI
 obtain⟨oT,eT,_,nT,dT⟩:=hT
 unfold Builtin.SmallTypes.nextOf
 refine wpAny_bind (wpAny_callSpecial?_slot (name:=Str.ofString "__next__") hI.typeIs F.slot_tuple_iterator_next (wpAny_call_entry F.slot_tuple_iterator_next hI.typeIs F.entry_tuple_iterator_next ?_ (F.args_tuple_iterator_next_1 _)))
 show wpAny _ _ (field (.ref iT) 0 >>= _) _ _ s
 refine wpAny_bind (wpAny_field eI dI (x:= .ref tp) rfl ?_)
 show wpAny _ _ (if(Value.ref tp==Value.none)=true then _ else _) _ _ s
 rw[if_neg (show¬((Value.ref tp==Value.none)=true)from Bool.false_ne_true)]
 show wpAny _ _ (field (.ref iT) 1 >>= _) _ _ s
 refine wpAny_bind (wpAny_field eI dI (x:= .int n 0) rfl ?_)
 show wpAny _ _ (seqItems? (.ref tp) >>= _) _ _ s
 refine wpAny_bind (wpAny_seqItems eT dT ?_)
 simp only[Int.toNat_natCast,hv]
 refine wpAny_bind (wpAny_rule (wpAny_bind (wpAny_setField eI dI (by simp) ?_)))
 show wpAny _ _ (newExc (.type "StopIteration") [] >>= _) _ _ _
 refine wpAny_bind ?_
 simp only[newExc,newTuple]
 refine wpAny_bind (wpAny_newObj_type ?_ (by size_fits))
 refine wpAny_bind (m:=firstArgMember _ _) (wpAny_of_eq (a:=Value.none) (by first|rfl|(simp only[firstArgMember];rfl)) ?_)
 refine wpAny_newObj_type ?_ (by size_fits)
 simp only[raiseNew]
 refine wpAny_bind (wpAny_handled ?_)
 first|rw[show A.in1.handled=none from hh]|rw[hh]
 refine wpAny_bind (wpAny_pure (wpAny_throw ?_))
 exact q _ _ (((Heap.SameBut.update ..).extBut.push _).push _) ⟨_,Heap.get?_push_size _ rfl,rfl⟩
end
end L3
namespace L3
open PySem L2
open PySem.Spec hiding items?
open PyProof.Rows hiding St
section
variable {st:af}{K:DK}{i j:Int}{b c:Bool}{xs ys:List D}{d e:D}{n:Nat}
theorem eqT(h:i=j)(k:K (.bl true) st):eL (.int i) (.int j) st K:=zH (by rw[decide_eq_true h];exact k)
theorem NI(h:i≠j)(k:K (.bl false) st):eL (.int i) (.int j) st K:=zH (by rw[decide_eq_false h];exact k)
theorem eq2(h1:i=j→K (.bl true) st)(h2:i≠j→K (.bl false) st):eL (.int i) (.int j) st K:=by
 by_cases h:i=j
 · exact eqT h (h1 h)
 · exact NI h (h2 h)
theorem neT(h:i≠j)(k:K (.bl true) st):kT (.int i) (.int j) st K:=Hn (by rw[decide_eq_false h];exact k)
theorem OO(h:i=j)(k:K (.bl false) st):kT (.int i) (.int j) st K:=Hn (by rw[decide_eq_true h];exact k)
theorem ne2(h1:i≠j→K (.bl true) st)(h2:i=j→K (.bl false) st):kT (.int i) (.int j) st K:=by
 by_cases h:i=j
 · exact OO h (h2 h)
 · exact neT h (h1 h)
theorem OP(h:i<j)(k:K (.bl true) st):oJ (.int i) (.int j) st K:=oz (by rw[decide_eq_true h];exact k)
theorem O6(h:j≤i)(k:K (.bl false) st):oJ (.int i) (.int j) st K:=oz (by rw[decide_eq_false (by omega)];exact k)
theorem OR(h1:i<j→K (.bl true) st)(h2:j≤i→K (.bl false) st):oJ (.int i) (.int j) st K:=by
 by_cases h:i<j
 · exact OP h (h1 h)
 · exact O6 (by omega) (h2 (by omega))
theorem OX(h:j<i)(k:K (.bl true) st):oF (.int i) (.int j) st K:=sL (by rw[decide_eq_true h];exact k)
theorem OW(h:i≤j)(k:K (.bl false) st):oF (.int i) (.int j) st K:=sL (by rw[decide_eq_false (by omega)];exact k)
theorem Lo(h1:j<i→K (.bl true) st)(h2:i≤j→K (.bl false) st):oF (.int i) (.int j) st K:=by
 by_cases h:j<i
 · exact OX h (h1 h)
 · exact OW (by omega) (h2 (by omega))
theorem xD{P:Prop}(h:xs.length≤1000)(k:P):xs.length≤sizeLine∧P:=⟨by rw[sizeLine_eq];omega,k⟩
theorem bH{m:Nat}(h:m≤1000):m≤sizeLine:=by rw[sizeLine_eq];omega
theorem we(h0:0≤i)(e:xs[i.toNat]?=some d):dQ xs i=some d:=by
 have:=gz e
 rw[Int.toNat_of_nonneg h0]at this
 exact this
theorem lZ{m:Nat}(h0:0≤i)(h:i.toNat<m):jA m i=some i.toNat:=by
 unfold jA
 have:i<(m:Int):=by omega
 simp[h0,this]
end
theorem ji{tg:e7}{body:DS}{ok:af→Prop}{E:mY}(I:List D→bM→af→Prop)(hend:∀σ st,I [] σ st→ok st∧E.nx σ st)
 (hstep:∀x xs σ st,I (x::xs) σ st→(∀σ' st',I xs σ' st'→iM tg body ok E xs σ' st')→ok st∧∃σ1,tg x σ=some σ1∧body {E with nx:=iM tg body ok E xs,ct:=iM tg body ok E xs,bk:=E.nx} σ1 st):
 ∀xs σ st,I xs σ st→iM tg body ok E xs σ st
 | [],σ,st,h=>by unfold iM;exact hend σ st h
 |x::xs,σ,st,h=>by unfold iM;exact hstep x xs σ st h fun σ' st' h'=>ji I hend hstep xs σ' st' h'
theorem gd{tg:e7}{c:DT}{te:DE}{ok:af→Prop}{σc:bM}{K:List D→af→Prop}(I:List D→List D→af→Prop)(hend:∀acc st,I [] acc st→ok st∧K acc st)
 (hstep:∀x xs acc st,I (x::xs) acc st→(∀acc' st',I xs acc' st'→cP tg c te ok σc xs acc' st' K)→ok st∧∃σ2,tg x σc=some σ2∧c σ2 st fun b st1=>if b=true then te σ2 st1 fun y st2=>cP tg c te ok σc xs (acc++[y]) st2 K else cP tg c te ok σc xs acc st1 K):
 ∀xs acc st,I xs acc st→cP tg c te ok σc xs acc st K
 | [],acc,st,h=>by unfold cP;exact hend acc st h
 |x::xs,acc,st,h=>by unfold cP;exact hstep x xs acc st h fun acc' st' h'=>gd I hend hstep xs acc' st' h'
theorem comp_map{tg:e7}{te:DE}{ok:af→Prop}{σc:bM}{st:af}{K:List D→af→Prop}{g:D→D}(aI:ok st)(xs:List D)(hx:∀x∈xs,∀K',K' (g x) st→∃σ2,tg x σc=some σ2∧te σ2 st K')(k:K (xs.map g) st):cP tg bW te ok σc xs [] st K:=by
 refine gd (fun r acc st'=>st'=st∧(∀x∈r,x∈xs)∧acc++r.map g=xs.map g) (fun acc st' h=>?_) (fun x r acc st' h next=>?_) xs [] st ⟨rfl,fun _ h=>h,rfl⟩
 · obtain⟨rfl,_,e⟩:=h
   rw[List.map_nil,List.append_nil]at e
   rw[e];exact⟨aI,k⟩
 · obtain⟨rfl,hm,e⟩:=h
   obtain⟨σ2,e2,q⟩:=hx x (hm x List.mem_cons_self) (fun y st2=>cP tg bW te ok σc r (acc++[y]) st2 K) (next _ _ ⟨rfl,fun z hz=>hm z (List.mem_cons_of_mem _ hz),by rw[←e];simp⟩)
   exact⟨aI,σ2,e2,q⟩
theorem dk{A B:DS}{E:mY}{σ:bM}{st:af}(J:bM→af→Prop)(h:∀nx,(∀σ' st',J σ' st'→nx σ' st')→A {E with nx:=nx} σ st)(k:∀σ' st',J σ' st'→B E σ' st'):aE A B E σ st:=h (B E) k
noncomputable def K4(n:Nat)(K:DK)(y:D)(st2:af):Prop:=∃y',[y]=[y']∧(match st2[n]? with|some (.lst xs)=>xs.length<sizeLine∧K .aA (st2.set n (.lst (xs++[y'])))|_=>False)
theorem BR{n:Nat}{K:DK}{y:D}{st:af}{xs:List D}(e:st[n]?=some (.lst xs))(h:xs.length<sizeLine)(k:K .aA (st.set n (.lst (xs++[y])))):K4 n K y st:=by
 refine⟨y,rfl,?_⟩;simp only[e];exact⟨h,k⟩
@[irreducible] noncomputable def nv(to te:DE):DE:=pK to te
theorem EW{σ:bM}{st:af}{K:DK}{i n:Nat}{xs:List D}{te:DE}(ei:σ[i]?=some (some (.ref n)))(e:st[n]?=some (.lst xs))(h:te σ st (K4 n K)):nv (ab i) te σ st K:=by
 unfold nv pK ab
 simp only[ei,e]
 exact h
theorem xf{X:Cx}{o e:Expr}{to te:DE}{apos cpos:Pos}(ho:JE X o to)(he:JE X e te)(hbase:attributeBase o "append" X.env (eval o X.env)=eval o X.env:=by rfl)(hline:(apos.endLine==cpos.line)=true:=by rfl)(hs:notStar e=true:=by rfl):JE X (.Call (.Attribute o "append" apos) [e] [] cpos) (nv to te):=by
 unfold nv;exact F7 ho he hbase hline hs
section
variable {X:Cx}
end
end L3
namespace L3
open PySem L2
open PySem.Spec hiding items?
open PyProof.Rows hiding St
structure Src(P:Program)(w:World)(t a:Addr)(J:Nat→Heap→Prop)(us:Array Value):Prop where
 fr:∀n g k,J n g→(∀b,b=t∨b=a→∀o,g.get? b=some o→k.get? b=some o)→J n k
 lv:∀n g,J n g→(∃o,g.get? t=some o)∧∃o,g.get? a=some o
 nx:∀n (A:Around) (s:Shared) (Q:Value→Shared→Prop) (E:Value→Shared→Prop) v,J n s.heap→us[n]?=some v→(∀k,J (n+1) k→Heap.SameBut t s.heap k→Q v {s with heap:=k})→wpAny (model P w) A (Builtin.SmallTypes.nextOf (.ref t)) Q E s
 en:∀n (A:Around) (s:Shared) (Q:Value→Shared→Prop) (E:Value→Shared→Prop),A.handled=none→J n s.heap→us[n]?=none→(∀k e,Heap.ExtBut t s.heap k→(∃o,k.get? e=some o∧o.cls= .type "StopIteration")→E (.ref e) {s with heap:=k})→wpAny (model P w) A (Builtin.SmallTypes.nextOf (.ref t)) Q E s
section
variable {P:Program}{w:World}
theorem src_list(t a:Addr)(hne:a≠t)(us:Array Value):Src P w t a (fun n g=>g.IsListIter t a n∧g.IsList a us) us where
 fr:=fun n g k j kp=>⟨j.1.at fun o e=>kp t (.inl rfl) o e,j.2.at fun o e=>kp a (.inr rfl) o e⟩
 lv:=fun n g j=>⟨let⟨o,e,_⟩:=j.1;⟨o,e⟩,let⟨o,e,_⟩:=j.2;⟨o,e⟩⟩
 nx:=fun n A s Q E v j hv q=>wpAny_nextOf_list_item j.1 j.2 hv fun k jk sb=>q k ⟨jk,j.2.extBut sb.extBut hne⟩ sb
 en:=fun n A s Q E hh j hv q=>wpAny_nextOf_list_end hh j.1 j.2 hv q
theorem Ih(t a:Addr)(hne:a≠t)(us:Array Value):Src P w t a (fun n g=>g.IsTupleIter t a n∧g.IsTuple a us) us where
 fr:=fun n g k j kp=>by
  obtain⟨⟨o,e,r⟩,⟨o2,e2,r2⟩⟩:=j
  exact⟨⟨o,kp t (.inl rfl) o e,r⟩,⟨o2,kp a (.inr rfl) o2 e2,r2⟩⟩
 lv:=fun n g j=>⟨let⟨o,e,_⟩:=j.1;⟨o,e⟩,let⟨o,e,_⟩:=j.2;⟨o,e⟩⟩
 nx:=fun n A s Q E v j hv q=>CW j.1 j.2 hv fun k jk sb=>q k ⟨jk,j.2.extBut sb.extBut hne⟩ sb
 en:=fun n A s Q E hh j hv q=>EA hh j.1 j.2 hv q
theorem Src.ext{t a c:Addr}{J:Nat→Heap→Prop}{us:Array Value}(S:Src P w t a J us){n:Nat}{g k:Heap}(j:J n g)(x:Heap.ExtBut c g k)(h1:c≠t)(h2:c≠a):J n k:=
 S.fr n g k j fun b hb o e=>x b o (by rcases hb with rfl|rfl;exact Ne.symm h1;exact Ne.symm h2) e
structure BI(z ti to t1 t2 a1 a2:Addr):Prop where
 nd: [z,ti,to,t1,t2].Nodup
 a1:a1∉[z,ti,to,t1,t2]
 a2:a2∉[z,ti,to,t1,t2]
section
variable {z ti to t1 t2 a1 a2:Addr}
theorem BI.n(D:BI z ti to t1 t2 a1 a2):(ti≠z∧to≠z∧t1≠z∧t2≠z)∧(ti≠to∧ti≠t1∧ti≠t2)∧(to≠t1∧to≠t2)∧t1≠t2:=by
 have:=D.nd
 simp only[List.nodup_cons,List.mem_cons,not_or,List.not_mem_nil,not_false_eq_true,and_true,List.nodup_nil]at this
 obtain⟨⟨b1,b2,b3,b4⟩,⟨b5,b6,b7⟩,⟨b8,b9⟩,b10⟩:=this
 exact⟨⟨Ne.symm b1,Ne.symm b2,Ne.symm b3,Ne.symm b4⟩,⟨b5,b6,b7⟩,⟨b8,b9⟩,b10⟩
theorem ET{A:Around}{s:Shared}{E:Value→Shared→Prop}{J1 J2:Nat→Heap→Prop}{us vs:Array Value}{n:Nat}{x y a b:Value}{Q:Value→Shared→Prop}(D:BI z ti to t1 t2 a1 a2)(S1:Src P w t1 a1 J1 us)(S2:Src P w t2 a2 J2 vs)
 (Z:IsZip s.heap z ti to .none) (pI:IsPair s.heap ti (.ref t1) (.ref t2)) (pO:IsPair s.heap to a b) (j1:J1 n s.heap) (j2:J2 n s.heap) (ex:us[n]?=some x) (ey:vs[n]?=some y)
 (q:∀k,IsZip k z ti to (rawInt s.heap.objs.size)→IsPair k to x y→J1 (n+1) k→J2 (n+1) k→IsPair k s.heap.objs.size x y→k.objs.size=s.heap.objs.size+1→
   (∀c o,c≠z→c≠to→c≠t1→c≠t2→s.heap.get? c=some o→k.get? c=some o)→Q (.ref s.heap.objs.size) {s with heap:=k}):
 wpAny (model P w) A (Builtin.«zip.__next__» ⟨[.ref z],[]⟩) (fun fin s'=>∃v,fin= .done (.ret v)∧Q v s') E s:=by
 obtain⟨⟨n1,n2,n3,n4⟩,⟨n5,n6,n7⟩,⟨n8,n9⟩,n10⟩:=D.n
 have m1:=D.a1
 have m2:=D.a2
 simp only[List.mem_cons,not_or,List.not_mem_nil,not_false_eq_true,and_true]at m1 m2
 show wpAny _ _ (field (.ref z) 2 >>= _) _ _ _
 refine wpAny_bind (wpAny_field Z rfl (x:= .bool false) rfl ?_)
 show wpAny _ _ (field (.ref z) 3 >>= _) _ _ _
 refine wpAny_bind (wpAny_field Z rfl (x:= .ref ti) rfl ?_)
 refine wpAny_bind (wpAny_seqItems pI rfl ?_)
 show wpAny _ _ (Builtin.SmallTypes.ownedTupleIsFree (.ref z) >>= _) _ _ _
 refine wpAny_bind ?_
 unfold Builtin.SmallTypes.ownedTupleIsFree
 refine wpAny_bind (wpAny_field Z rfl (x:= .none) rfl (wpAny_pure ?_))
 simp only[if_true]
 refine wpAny_bind (wpAny_rule ?_)
 refine wpAny_bind (wpAny_field Z rfl (x:= .ref to) rfl ?_)
 refine wpAny_bind (wpAny_setField_rec Z (by simp) fun k1 Z1 b1=>?_)
 replace Z1:IsZip k1 z ti to .ellipsis:=Z1
 refine wpAny_bind ?_
 simp only[List.zipIdx_cons,List.zipIdx_nil,List.forIn_cons,List.forIn_nil]
 refine wpAny_bind (wpAny_bind (wpAny_onRaise ?_))
 show wpAny _ _ (Builtin.SmallTypes.nextOf (.ref t1) >>= _) _ _ _
 refine wpAny_bind (S1.nx n _ _ _ _ x (S1.ext j1 b1.extBut (Ne.symm n3) (Ne.symm m1.1)) ex fun k2 j1b b2=>wpAny_pure ?_)
 have pO2:IsPair k2 to a b:=b2.extBut _ _ n8 (b1.extBut _ _ n2 pO)
 refine wpAny_bind (wpAny_seqItems pO2 rfl ?_)
 refine wpAny_bind (wpAny_updateSeq_pair pO2 fun k3 pO3 b3=>?_)
 replace pO3:IsPair k3 to x b:=pO3
 refine wpAny_bind (wpAny_letGo (wpAny_pure ?_))
 refine wpAny_bind (wpAny_bind (wpAny_onRaise ?_))
 show wpAny _ _ (Builtin.SmallTypes.nextOf (.ref t2) >>= _) _ _ _
 have j2c:J2 n k3:=S2.ext (S2.ext (S2.ext j2 b1.extBut (Ne.symm n4) (Ne.symm m2.1)) b2.extBut n10 (Ne.symm m2.2.2.2.1)) b3.extBut n9 (Ne.symm m2.2.2.1)
 refine wpAny_bind (S2.nx n _ _ _ _ y j2c ey fun k4 j2d b4=>wpAny_pure ?_)
 have pO4:IsPair k4 to x b:=b4.extBut _ _ n9 pO3
 refine wpAny_bind (wpAny_seqItems pO4 rfl ?_)
 refine wpAny_bind (wpAny_updateSeq_pair pO4 fun k5 pO5 b5=>?_)
 replace pO5:IsPair k5 to x y:=pO5
 refine wpAny_bind (wpAny_letGo (wpAny_pure (wpAny_pure ?_)))
 refine wpAny_bind (wpAny_seqItems pO5 rfl ?_)
 refine wpAny_bind (wpAny_newTuple ?_)
 have sz:k5.objs.size=s.heap.objs.size:=by rw[b5.1,b4.1,b3.1,b2.1,b1.1]
 have Z5:IsZip k5 z ti to .ellipsis:=b5.extBut _ _ (Ne.symm n2) (b4.extBut _ _ (Ne.symm n4) (b3.extBut _ _ (Ne.symm n2) (b2.extBut _ _ (Ne.symm n3) Z1)))
 have kp5:∀c o,c≠z→c≠to→c≠t1→c≠t2→s.heap.get? c=some o→k5.get? c=some o:=fun c o c1 c2 c3 c4 e=>b5.extBut _ _ c2 (b4.extBut _ _ c4 (b3.extBut _ _ c2 (b2.extBut _ _ c3 (b1.extBut _ _ c1 e))))
 have j1e:J1 (n+1) k5:=S1.ext (S1.ext (S1.ext j1b b3.extBut n8 (Ne.symm m1.2.2.1)) b4.extBut (Ne.symm n10) (Ne.symm m1.2.2.2.2)) b5.extBut n8 (Ne.symm m1.2.2.1)
 have j2e:J2 (n+1) k5:=S2.ext j2d b5.extBut n9 (Ne.symm m2.2.2.1)
 have ltz:z<k5.objs.size:=Heap.lt_size Z5
 show wpAny _ _ (Builtin.SmallTypes.ownedTupleHandOut (.ref z) (.ref k5.objs.size) >>= _) _ _ _
 refine wpAny_bind ?_
 unfold Builtin.SmallTypes.ownedTupleHandOut
 have Z6:IsZip (k5.push {cls:= .type "tuple",data:= .seq #[x,y]}) z ti to .ellipsis:=Heap.get?_push_of_some _ Z5
 refine wpAny_bind (wpAny_setField_rec Z6 (by simp) fun k7 Z7 b7=>?_)
 replace Z7:IsZip k7 z ti to (rawInt k5.objs.size):=Z7
 refine wpAny_setField_rec Z7 (by simp) fun k8 Z8 b8=>?_
 replace Z8:IsZip k8 z ti to (rawInt k5.objs.size):=Z8
 have up:∀c o,c≠z→k5.get? c=some o→k8.get? c=some o:=fun c o c1 e=>b8.extBut _ _ c1 (b7.extBut _ _ c1 (Heap.get?_push_of_some _ e))
 have pT:IsPair k8 k5.objs.size x y:=b8.extBut _ _ (Nat.ne_of_gt ltz) (b7.extBut _ _ (Nat.ne_of_gt ltz) (Heap.get?_push_size _ rfl))
 have sz8:k8.objs.size=k5.objs.size+1:=by rw[b8.1,b7.1,Heap.size_push]
 rw[sz]at Z8 pT sz8
 refine wpAny_pure ⟨_,rfl,?_⟩
 show Q (.ref k5.objs.size) _
 rw[sz]
 refine q k8 Z8 (up _ _ n2 pO5) (S1.fr _ _ _ j1e fun b hb o e=>up b o ?_ e) (S2.fr _ _ _ j2e fun b hb o e=>up b o ?_ e) pT sz8 fun c o c1 c2 c3 c4 e=>up c o c1 (kp5 c o c1 c2 c3 c4 e)
 · rcases hb with rfl|rfl
   · exact n3
   · exact m1.1
 · rcases hb with rfl|rfl
   · exact n4
   · exact m2.1
theorem Fb{A:Around}{s:Shared}{E:Value→Shared→Prop}{J1 J2:Nat→Heap→Prop}{us vs:Array Value}{n:Nat}{a b:Value}{Q:Fin→Shared→Prop}(hh:A.handled=none)(D:BI z ti to t1 t2 a1 a2)(S1:Src P w t1 a1 J1 us)(S2:Src P w t2 a2 J2 vs)
 (Z:IsZip s.heap z ti to .none) (pI:IsPair s.heap ti (.ref t1) (.ref t2)) (pO:IsPair s.heap to a b) (j1:J1 n s.heap) (j2:J2 n s.heap) (he:us[n]?=none∨vs[n]?=none)
 (q:∀k e,(∀c o,c≠z→c≠to→c≠t1→c≠t2→s.heap.get? c=some o→k.get? c=some o)→(∃o,k.get? e=some o∧o.cls= .type "StopIteration")→E (.ref e) {s with heap:=k}):
 wpAny (model P w) A (Builtin.«zip.__next__» ⟨[.ref z],[]⟩) Q E s:=by
 obtain⟨⟨n1,n2,n3,n4⟩,⟨n5,n6,n7⟩,⟨n8,n9⟩,n10⟩:=D.n
 have m1:=D.a1
 have m2:=D.a2
 simp only[List.mem_cons,not_or,List.not_mem_nil,not_false_eq_true,and_true]at m1 m2
 show wpAny _ _ (field (.ref z) 2 >>= _) _ _ _
 refine wpAny_bind (wpAny_field Z rfl (x:= .bool false) rfl ?_)
 show wpAny _ _ (field (.ref z) 3 >>= _) _ _ _
 refine wpAny_bind (wpAny_field Z rfl (x:= .ref ti) rfl ?_)
 refine wpAny_bind (wpAny_seqItems pI rfl ?_)
 show wpAny _ _ (Builtin.SmallTypes.ownedTupleIsFree (.ref z) >>= _) _ _ _
 refine wpAny_bind ?_
 unfold Builtin.SmallTypes.ownedTupleIsFree
 refine wpAny_bind (wpAny_field Z rfl (x:= .none) rfl (wpAny_pure ?_))
 simp only[if_true]
 refine wpAny_bind (wpAny_rule ?_)
 refine wpAny_bind (wpAny_field Z rfl (x:= .ref to) rfl ?_)
 refine wpAny_bind (wpAny_setField_rec Z (by simp) fun k1 Z1 b1=>?_)
 replace Z1:IsZip k1 z ti to .ellipsis:=Z1
 refine wpAny_bind ?_
 simp only[List.zipIdx_cons,List.zipIdx_nil,List.forIn_cons,List.forIn_nil]
 refine wpAny_bind (wpAny_bind (wpAny_onRaise ?_))
 show wpAny _ _ (Builtin.SmallTypes.nextOf (.ref t1) >>= _) _ _ _
 have j1a:J1 n k1:=S1.ext j1 b1.extBut (Ne.symm n3) (Ne.symm m1.1)
 cases ex:us[n]? with
 |none=>
  refine wpAny_bind (S1.en n _ _ _ _ hh j1a ex fun k2 e b2 hx=>?_)
  obtain⟨oe,he1,he2⟩:=hx
  have Z2:IsZip k2 z ti to .ellipsis:=b2 _ _ (Ne.symm n3) Z1
  have hez:e≠z:=fun c=>by subst c;rw[Z2]at he1;cases he1;simp at he2
  refine wpAny_setField_rec Z2 (by simp) fun k3 _ b3=>q k3 e (fun c o c1 _ c3 _ f=>b3.extBut _ _ c1 (b2 _ _ c3 (b1.extBut _ _ c1 f))) ⟨oe,b3.extBut _ _ hez he1,he2⟩
 |some x=>
  have ey:vs[n]?=none:=by
   rcases he with h|h
   · rw[ex]at h;cases h
   · exact h
  refine wpAny_bind (S1.nx n _ _ _ _ x j1a ex fun k2 j1b b2=>wpAny_pure ?_)
  have pO2:IsPair k2 to a b:=b2.extBut _ _ n8 (b1.extBut _ _ n2 pO)
  refine wpAny_bind (wpAny_seqItems pO2 rfl ?_)
  refine wpAny_bind (wpAny_updateSeq_pair pO2 fun k3 pO3 b3=>?_)
  refine wpAny_bind (wpAny_letGo (wpAny_pure ?_))
  refine wpAny_bind (wpAny_bind (wpAny_onRaise ?_))
  show wpAny _ _ (Builtin.SmallTypes.nextOf (.ref t2) >>= _) _ _ _
  have j2c:J2 n k3:=S2.ext (S2.ext (S2.ext j2 b1.extBut (Ne.symm n4) (Ne.symm m2.1)) b2.extBut n10 (Ne.symm m2.2.2.2.1)) b3.extBut n9 (Ne.symm m2.2.2.1)
  refine wpAny_bind (S2.en n _ _ _ _ hh j2c ey fun k4 e b4 hx=>?_)
  obtain⟨oe,he1,he2⟩:=hx
  have Z4:IsZip k4 z ti to .ellipsis:=b4 _ _ (Ne.symm n4) (b3.extBut _ _ (Ne.symm n2) (b2.extBut _ _ (Ne.symm n3) Z1))
  have hez:e≠z:=fun c=>by subst c;rw[Z4]at he1;cases he1;simp at he2
  refine wpAny_setField_rec Z4 (by simp) fun k5 _ b5=>q k5 e (fun c o c1 c2 c3 c4 f=>b5.extBut _ _ c1 (b4 _ _ c4 (b3.extBut _ _ c2 (b2.extBut _ _ c3 (b1.extBut _ _ c1 f))))) ⟨oe,b5.extBut _ _ hez he1,he2⟩
end
end
end L3
namespace L3
open PySem L2
open PySem.Spec hiding items?
open PyProof.Rows hiding St
theorem Hj{X:Cx}{pins:List (Addr×Obj)}{σ:L2.St}{H:Hp}{s:Shared}{g:Heap}{tk:Nat}{fp:List Addr}{T:Addr}{xs:List V}(I:Inv X pins σ H s)(hf:∀b∈fp,kW X pins H b)
 (k:∀b o,b∉fp→s.heap.get? b=some o→g.get? b=some o) (hT:s.heap.objs.size≤T) (new:dj X.prog X.w (upd H T (.tup xs)) g T (.tup xs)):Inv X pins σ (upd H T (.tup xs)) {s with heap:=g,toks:=tk}:=by
 have hn:H T=none:=I.aI.fresh hT
 have nfp:∀b u,H b=some u→b∉fp:=fun b u e z=>by rw[(hf b z).1]at e;cases e
 have nT:∀b u,H b=some u→b≠T:=fun b u e=>dq e hn
 refine I.step (g':=s.gens) (d':=s.drawn) (ch:=fp) (fun b hb=>?_) (fun b o _ _ hc e _=>k b o hc e) (fun b o _ _ hc e _=>⟨o.slots,k b o hc e⟩) (fun b o _ e n=>?_) (fun b o hc e=>⟨o,k b o hc e⟩)
  (fun b ys e=>by rw[aQ (nT b _ e)];exact e) (fun b o u e=>by rw[aQ (nT b _ e)];exact e) (fun b ps e=>⟨#[],by rw[aQ (nT b _ e),e];simp⟩) (fun m hm=>?_) (fun b u e=>?_) I.bare
 · obtain⟨f0,f1,f2,f3,f4,f5⟩:=hf b hb
   exact⟨f3,f1,f4,f5⟩
 · rw[aQ (Nat.ne_of_lt (Nat.lt_of_lt_of_le (Heap.lt_size e) hT))];exact n
 · obtain⟨o,es,ep,ho,r⟩:=hm
   exact⟨o,es,ep,k _ o (fun z=>(hf _ z).2.1 rfl) ho,r⟩
 · by_cases hb:b=T
   · subst hb;rw[a5]at e;cases e;exact new
   · rw[aQ hb]at e
     refine(I.aI b u e).i4 (fun c v hc q=>k c v ?_ q) (fun c q=>by rw[aQ (nT c _ q)];exact q) fun c ys q=>by rw[aQ (nT c _ q)];exact q
     rcases hc with z|z
     · rw[z];exact nfp b u e
     · exact nfp c _ z
theorem Gv{X:Cx}{pins:List (Addr×Obj)}{σ:L2.St}{H:Hp}{s:Shared}{g:Heap}{tk:Nat}{fp:List Addr}(I:Inv X pins σ H s)(hf:∀b∈fp,kW X pins H b)
 (k:∀b o,b∉fp→s.heap.get? b=some o→g.get? b=some o):Inv X pins σ H {s with heap:=g,toks:=tk}:=by
 have nfp:∀b u,H b=some u→b∉fp:=fun b u e z=>by rw[(hf b z).1]at e;cases e
 refine I.step (g':=s.gens) (d':=s.drawn) (ch:=fp) (fun b hb=>?_) (fun b o _ _ hc e _=>k b o hc e) (fun b o _ _ hc e _=>⟨o.slots,k b o hc e⟩) (fun b o _ e n=>n) (fun b o hc e=>⟨o,k b o hc e⟩)
  (fun b ys e=>e) (fun b o u e=>e) (fun b ps e=>⟨#[],by rw[e];simp⟩) (fun m hm=>?_) (fun b u e=>?_) I.bare
 · obtain⟨f0,f1,f2,f3,f4,f5⟩:=hf b hb
   exact⟨f3,f1,f4,f5⟩
 · obtain⟨o,es,ep,ho,r⟩:=hm
   exact⟨o,es,ep,k _ o (fun z=>(hf _ z).2.1 rfl) ho,r⟩
 · refine(I.aI b u e).i4 (fun c v hc q=>k c v ?_ q) (fun c q=>q) fun c ys q=>q
   rcases hc with z|z
   · rw[z];exact nfp b u e
   · exact nfp c _ z
inductive SK where
 |l|t
noncomputable def pA(k:SK)(K:PySem.W.Frag)(H:Hp)(a:Addr)(xs:List V):Prop:=match k with
 | .l=>lY K H a xs
 | .t=>iX K H a xs
noncomputable def qK(k:SK)(t a:Addr)(n:Nat)(g:Heap):Prop:=match k with
 | .l=>g.IsListIter t a n
 | .t=>g.IsTupleIter t a n
noncomputable def mm(k:SK)(g:Heap)(a:Addr)(us:Array Value):Prop:=match k with
 | .l=>g.IsList a us
 | .t=>g.IsTuple a us
noncomputable def zT(k:SK)(a:Addr):Obj:=match k with
 | .l=>{cls:= .type "list_iterator",data:= .fields #[.ref a,.int 0 0]}
 | .t=>{cls:= .type "tuple_iterator",data:= .fields #[.ref a,.int 0 0]}
theorem nc{P:Program}{w:World}(k:SK)(t a:Addr)(hne:a≠t)(us:Array Value):Src P w t a (fun n g=>qK k t a n g∧mm k g a us) us:=by
 cases k
 · exact src_list t a hne us
 · exact Ih t a hne us
theorem kn{X:Cx}{pins:List (Addr×Obj)}{σ:L2.St}{H:Hp}{s:Shared}{k:SK}{a:Addr}{xs:List V}(I:Inv X pins σ H s)(h:pA k X.K H a xs):∃au:List Value,Vals xs au∧mm k s.heap a au.toArray:=by
 cases k
 · obtain⟨au,rv,p,_⟩:=I.list h
   exact⟨au,rv,p.isList⟩
 · obtain⟨au,rv,p,_⟩:=I.tuple h
   exact⟨au,rv,p⟩
theorem vX{X:Cx}{pins:List (Addr×Obj)}{σ:L2.St}{H:Hp}{s:Shared}{k:SK}{a:Addr}{xs ys:List V}(I:Inv X pins σ H s)(h:pA k X.K H a xs)(h':pA k X.K H a ys):xs=ys:=by
 cases k
 · exact I.zz h h'
 · exact I.xy h h'
theorem D_{P:Program}{w:World}{A:Around}{s:Shared}{E:Value→Shared→Prop}{k:SK}{a:Addr}{us:Array Value}{Q:Value→Shared→Prop}(h:mm k s.heap a us)(q:Q (.ref s.heap.objs.size) {s with heap:=s.heap.push (zT k a)}):wpAny (model P w) A (pyIter (.ref a)) Q E s:=by
 cases k
 · exact wpAny_pyIter_list h q
 · exact wpAny_pyIter_tuple h q
theorem mm.push{k:SK}{g:Heap}{a:Addr}{us:Array Value}(h:mm k g a us)(o:Obj):mm k (g.push o) a us:=by
 cases k
 · obtain⟨o',e,r⟩:=h;exact⟨o',Heap.get?_push_of_some _ e,r⟩
 · obtain⟨o',e,r⟩:=h;exact⟨o',Heap.get?_push_of_some _ e,r⟩
theorem mm.some{k:SK}{g:Heap}{a:Addr}{us:Array Value}(h:mm k g a us):∃o,g.get? a=Option.some o:=by
 cases k
 · obtain⟨o',e,r⟩:=h;exact⟨o',e⟩
 · obtain⟨o',e,r⟩:=h;exact⟨o',e⟩
theorem BQ{k:SK}{g h:Heap}{t a:Addr}(e:g.get? t=Option.some (zT k a)):qK k t a 0 g:=by
 cases k
 · exact⟨_,e,rfl,rfl⟩
 · exact⟨_,e,rfl,rfl⟩
theorem pL{k:SK}{t a:Addr}{n:Nat}{g g':Heap}(h:qK k t a n g)(kp:∀o,g.get? t=Option.some o→g'.get? t=Option.some o):qK k t a n g':=by
 cases k
 · obtain⟨o,e,r⟩:=h;exact⟨o,kp o e,r⟩
 · obtain⟨o,e,r⟩:=h;exact⟨o,kp o e,r⟩
theorem nA{k:SK}{t a:Addr}{n:Nat}{g:Heap}(h:qK k t a n g):∃o,g.get? t=Option.some o∧∀v,o.data≠ .cell v:=by
 cases k
 · obtain⟨o,e,c,d⟩:=h;exact⟨o,e,fun v z=>by rw[d]at z;cases z⟩
 · obtain⟨o,e,c,d⟩:=h;exact⟨o,e,fun v z=>by rw[d]at z;cases z⟩
noncomputable def Nz(K:PySem.W.Frag)(k1 k2:SK)(a1 a2:Addr):It:=
 ⟨fun i H=>∃xs ys x y,pA k1 K H a1 xs∧pA k2 K H a2 ys∧xs[i]?=some x∧ys[i]?=some y,
  fun i H v H'=>∃T x y,H T=none∧v= .ref T∧H'=upd H T (.tup [x,y])∧(∀xs,pA k1 K H a1 xs→xs[i]?=some x)∧∀ys,pA k2 K H a2 ys→ys[i]?=some y,
  fun i H=>∃xs ys,pA k1 K H a1 xs∧pA k2 K H a2 ys∧(xs.length≤i∨ys.length≤i)⟩
noncomputable def MZ(z ti to t1 t2 a1 a2:Addr)(k1 k2:SK)(i:Nat)(h:Heap):Prop:=IsZip h z ti to .none∧IsPair h ti (.ref t1) (.ref t2)∧(∃a b,IsPair h to a b)∧qK k1 t1 a1 i h∧qK k2 t2 a2 i h
theorem FE{P:Program}{w:World}{K:PySem.W.Frag}{elts:List Expr}{kx:Nat}{pos:Pos}{z ti to t1 t2 a1 a2:Addr}(k1 k2:SK)(D:BI z ti to t1 t2 a1 a2):
 Turn P w K (.Tuple elts kx pos) (Nz K k1 k2 a1 a2) [z,ti,to,t1,t2] z (MZ z ti to t1 t2 a1 a2 k1 k2) where
 mem:=by simp
 obj:=fun i h st b hb=>by
  obtain⟨Z,pI,⟨a,b',pO⟩,i1,i2⟩:=st
  simp only[List.mem_cons,List.not_mem_nil,or_false]at hb
  rcases hb with rfl|rfl|rfl|rfl|rfl
  · exact⟨_,Z,fun v e=>by cases e⟩
  · exact⟨_,pI,fun v e=>by cases e⟩
  · exact⟨_,pO,fun v e=>by cases e⟩
  · exact nA i1
  · exact nA i2
 keep:=fun i h h' st k=>by
  obtain⟨Z,pI,⟨a,b',pO⟩,i1,i2⟩:=st
  exact⟨k z (by simp) _ Z,k ti (by simp) _ pI,⟨a,b',k to (by simp) _ pO⟩,pL i1 (k t1 (by simp)),pL i2 (k t2 (by simp))⟩
 item:=by
  intro X hP hw hK hc i pins s σ H E I hf st hg
  subst hP hw hK
  obtain⟨Z,pI,⟨a,b',pO⟩,i1,i2⟩:=st
  obtain⟨xs,ys,x,y,q1,q2,ex,ey⟩:=hg
  obtain⟨us,r1,l1⟩:=kn I q1
  obtain⟨vs,r2,l2⟩:=kn I q2
  obtain⟨u,eu,ru⟩:=r1.get ex
  obtain⟨v,ev,rv⟩:=r2.get ey
  have m1:=D.a1
  have m2:=D.a2
  simp only[List.mem_cons,not_or,List.not_mem_nil,not_false_eq_true,and_true]at m1 m2
  obtain⟨⟨n1,n2,n3,n4⟩,⟨n5,n6,n7⟩,⟨n8,n9⟩,n10⟩:=D.n
  have tz:s.TypeIs (.ref z) "zip":=⟨_,Z,rfl⟩
  unfold pyNext
  refine wpAny_bind (wpAny_attempt (wpAny_callSpecial?_slot (name:=Str.ofString "__next__") tz F.slot_zip_next (wpAny_call_entry F.slot_zip_next tz F.entry_zip_next (ET D (nc k1 t1 a1 m1.2.2.2.1 us.toArray) (nc k2 t2 a2 m2.2.2.2.2 vs.toArray) Z pI pO ⟨i1,l1⟩ ⟨i2,l2⟩ (x:=u) (y:=v) (by simpa using eu) (by simpa using ev) fun k Z2 pO2 j1 j2 pT szk kp=>wpAny_pure ⟨_,rfl,?_⟩) (F.args_zip_next_1 _))))
  refine wpAny_letOwnedTupleGo_zip (s:={s with heap:=k}) Z2 fun k' Z3 b3=>?_
  have hT:s.heap.objs.size≠z:=Nat.ne_of_gt (Heap.lt_size Z)
  have kp3:∀b o,b∉[z,ti,to,t1,t2]→s.heap.get? b=some o→k'.get? b=some o:=fun b o hb e=>by
   simp only[List.mem_cons,not_or,List.not_mem_nil,not_false_eq_true,and_true]at hb
   exact b3.extBut _ _ hb.1 (kp b o hb.1 hb.2.2.1 hb.2.2.2.1 hb.2.2.2.2 e)
  refine⟨.ref s.heap.objs.size,upd H s.heap.objs.size (.tup [x,y]),Hj (s:=s) (tk:=s.toks) I hf kp3 (Nat.le_refl _) ?_,rfl,⟨s.heap.objs.size,x,y,I.aI.fresh (Nat.le_refl _),rfl,rfl,?_,?_⟩,?_,?_⟩
  · refine⟨Nat.le_of_ble_eq_true rfl,[u,v],.cons ru (.cons rv .nil),?_⟩
    exact⟨_,b3.extBut _ _ hT pT,rfl,_,rfl⟩
  · intro xs' q'
    rw[vX I q' q1];exact ex
  · intro ys' q'
    rw[vX I q' q2];exact ey
  · refine⟨Z3,b3.extBut _ _ n1 (kp _ _ n1 n5 n6 n7 pI),⟨_,_,b3.extBut _ _ n2 pO2⟩,pL j1.1 fun o e=>b3.extBut _ _ n3 e,pL j2.1 fun o e=>b3.extBut _ _ n4 e⟩
  · intro b hb
    have:b≠s.heap.objs.size:=by
     obtain⟨o,e,_⟩:∃o,s.heap.get? b=some o∧True:=by
      simp only[List.mem_cons,List.not_mem_nil,or_false]at hb
      rcases hb with rfl|rfl|rfl|rfl|rfl
      · exact⟨_,Z,trivial⟩
      · exact⟨_,pI,trivial⟩
      · exact⟨_,pO,trivial⟩
      · obtain⟨o,e,_⟩:=nA i1;exact⟨o,e,trivial⟩
      · obtain⟨o,e,_⟩:=nA i2;exact⟨o,e,trivial⟩
     exact Nat.ne_of_lt (Heap.lt_size e)
    rw[aQ this]
    exact(hf b hb).1
 done:=by
  intro X hP hw hK hc i pins s σ H E I hf st hg
  subst hP hw hK
  obtain⟨Z,pI,⟨a,b',pO⟩,i1,i2⟩:=st
  obtain⟨xs,ys,q1,q2,he⟩:=hg
  obtain⟨us,r1,l1⟩:=kn I q1
  obtain⟨vs,r2,l2⟩:=kn I q2
  have e1:=r1.length
  have e2:=r2.length
  have m1:=D.a1
  have m2:=D.a2
  simp only[List.mem_cons,not_or,List.not_mem_nil,not_false_eq_true,and_true]at m1 m2
  have tz:s.TypeIs (.ref z) "zip":=⟨_,Z,rfl⟩
  unfold pyNext
  refine wpAny_bind (wpAny_attempt (wpAny_callSpecial?_slot (name:=Str.ofString "__next__") tz F.slot_zip_next (wpAny_call_entry F.slot_zip_next tz F.entry_zip_next (Fb (I.ok.hd hc) D (nc k1 t1 a1 m1.2.2.2.1 us.toArray) (nc k2 t2 a2 m2.2.2.2.2 vs.toArray) Z pI pO ⟨i1,l1⟩ ⟨i2,l2⟩ ?_ fun k e kp hx=>?_) (F.args_zip_next_1 _))))
  · rcases he with h|h
    · left;simp;omega
    · right;simp;omega
  · obtain⟨o,ho,hc2⟩:=hx
    refine wpAny_bind (wpAny_isInstance (T:="StopIteration") (b:=true) ⟨o,ho,hc2⟩ isSubtype_stop ?_)
    refine wpAny_pure ⟨rfl,Gv (s:=s) (tk:=s.toks) I hf fun b o hb e=>?_⟩
    simp only[List.mem_cons,not_or,List.not_mem_nil,not_false_eq_true,and_true]at hb
    exact kp b o hb.1 hb.2.2.1 hb.2.2.2.1 hb.2.2.2.2 e
 self:=fun _ _ _ _ _ st h=>wpAny_pyIter_zip st.1 h
end L3
namespace L3
open PySem L2
open PySem.Spec hiding items?
open PyProof.Rows hiding St
noncomputable abbrev GB(h:Heap)(k1:SK)(a1:Addr):Heap:=h.push (zT k1 a1)
noncomputable abbrev Hl(h:Heap)(k1 k2:SK)(a1 a2:Addr):Heap:=(GB h k1 a1).push (zT k2 a2)
noncomputable abbrev GF(h:Heap)(k1 k2:SK)(a1 a2:Addr):Heap:=(Hl h k1 k2 a1 a2).push {cls:= .type "tuple",data:= .seq #[.ref h.objs.size,.ref (GB h k1 a1).objs.size]}
noncomputable abbrev GO(h:Heap)(k1 k2:SK)(a1 a2:Addr):Heap:=(GF h k1 k2 a1 a2).push {cls:= .type "tuple",data:= .seq #[.none,.none]}
noncomputable abbrev BP(h:Heap)(k1 k2:SK)(a1 a2:Addr):Heap:=(GO h k1 k2 a1 a2).push {cls:= .type "zip",data:= .fields #[.none,.bool false,.bool false,.ref (Hl h k1 k2 a1 a2).objs.size,.ref (GF h k1 k2 a1 a2).objs.size]}
theorem Ex(k1 k2:SK)(a1 a2:Addr)(us vs:Array Value):Meets (Builtin.«zip.__new__» ⟨[.type "zip",.ref a1,.ref a2],[]⟩) (fun _ R s=>mm k1 s.heap a1 us∧mm k2 s.heap a2 vs∧
 R (.ok (.ret (.ref (GO s.heap k1 k2 a1 a2).objs.size))) {s with heap:=BP s.heap k1 k2 a1 a2}):=
 .of_wp fun P w A R s h=>by
  obtain⟨hp,g,d,tk,os⟩:=s
  obtain⟨c1,c2,h⟩:=h
  have hsub:=sub_zip
  have L1:mm k1 (Shared.heap ⟨hp,g,d,tk,os⟩) a1 us:=c1
  have L2:mm k2 (Shared.heap ⟨hp.push (zT k1 a1),g,d,tk,os⟩) a2 vs:=mm.push c2 _
  wp_walk using D_ L1,D_ L2
  exact⟨_,rfl,h⟩
theorem F5{P:Program}{w:World}{A:Around}{s:Shared}{E:Value→Shared→Prop}{k1 k2:SK}{a1 a2:Addr}{us vs:Array Value}{Q:Value→Shared→Prop}(c1:mm k1 s.heap a1 us)(c2:mm k2 s.heap a2 vs)
 (q:∀g n,n=s.heap.objs.size→IsZip g (n+4) (n+2) (n+3) .none→IsPair g (n+2) (.ref n) (.ref (n+1))→IsPair g (n+3) .none .none→qK k1 n a1 0 g→qK k2 (n+1) a2 0 g→(∀c o,s.heap.get? c=some o→g.get? c=some o)→Q (.ref (n+4)) {s with heap:=g}):
 wpAny (model P w) A (call (.type "zip") [.ref a1,.ref a2]) Q E s:=by
 refine callType_new F.called_zip (by decide) (F.typeCall_zip_2 _ _) (F.newCall_zip_2 _ _) (fun ob=>F.args_object_init_3 ob _ _) F.entry_zip_new (Ex k1 k2 a1 a2 us vs) ⟨c1,c2,?_⟩
 have y1:(GB s.heap k1 a1).objs.size=s.heap.objs.size+1:=Heap.size_push ..
 have y2:(Hl s.heap k1 k2 a1 a2).objs.size=s.heap.objs.size+2:=by rw[Heap.size_push,y1]
 have y3:(GF s.heap k1 k2 a1 a2).objs.size=s.heap.objs.size+3:=by rw[Heap.size_push,y2]
 have y4:(GO s.heap k1 k2 a1 a2).objs.size=s.heap.objs.size+4:=by rw[Heap.size_push,y3]
 have e5:(BP s.heap k1 k2 a1 a2).get? (GO s.heap k1 k2 a1 a2).objs.size=some _:=Heap.get?_push_size _ rfl
 have e4:(BP s.heap k1 k2 a1 a2).get? (GF s.heap k1 k2 a1 a2).objs.size=some _:=Heap.get?_push_of_some _ (Heap.get?_push_size _ rfl)
 have e3:(BP s.heap k1 k2 a1 a2).get? (Hl s.heap k1 k2 a1 a2).objs.size=some _:=Heap.get?_push_of_some _ (Heap.get?_push_of_some _ (Heap.get?_push_size _ rfl))
 have e2:(BP s.heap k1 k2 a1 a2).get? (GB s.heap k1 a1).objs.size=some (zT k2 a2):=Heap.get?_push_of_some _ (Heap.get?_push_of_some _ (Heap.get?_push_of_some _ (Heap.get?_push_size _ (by cases k2<;>rfl))))
 have e1:(BP s.heap k1 k2 a1 a2).get? s.heap.objs.size=some (zT k1 a1):=Heap.get?_push_of_some _ (Heap.get?_push_of_some _ (Heap.get?_push_of_some _ (Heap.get?_push_of_some _ (Heap.get?_push_size _ (by cases k1<;>rfl)))))
 show _∧_
 rw[y2,y3,y4]at e5
 rw[y1,y2]at e3
 rw[y3]at e4
 rw[y1]at e2
 rw[y4]
 exact⟨⟨_,e5,rfl⟩,q _ _ rfl e5 e3 e4 (BQ (h:=s.heap) e1) (BQ (h:=s.heap) e2) fun c o x=>Heap.get?_push_of_some _ (Heap.get?_push_of_some _ (Heap.get?_push_of_some _ (Heap.get?_push_of_some _ (Heap.get?_push_of_some _ x))))⟩
noncomputable def Gw:D→SK
 | .tup _=> .t
 |_=> .l
noncomputable def Eh(k:SK)(G:Hp)(a:Addr)(vs:List V):Prop:=match k with
 | .l=>Rd G a (.lst vs)
 | .t=>G a=some (.tup vs)
theorem jN{K:PySem.W.Frag}{k:SK}{G F H:Hp}(P:cm G F H){a:Addr}{vs:List V}(h:Eh k G a vs):pA k K H a vs:=by
 cases k
 · exact .inl (g6 P h)
 · exact iX.of (P.get h)
theorem nt{α:List (Option Addr)}{H:Hp}{st:af}{d:D}{v:V}{xs:List D}(S:aY α st H)(r:Rep α H d v)(e:items? st d=some xs):∃p vs,v= .ref p∧aJ α H xs vs∧Eh (Gw d) H p vs:=by
 cases d<;>try(cases e;done)
 · unfold items? at e
   simp only at e
   split at e
   · rename_i ys q
     cases e
     obtain⟨a,ea,vs,h1,h2⟩:=S.fv q
     exact⟨a,vs,dU ea r,h2,Rd.of h1⟩
   · cases e
 · cases e
   unfold Rep at r
   obtain⟨a,vs,rfl,_,h1,h2⟩:=r
   exact⟨a,vs,rfl,h2,h1⟩
 · cases e
   unfold Rep at r
   obtain⟨a,vs,rfl,_,h1,h2⟩:=r
   exact⟨a,vs,rfl,h2,h1⟩
noncomputable def g7(xs ys:List D):List D:=(xs.zip ys).map fun p=> .tup [p.1,p.2]
theorem nJ{xs ys:List D}:(g7 xs ys).length=min xs.length ys.length:=by unfold g7;simp
theorem uN{xs ys:List D}{n:Nat}{d:D}(e:(g7 xs ys)[n]?=some d):∃x y,xs[n]?=some x∧ys[n]?=some y∧d= .tup [x,y]:=by
 unfold g7 at e
 rw[List.getElem?_map]at e
 cases q:(xs.zip ys)[n]? with
 |none=>rw[q]at e;cases e
 |some p=>
  rw[q]at e
  cases e
  rw[List.getElem?_zip_eq_some]at q
  exact⟨p.1,p.2,q.1,q.2,rfl⟩
theorem JK{K:PySem.W.Frag}{k1 k2:SK}{a1 a2:Addr}{α:List (Option Addr)}{G:Hp}{ok:af→Prop}{xs ys:List D}
 (h:∀α' G' st',Step α G α' G'→aY α' st' G'→ok st'→∃vs ws,Eh k1 G' a1 vs∧Eh k2 G' a2 ws∧aJ α' G' xs vs∧aJ α' G' ys ws):wN (Nz K k1 k2 a1 a2) α G ok (g7 xs ys) where
 stop:=fun n α' G' F' H' st' s P S o hn=>by
  obtain⟨vs,ws,h1,h2,r1,r2⟩:=h α' G' st' s S o
  rw[nJ]at hn
  refine⟨vs,ws,jN P h1,jN P h2,?_⟩
  have:=r1.length
  have:=r2.length
  omega
 go:=fun n d α' G' F' H' st' s P S o hn=>by
  obtain⟨vs,ws,h1,h2,r1,r2⟩:=h α' G' st' s S o
  obtain⟨x,y,ex,ey,rfl⟩:=uN hn
  obtain⟨v,ev,_⟩:=r1.get ex
  obtain⟨u,eu,_⟩:=r2.get ey
  exact⟨vs,ws,v,u,jN P h1,jN P h2,ev,eu⟩
 pE:=fun n d α' G' F' H' st' x H'' s P S o hn y=>by
  obtain⟨vs,ws,h1,h2,r1,r2⟩:=h α' G' st' s S o
  obtain⟨c,e,ec,ee,rfl⟩:=uN hn
  obtain⟨T,v,u,hT,rfl,rfl,y1,y2⟩:=y
  obtain⟨v',ev,rv⟩:=r1.get ec
  obtain⟨u',eu,ru⟩:=r2.get ee
  rw[y1 vs (jN P h1)]at ev
  rw[y2 ws (jN P h2)]at eu
  cases ev
  cases eu
  have hg:=(P.none hT).1
  refine⟨upd G' T (.tup [v,u]),Step.laid hg,P.laid hT,S.laid hg,?_⟩
  unfold Rep
  refine⟨T,[v,u],rfl,S.kl hg,a5,?_⟩
  unfold aJ
  refine⟨v,[u],rfl,rv.step (Step.laid hg),?_⟩
  unfold aJ
  exact⟨u,[],rfl,ru.step (Step.laid hg),by unfold aJ;rfl⟩
noncomputable def E9(ds:List D)(st1:af)(K:List D→(af→Prop)→af→Prop):Prop:=match ds with
 | [x,y]=>(match items? st1 x,items? st1 y with
   |some xs,some ys=>K (g7 xs ys) (fun st'=>items? st' x=some xs∧items? st' y=some ys) st1
   |_,_=>False)
 |_=>False
@[irreducible] noncomputable def vi:List D→af→(List D→(af→Prop)→af→Prop)→Prop:=E9
noncomputable def rk(t:DA):DI:=fun σ st K=>t σ st fun ds st1=>vi ds st1 K
theorem Il{n a1 a2:Nat}(h1:a1<n)(h2:a2<n):BI (n+4) (n+2) (n+3) n (n+1) a1 a2:=by
 have e0:([n+4,n+2,n+3,n,n+1]:List Nat).Nodup:=by
  simp only[List.nodup_cons,List.mem_cons,not_or,List.not_mem_nil,not_false_eq_true,and_true,List.nodup_nil]
  omega
 have e1:∀a:Nat,a<n→a∉([n+4,n+2,n+3,n,n+1]:List Nat):=fun a ha=>by
  simp only[List.mem_cons,not_or,List.not_mem_nil,not_false_eq_true,and_true]
  omega
 exact⟨e0,e1 a1 h1,e1 a2 h2⟩
theorem KL{X:Cx}{a b:Expr}{elts:List Expr}{kx:Nat}{tpos p pos:Pos}{t:DA}(hg:Gl X "zip")(hm:X.mg "zip"=none)(ha:PA X [a,b] (LA t))(hs:starEach [a,b] X.env=[(false,eval a X.env),(false,eval b X.env)])(hs2:starEach [b] X.env=[(false,eval b X.env)]):
 PI X (.Tuple elts kx tpos) (.Call (.Name "zip" p) [a,b] [] pos) (LI (rk t)):=by
 intro pins s σ H R I h
 obtain⟨α,σd,st,K,G,F,P,RS,S,t,k⟩:=h
 refine Call_ (l8 I hg hm boot_zip (PyProof.Rows.callWith_type1 (bZ (ha pos pins s σ H (fun vs H1=>∃ds α1 G1 st1,Step α G α1 G1∧cm G1 F H1∧aY α1 st1 G1∧aJ α1 G1 ds vs∧vi ds st1 K) I ⟨α,σd,st,_,G,F,P,RS,S,t,fun ds st1 q α1 G1 H1 vs s1 P1 S1 r1=>⟨ds,α1,G1,st1,s1,P1,S1,r1,q⟩⟩) fun us s1 ⟨vs,H1,I1,rv,ds,α1,G1,st1,w1,P1,S1,r1,q⟩=>?_) (by rw[hs,hs2]) (by rw[hs2];rfl)))
 unfold vi E9 at q
 split at q
 · rename_i x y
   split at q
   · rename_i xs ys ex ey
     obtain⟨v1,v2,rfl,q1,q2⟩:=lX r1 rfl
     obtain⟨p1,vs1,rfl,g1,c1⟩:=nt S1 q1 ex
     obtain⟨p2,vs2,rfl,g2,c2⟩:=nt S1 q2 ey
     obtain⟨u1,u2,rfl,ru1,ru2⟩:=vals2 rv
     cases ru1
     cases ru2
     obtain⟨its1,_,l1⟩:=kn I1 (jN P1 c1)
     obtain⟨its2,_,l2⟩:=kn I1 (jN P1 c2)
     refine F5 l1 l2 fun g n hn Z pI pO i1 i2 kp=>?_
     obtain⟨o1,eo1⟩:=l1.some
     obtain⟨o2,eo2⟩:=l2.some
     refine wpAny_pyIter_zip (s:={s1 with heap:=g}) Z ?_
     refine⟨n+4,[n+4,n+2,n+3,n,n+1],_,_,H1,rfl,I1.kept (t':=s1.toks) kp,FE (Gw x) (Gw y) (Il (by rw[hn];exact Heap.lt_size eo1) (by rw[hn];exact Heap.lt_size eo2)),⟨Z,pI,⟨_,_,pO⟩,i1,i2⟩,fun b hb=>?_,?_⟩
     · have hb':s1.heap.objs.size≤b:=by
        simp only[List.mem_cons,List.not_mem_nil,or_false]at hb
        rcases hb with rfl|rfl|rfl|rfl|rfl<;>(rw[←hn];first|exact Nat.le_refl _|exact Nat.le_add_right _ _)
       exact I1.wg hb' (I1.aI.fresh hb')
     · refine k _ _ st1 q _ α1 G1 H1 w1 P1 S1 (JK fun α' G' st' s' S' o=>?_)
       obtain⟨p1',ws1,e1,f1,d1⟩:=nt S' (q1.step s') o.1
       obtain⟨p2',ws2,e2,f2,d2⟩:=nt S' (q2.step s') o.2
       cases e1
       cases e2
       exact⟨ws1,ws2,d1,d2,f1,f2⟩
   · exact q.elim
 · exact q.elim
theorem pw{st:af}{x y:D}{xs ys:List D}{K:List D→(af→Prop)→af→Prop}(ex:items? st x=some xs)(ey:items? st y=some ys)(k:∀ok:af→Prop,(∀st',items? st' x=some xs→items? st' y=some ys→ok st')→K (g7 xs ys) ok st):vi [x,y] st K:=by
 unfold vi E9
 simp only[ex,ey]
 exact k _ fun st' h1 h2=>⟨h1,h2⟩
theorem sI{X:Cx}{a b:Expr}{elts:List Expr}{kx:Nat}{tpos p pos:Pos}{ar:DA}(hg:Gl X "zip")(hm:X.mg "zip"=none)(ha:JA X [a,b] ar)(hs:notStar a=true:=by rfl)(hs2:notStar b=true:=by rfl):JI X (.Tuple elts kx tpos) (.Call (.Name "zip" p) [a,b] [] pos) (rk ar):=by
 unfold JI;unfold JA at ha;exact KL hg hm ha (by rw[bQ hs,bQ hs2];rfl) (bQ hs2)
end L3
namespace L3
open PySem L2
open PySem.Spec hiding items?
open PyProof.Rows hiding St
section
variable {X:Cx}
end
end L3
namespace L3
open PySem L2
open PySem.Spec hiding items?
open PyProof.Rows hiding St
section
variable {X:Cx}{pos:Pos}
theorem GX{α:List (Option Addr)}{H:Hp}{ds:List D}{xs:List V}{d e f:D}(r:aJ α H ds xs)(q:ds=[d,e,f]):∃v u t,xs=[v,u,t]∧Rep α H d v∧Rep α H e u∧Rep α H f t:=by
 subst q
 unfold aJ at r
 obtain⟨v,q,rfl,h1,h2⟩:=r
 obtain⟨u,t,rfl,h3,h4⟩:=lX h2 rfl
 exact⟨v,u,t,rfl,h1,h3,h4⟩
noncomputable def sJ(i j k:Nat):e7:=fun d σ=>match d with| .tup [x,y,z]=>some (((σ.set i (some x)).set j (some y)).set k (some z))|_=>none
theorem Fz{tg:Expr}{i j k:Nat}(h:PG X tg (C0 X.K 3 (iL (fu i) (iL (fu j) (iL (fu k) wD))))):PG X tg (LG (sJ i j k)):=PG.imp h fun v σ H Q ⟨α,σd,st,d,K,G,F,P,R,S,r,⟨σ',e,q⟩,kk⟩=>by
 unfold sJ at e
 split at e
 · rename_i x y z
   cases e
   unfold Rep at r
   obtain⟨a,vs,rfl,na,h1,h2⟩:=r
   obtain⟨v1,v2,v3,rfl,r1,r2,r3⟩:=GX h2 rfl
   exact⟨a,_,rfl,.of (P.get h1),rfl,v1,_,rfl,v2,_,rfl,v3,_,rfl,rfl,kk.here P q (((R.set i r1).set j r2).set k r3) S⟩
 · cases e
theorem MM{i j k n:Nat}{x y z:Str}{px py pz:Pos}(hc:X.calm=true)(hN:X.N.Nodup)(hx:Loc X.env.scope x)(hf:X.fn x=true∨X.env.scope.names.lookup x=some .local)(hy:Loc X.env.scope y)(hg:X.fn y=true∨X.env.scope.names.lookup y=some .local)(hz:Loc X.env.scope z)(hh:X.fn z=true∨X.env.scope.names.lookup z=some .local)
 (hi:X.N[i]?=some x:=by rfl) (hj:X.N[j]?=some y:=by rfl) (hk:X.N[k]?=some z:=by rfl):JG X (.Tuple [.Name x px,.Name y py,.Name z pz] n pos) (sJ i j k):=by
 unfold JG;exact Fz (vw hc (gf (jf hN hi hx hf) (gf (jf hN hj hy hg) (gf (jf hN hk hz hh) si))))
end
end L3
namespace L3
open PySem L2 PySem.SeqAt
open PySem.Spec hiding items?
open PyProof.Rows hiding St
section
variable {X:Cx}{pins:List (Addr×Obj)}{σ:L2.St}{H:Hp}{s:Shared}{α:List (Option Addr)}
theorem A8{A:Around}{d e:D}{x y:V}{u v:Value}(hd:xl d=true)(he:xl e=true)(rd:Rep α H d x)(re:Rep α H e y)(rx:RelV x u)(ry:RelV y v):RcNeAt A s u v (!cy d e):=by
 cases d<;>cases e<;>try(first|(cases hd;done)|(cases he;done))
 all_goals(unfold Rep at rd re;subst rd re)
 all_goals(first|(obtain⟨t,rfl⟩:=rx;obtain⟨t',rfl⟩:=ry)|(obtain⟨t,rfl⟩:=rx;cases ry)|(cases rx;obtain⟨t,rfl⟩:=ry)|(cases rx;cases ry))
 all_goals unfold cy
 · exact RcNeAt.none_none
 · exact RcNeAt.none_bool _
 · exact RcNeAt.none_int _ _
 · exact RcNeAt.none_str _ _
 · exact RcNeAt.bool_none _
 · exact RcNeAt.bool_bool _ _
 · exact RcNeAt.bool_int _ _ _
 · exact RcNeAt.bool_str _ _ _
 · exact RcNeAt.int_none _ _
 · exact RcNeAt.int_bool _ _ _
 · exact RcNeAt.int_int _ _ _ _
 · exact RcNeAt.int_str _ _ _ _
 · exact RcNeAt.str_none _ _
 · exact RcNeAt.str_bool _ _ _
 · exact RcNeAt.str_int _ _ _ _
 · exact RcNeAt.str_str _ _ _ _
theorem w4(I:Inv X pins σ H s){A:Around}{xs:List D}{e:D}{x y:V}{u v:Value}(he:xl e=true)(rd:Rep α H (.lst xs) x)(re:Rep α H e y)(rx:RelV x u)(ry:RelV y v)(hu:A.units<cLine):
 RcNeAt A s u v (!cy (.lst xs) e)∧RcNeAt A s v u (!cy e (.lst xs)):=by
 obtain⟨a,vs,au,rfl,_,_,hl⟩:=lst_is I rd rx
 cases e<;>try(cases he;done)
 all_goals(unfold Rep at re;subst re)
 all_goals(first|(obtain⟨t,rfl⟩:=ry)|(cases ry))
 all_goals unfold cy
 · exact⟨RcNeAt.list_none hl hu,RcNeAt.none_list hl hu⟩
 · exact⟨RcNeAt.list_bool _ hl hu,RcNeAt.bool_list _ hl hu⟩
 · exact⟨RcNeAt.list_int _ _ hl hu,RcNeAt.int_list _ _ hl hu⟩
 · exact⟨RcNeAt.list_str _ _ hl hu,RcNeAt.str_list _ _ hl hu⟩
theorem xY(I:Inv X pins σ H s){A:Around}{xs:List D}{e:D}{x y:V}{u v:Value}(he:xl e=true)(rd:Rep α H (.tup xs) x)(re:Rep α H e y)(rx:RelV x u)(ry:RelV y v)(hu:A.units<cLine):
 RcNeAt A s u v (!cy (.tup xs) e)∧RcNeAt A s v u (!cy e (.tup xs)):=by
 obtain⟨a,vs,au,rfl,_,_,hl⟩:=tup_is I rd rx
 cases e<;>try(cases he;done)
 all_goals(unfold Rep at re;subst re)
 all_goals(first|(obtain⟨t,rfl⟩:=ry)|(cases ry))
 all_goals unfold cy
 · exact⟨RcNeAt.tuple_none hl hu,RcNeAt.none_tuple hl hu⟩
 · exact⟨RcNeAt.tuple_bool _ hl hu,RcNeAt.bool_tuple _ hl hu⟩
 · exact⟨RcNeAt.tuple_int _ _ hl hu,RcNeAt.int_tuple _ _ hl hu⟩
 · exact⟨RcNeAt.tuple_str _ _ hl hu,RcNeAt.str_tuple _ _ hl hu⟩
theorem LY(I:Inv X pins σ H s)(n:Nat)(A:Around)(d e:D)(x y:V)(u v:Value)(hd:pl n d=true)(he:pl n e=true)(rd:Rep α H d x)(re:Rep α H e y)(rx:RelV x u)(ry:RelV y v)(hu:A.units+n<cLine):RcNeAt A s u v (!cy d e):=by
 cases n with
 |zero=>
  refine A8 ?_ ?_ rd re rx ry
  · cases d<;>first|rfl|(cases hd)
  · cases e<;>first|rfl|(cases he)
 |succ n=>
  have hu0:A.units<cLine:=by omega
  have hin:A.in1.units+n<cLine:=by rw[Around.in1_units];omega
  cases d<;>try(cases hd;done)
  case lst xs=>
   cases e<;>try(cases he;done)
   case lst ys=>
    obtain⟨a,vs,au,rfl,r1,v1,l1⟩:=lst_is I rd rx
    obtain⟨b,ws,jts,rfl,r2,v2,l2⟩:=lst_is I re ry
    have e1:=r1.length
    have e2:=v1.length
    have e3:=r2.length
    have e4:=v2.length
    unfold cy
    by_cases hlen:xs.length=ys.length
    · rw[nS hlen]
      have hsz:au.toArray.size=jts.toArray.size:=by simp only[List.size_toArray];omega
      have hx:xs.length=au.toArray.size:=by simp only[List.size_toArray];omega
      rw[hx]
      refine RcNeAt.lists l1 l2 hsz hu0 fun j h1 h2=>?_
      obtain⟨p,_,q1,q2⟩:=ke r1 v1 j (by simpa using h1)
      obtain⟨p',_,q1',q2'⟩:=ke r2 v2 j (by simpa using h2)
      exact(yx I n A.in1 _ _ p p' _ _ (iW (by unfold pl at hd;exact hd) j) (iW (by unfold pl at he;exact he) j) q1 q1' (by simpa using q2) (by simpa using q2') hin).2
    · rw[jW hlen]
      exact RcNeAt.lists_lengths l1 l2 (by simp only[List.size_toArray,bne_iff_ne,ne_eq];omega) hu0
   case tup ys=>
    obtain⟨a,vs,au,rfl,r1,v1,l1⟩:=lst_is I rd rx
    obtain⟨b,ws,jts,rfl,r2,v2,l2⟩:=tup_is I re ry
    unfold cy
    exact RcNeAt.list_tuple l1 l2 hu0
   all_goals exact(w4 I rfl rd re rx ry hu0).1
  case tup xs=>
   cases e<;>try(cases he;done)
   case tup ys=>
    obtain⟨a,vs,au,rfl,r1,v1,l1⟩:=tup_is I rd rx
    obtain⟨b,ws,jts,rfl,r2,v2,l2⟩:=tup_is I re ry
    have e1:=r1.length
    have e2:=v1.length
    have e3:=r2.length
    have e4:=v2.length
    unfold cy
    have key:=RcNeAt.tuples (e:=fun j=>cy (xs.getD j .aA) (ys.getD j .aA)) l1 l2 hu0 fun j h1 h2=>by
     obtain⟨p,_,q1,q2⟩:=ke r1 v1 j (by simpa using h1)
     obtain⟨p',_,q1',q2'⟩:=ke r2 v2 j (by simpa using h2)
     exact(yx I n A.in1 _ _ p p' _ _ (iW (by unfold pl at hd;exact hd) j) (iW (by unfold pl at he;exact he) j) q1 q1' (by simpa using q2) (by simpa using q2') hin).2
    by_cases hlen:xs.length=ys.length
    · rw[nS hlen]
      have hsz:au.toArray.size=jts.toArray.size:=by simp only[List.size_toArray];omega
      have hx:xs.length=au.toArray.size:=by simp only[List.size_toArray];omega
      rw[hsz,Nat.min_self,beq_self_eq_true,Bool.and_true,←hsz,←hx]at key
      exact key
    · rw[jW hlen]
      have hne:(au.toArray.size==jts.toArray.size)=false:=by simp only[List.size_toArray,beq_eq_false_iff_ne,ne_eq];omega
      rw[hne,Bool.and_false]at key
      exact key
   case lst ys=>
    obtain⟨a,vs,au,rfl,r1,v1,l1⟩:=tup_is I rd rx
    obtain⟨b,ws,jts,rfl,r2,v2,l2⟩:=lst_is I re ry
    unfold cy
    exact RcNeAt.tuple_list l1 l2 hu0
   all_goals exact(xY I rfl rd re rx ry hu0).1
  all_goals
   cases e<;>try(cases he;done)
   case lst ys=>exact(w4 I rfl re rd ry rx hu0).2
   case tup ys=>exact(xY I rfl re rd ry rx hu0).2
   all_goals exact A8 rfl rfl rd re rx ry
noncomputable def JJ:cX:=fun x y st K=>pl 40 x=true∧pl 40 y=true∧K (.bl (!cy x y)) st
theorem ME{k:Nat}(hr:cQ k X.A):bR X (compareOp .NotEq) (LR JJ):=fun pins s σ H x y v u Q I rx ry ⟨α,d,e,st,K,G,F',P,r1,r2,S,q,k⟩=>by
 have hu:=hr.units
 exact LY I 40 X.A d e x y v u q.1 q.2.1 (r1.mono P.same) (r2.mono P.same) rx ry (by omega) _ _ _ _ ⟨.bl (!cy d e),H,I,rfl,k.here P q.2.2 S (by unfold Rep;rfl)⟩
@[irreducible] noncomputable def wq:cX:=JJ
theorem Mz{k:Nat}(hr:cQ k X.A):bR X (compareOp .NotEq) (LR wq):=by unfold wq;exact ME hr
end
theorem LV{st:af}{K:DK}{d e:D}(h1:pl 40 d=true)(h2:pl 40 e=true)(k:K (.bl (!cy d e)) st):wq d e st K:=by unfold wq;exact⟨h1,h2,k⟩
theorem FQ{st:af}{K:DK}{d:D}(h:pl 40 d=true)(k:K (.bl false) st):wq d d st K:=LV h h (by rw[uz 40 d h];exact k)
theorem mn{st:af}{n:Nat}{xs:List D}(h:items? st (.ref n)=some xs):st[n]?=some (.lst xs):=by
 unfold items? at h
 simp only at h
 split at h
 · rename_i q;cases h;exact q
 · cases h
theorem HF{st:af}{d:D}{xs:List D}{K:List D→(af→Prop)→af→Prop}(h:items? st d=some xs)(k:∀ok:af→Prop,(∀st',items? st' d=some xs→ok st')→K xs ok st):o9 d st K:=by
 cases d with
 |lst ys=>cases h;exact wI (k _ fun _ _=>trivial)
 |tup ys=>cases h;exact ip (k _ fun _ _=>trivial)
 |ref n=>
  have e:=mn h
  unfold o9 wL
  simp only[e]
  exact k _ fun st' h'=>mn h'
 |_=>cases h
theorem ql{env:Env}:∀(l:List (Str×NameKind)) (x:Str),(l.lookup x=some .cell∨l.lookup x=some .free)→
 ((l.map fun(n,k)=>if(k== .free&&env.scope.kind== .function&&env.kindOf n==some .cell)then(n,.cell)else(n,k)).lookup x=some .cell∨(l.map fun(n,k)=>if(k== .free&&env.scope.kind== .function&&env.kindOf n==some .cell)then(n,.cell)else(n,k)).lookup x=some .free)
 | [],x,h=>by simp at h
 |(n,k)::l,x,h=>by
  rw[List.map_cons]
  dsimp only
  by_cases hx:x=n
  · subst hx
    rw[List.lookup_cons_self]at h
    split
    · rw[List.lookup_cons_self];exact .inl rfl
    · rw[List.lookup_cons_self];exact h
  · have hb:(x==n)=false:=by simpa using hx
    have e1:List.lookup x ((n,k)::l)=List.lookup x l:=by rw[List.lookup_cons,hb]
    rw[e1]at h
    have ih:=ql (env:=env) l x h
    split
    · rw[List.lookup_cons,hb];exact ih
    · rw[List.lookup_cons,hb];exact ih
theorem bj.Gq{X0:Cx}{scope0 scope:Scope}{Nc0 Nc:List Str}{C:Addr}{s:Shared}{H:Hp}{ex:List Addr}{fr:List (Option Nat)}(h:vE scope0 Nc0 scope Nc fr=true):bj (fb X0 scope0 Nc0 C s H ex) scope Nc fr:=by
 unfold vE at h
 simp only[Bool.and_eq_true]at h
 obtain⟨⟨⟨⟨⟨h1,h2⟩,h3⟩,h4⟩,h5⟩,h6⟩:=h
 refine⟨by simpa using h1,fun x hx hk=>?_,fun x hx hk=>?_,fun x hx hk=>?_,by simpa using h5,fun i j x e1 e2=>?_⟩
 · have:=List.all_eq_true.mp h2 x hx
   rw[hk]at this
   simpa using this
 · have:=List.all_eq_true.mp h3 x hx
   rw[hk]at this
   simpa using this
 · have:=List.all_eq_true.mp h4 x hx
   rw[hk]at this
   have z:scope0.names.lookup x.1=some .cell∨scope0.names.lookup x.1=some .free:=by simpa using this
   exact ql _ _ z
 · have hi:i<fr.length:=(List.getElem?_eq_some_iff.mp e2).1
   have:=List.all_eq_true.mp h6 i (List.mem_range.mpr hi)
   rw[e1,e2]at this
   simp only[Bool.and_eq_true,Bool.or_eq_true,beq_iff_eq]at this
   exact⟨this.1.1,this.1.2,ql _ _ this.2⟩
end L3
namespace L3
open PySem L2
open PySem.Spec hiding items?
open PyProof.Rows hiding St
section
variable {X:Cx}
end
theorem Du{n:Nat}{d:D}(h:d∈dD 0 n):∃i:Nat,i<n∧d= .int (i:Int):=by
 unfold dD at h
 obtain⟨i,hi,rfl⟩:=List.mem_map.mp h
 rw[List.mem_range]at hi
 exact⟨i,hi,by rw[Int.zero_add]⟩
theorem E1{f:Nat→D}(n:Nat):(dD 0 n).map (fun d=>match d with| .int i=>f i.toNat|_=> .aA)=(List.range n).map f:=by
 unfold dD
 rw[List.map_map]
 refine List.map_congr_left fun i _=>?_
 show f ((0:Int)+(i:Int)).toNat=f i
 have:((0:Int)+(i:Int)).toNat=i:=by omega
 rw[this]
theorem kr{tg:e7}{te:DE}{σc:bM}{st:af}{K:List D→af→Prop}(f:Nat→D)(n:Nat)(hx:∀i:Nat,i<n→∀K',K' (f i) st→∃σ2,tg (.int (i:Int)) σc=some σ2∧te σ2 st K')(k:K ((List.range n).map f) st):cP tg bW te (fun _=>True) σc (dD 0 n) [] st K:=by
 refine comp_map (g:=fun d=>match d with| .int i=>f i.toNat|_=> .aA) trivial _ (fun d hd K' q=>?_) (by rw[E1];exact k)
 obtain⟨i,hi,rfl⟩:=Du hd
 exact hx i hi K' q
theorem iR{tg:e7}{body:DS}{E:mY}(n:Nat)(I:Nat→bM→af→Prop)(hend:∀σ st,I n σ st→E.nx σ st)
 (hstep:∀(j:Nat) σ st (rest:List D),j<n→I j σ st→(∀σ' st',I (j+1) σ' st'→iM tg body (fun _=>True) E rest σ' st')→∃σ1,tg (.int (j:Int)) σ=some σ1∧body {E with nx:=iM tg body (fun _=>True) E rest,ct:=iM tg body (fun _=>True) E rest,bk:=E.nx} σ1 st)
 {σ:bM} {st:af} (h0:I 0 σ st):iM tg body (fun _=>True) E (dD 0 n) σ st:=by
 refine ji (fun rest σ st=>∃j:Nat,j≤n∧rest=(List.range (n-j)).map (fun i=>D.int (((j+i:Nat):Int)))∧I j σ st) ?_ ?_ _ _ _ ⟨0,Nat.zero_le _,by unfold dD;simp,h0⟩
 · rintro σ st ⟨j,hj,hr,hI⟩
   have:n-j=0:=by
    cases q:n-j with
    |zero=>rfl
    |succ m=>rw[q,List.range_succ_eq_map]at hr;cases hr
   have hjn:j=n:=by omega
   subst hjn
   exact⟨trivial,hend σ st hI⟩
 · rintro d rest σ st ⟨j,hj,hr,hI⟩ next
   cases q:n-j with
   |zero=>rw[q]at hr;cases hr
   |succ m=>
    rw[q,List.range_succ_eq_map,List.map_cons,List.map_map]at hr
    simp only[List.cons.injEq]at hr
    obtain⟨rfl,hrest⟩:=hr
    refine⟨trivial,hstep j σ st rest (by omega) hI fun σ' st' h'=>next σ' st' ⟨j+1,by omega,?_,h'⟩⟩
    have:n-(j+1)=m:=by omega
    rw[this,hrest]
    refine List.map_congr_left fun i _=>?_
    show D.int (((j+(i+1):Nat):Int))=D.int (((j+1+i:Nat):Int))
    congr 2;omega
end L3
namespace L3
open PySem L2
open PySem.Spec hiding items?
open PyProof.Rows hiding St
noncomputable abbrev DM:=Nat→List D→af→DK→Prop
noncomputable def LiftM(r:DM)(rM:V→List V→Hp→VK→Prop):Prop:=∀(α:List (Option Addr)) (G F H:Hp) (st:af) (K:DK) (Q:VK) (n:Nat) (a:Addr) (ds:List D) (ws:List V),cm G F H→aY α st G→α[n]?=some (some a)→aJ α G ds ws→r n ds st K→LK α G F K Q→rM (.ref a) ws H Q
@[irreducible] noncomputable def jP(r:DM)(to:DE)(ta:DA):DE:=fun σ st K=>to σ st fun x st1=>match x with
 | .ref n=>(match st1[n]? with|some (.lst _)=>ta σ st1 fun ds st2=>(∃xs,st2[n]?=some (.lst xs))∧r n ds st2 K|_=>False)
 |_=>False
section
variable {X:Cx}
theorem LE.NU{r:DM}{rM:V→List V→Hp→VK→Prop}(L:LiftM r rM){to:DE}{ta:DA}{σ:L2.St}{H:Hp}{Q:VK}(h:LE (jP r to ta) σ H Q):K8 X.K "list" rM (LE to) (LA ta) σ H Q:=by
 obtain⟨α,σd,st,K,G,F,P,R,S,t,k⟩:=h
 unfold jP at t
 refine⟨α,σd,st,_,G,F,P,R,S,t,fun x st1 q α1 G1 H1 v s1 P1 S1 r1=>?_⟩
 cases x<;>try exact q.elim
 rename_i n
 simp only at q
 split at q
 · rename_i ys e
   obtain⟨p,ep,vs,h1,h2⟩:=S1.fv e
   have r1':=dU ep r1
   subst r1'
   refine⟨.inl ⟨rfl,vs,.inl (.of (P1.get h1))⟩,α1,σd,st1,_,G1,F,P1,R.step s1,S1,q,?_⟩
   rintro ds st2 ⟨⟨xs,e2⟩,q2⟩ α2 G2 H2 ws s2 P2 S2 r2
   obtain⟨p2,ep2,_⟩:=S2.fv e2
   have:p2=p:=by
    rcases s2.pre _ _ ep with z|z<;>(rw[z]at ep2;cases ep2)
    rfl
   subst this
   exact L α2 G2 F H2 st2 K Q n p2 ds ws P2 S2 ep2 r2 q2 ((k.at s1).at s2)
 · exact q.elim
theorem DP{r:DM}{rM:V→List V→Hp→VK→Prop}{name:Str}{id:String}(L:LiftM r rM)(slot:Slot "list" name id)(hty:typeOf (.builtin id)=pure (.type "method_descriptor"))(hm:K5 X id rM){o e:Expr}{es:List Expr}{to:DE}{ta:DA}{apos cpos:Pos}(ho:PE X o (LE to))(ha:PA X (e::es) (LA ta))
 (hbase:attributeBase o name X.env (eval o X.env)=eval o X.env) (hfew:((backTo cpos (starEach (e::es) X.env)).all (fun x=> !x.1)&&(backToKw cpos (keywordEach [] X.env)).all (fun x=>x.1.isSome)
   &&decide ((e::es).length+([]:List Keyword).length+(if([]:List Keyword).isEmpty then 0 else 1)<30))=true)
 (hline:(apos.endLine==cpos.line)=true) (hs:starEach (e::es) X.env=(false,eval e X.env)::starEach es X.env) (hplain:(backTo cpos (starEach es X.env)).any (·.1)=false):PE X (.Call (.Attribute o name apos) (e::es) [] cpos) (LE (jP r to ta)):=
 PE.imp (GW PySem.F.plainAttrs_list slot hty hm ho ha hbase hfew hline hs hplain) fun _ _ _ h=>LE.NU L h
noncomputable def pX:DM:=fun n ds st K=>match ds with
 | [.int i]=>(match st[n]? with|some (.lst xs)=>(-(2^63)≤i∧i<2^63)∧(match jA xs.length i with|some j=>(match xs[j]? with|some d=>K d (st.set n (.lst (xs.eraseIdx j)))|none=>False)|none=>False)|_=>False)
 |_=>False
theorem rG{A B:Type}{F:A→B→Prop}:∀ {xs:List A} {ys:List B} (i:Nat),Paired F xs ys→Paired F (xs.eraseIdx i) (ys.eraseIdx i)
 |_,_,_,.nil=> .nil
 |_,_,0,.cons _ t=>t
 |_,_,i+1,.cons r t=> .cons r (rG i t)
theorem Dw:LiftM pX Ej:=by
 intro α G F H st K Q n a ds ws P S ea rs q k
 unfold pX at q
 split at q
 · rename_i i
   split at q
   · rename_i xs e
     obtain⟨h63,q⟩:=q
     split at q
     · rename_i j ej
       split at q
       · rename_i d ed
         obtain⟨v,rfl,r1⟩:=iH rs rfl
         unfold Rep at r1
         subst r1
         obtain⟨a',ea',vs,h1,h2⟩:=S.fv e
         rw[ea]at ea';cases ea'
         obtain⟨y,ey,ry⟩:=h2.get ed
         have hm:some a∈α:=List.mem_of_getElem? ea
         refine⟨a,vs,i,j,y,rfl,rfl,P.get h1,h63.1,h63.2,by rw[←h2.length];exact(wB ej).1,ey,?_⟩
         refine k d _ q α (upd G a (.lst (vs.eraseIdx j))) _ y (Step.write hm) (P.write h1) ?_ (ry.step (Step.write hm))
         exact S.write ea ⟨vs.eraseIdx j,a5,(bg.mpr (rG j (bg.mp h2))).step (Step.write hm)⟩
       · exact q.elim
     · exact q.elim
   · exact q.elim
 · exact q.elim
theorem Dm{o e:Expr}{to te:DE}{apos cpos:Pos}(ho:JE X o to)(he:JE X e te)(hbase:attributeBase o "pop" X.env (eval o X.env)=eval o X.env:=by rfl)(hline:(apos.endLine==cpos.line)=true:=by rfl)(hs:notStar e=true:=by rfl):JE X (.Call (.Attribute o "pop" apos) [e] [] cpos) (jP pX to (ae te aj)):=by
 unfold JE at*
 refine DP Dw PySem.F.slot_list_pop PySem.F.type_list_pop E8 ho (nB he qU (bQ hs)) hbase ?_ hline (bQ hs) rfl
 rw[bQ hs]
 rfl
end
theorem Be{σ:bM}{st:af}{K:DK}{n:Nat}{xs:List D}{to te:DE}{i:Int}{j:Nat}{d:D}(ho:∀K',K' (.ref n) st→to σ st K')(he:∀K',K' (.int i) st→te σ st K')(e:st[n]?=some (.lst xs))(h63: -(2^63)≤i∧i<2^63)(ej:jA xs.length i=some j)(ed:xs[j]?=some d)(k:K d (st.set n (.lst (xs.eraseIdx j)))):jP pX to (ae te aj) σ st K:=by
 unfold jP
 refine ho _ ?_
 simp only[e]
 refine he _ ⟨⟨xs,e⟩,?_⟩
 unfold pX
 simp only[e,ej,ed]
 exact⟨h63,k⟩
noncomputable abbrev ve:=D→bM→af→(bM→af→Prop)→Prop
inductive Ji(t:ve)(v:V)(σ:L2.St)(H:Hp)(Q:L2.St→Hp→Prop):Prop
 |mk (α:List (Option Addr)) (σd:bM) (st:af) (d:D) (K:bM→af→Prop) (G F:Hp) (P:cm G F H) (R:dO α G σd σ) (S:aY α st G) (r:Rep α G d v) (h:t d σd st K) (k:LC α G F K Q):Ji t v σ H Q
noncomputable def xR(t:ve):TG:=Ji t
noncomputable def sS(to ti:DE):ve:=fun d σ st K=>to σ st fun x st1=>ti σ st1 fun y st2=>uw x y d st2 fun st3=>K σ st3
section
variable {X:Cx}{pos:Pos}
theorem Dl{tg:Expr}{to ti:DE}(h:PG X tg (wU (LE to) (LE ti) sO)):PG X tg (xR (sS to ti)):=PG.imp h fun v σ H Q ⟨α,σd,st,d,K,G,F,P,R,S,r,q,k⟩=>by
 unfold sS uw at q
 refine⟨α,σd,st,_,G,F,P,R,S,q,fun x st2 q2 α2 G2 H2 v2 s2 P2 S2 r2=>?_⟩
 refine⟨α2,σd,st2,_,G2,F,P2,R.step s2,S2,q2,fun y st3 q3 α3 G3 H3 v3 s3 P3 S3 r3=>?_⟩
 cases x<;>cases y<;>try exact q3.elim
 rename_i n kk
 unfold yX at q3
 simp only at q3
 split at q3
 · rename_i xs e
   split at q3
   · rename_i j ej
     obtain⟨p,ep,vs,hv,rv⟩:=S3.fv e
     have r2':=dU ep (r2.step s3)
     subst r2'
     unfold Rep at r3
     have hm:some p∈α3:=List.mem_of_getElem? ep
     have rd:=(r.step s2).step s3
     refine⟨p,vs,kk,j,rfl,r3,P3.get hv,by rw[←rv.length];exact ej,?_⟩
     refine((k.at s2).at s3) σd _ q3 α3 (upd G3 p (.lst (vs.set j v))) _ σ (Step.write hm) (P3.write hv) (((R.step s2).step s3).step (Step.write hm)) ?_
     exact S3.write ep ⟨vs.set j v,a5,(bg.mpr (p8 rd j (bg.mp rv))).step (Step.write hm)⟩
   · exact q3.elim
 · exact q3.elim
noncomputable def vI(t u:ve):ve:=fun d σ st K=>match d with| .tup [x,y]=>t x σ st fun σ1 st1=>u y σ1 st1 K|_=>False
theorem ID{a b:Expr}{kx:Nat}{t u:ve}(hc:X.calm=true)(ha:PG X a (xR t))(hb:PG X b (xR u))(hn:(assignEach [a,b] X.env).length=2)(hst:(assignEach [a,b] X.env).findIdx? (·.1)=none)(hs1:Al X [a,b] (iL (xR t) (iL (xR u) wD))):
 PG X (.Tuple [a,b] kx pos) (xR (vI t u)):=PG.imp (vw hc hs1 hn hst) fun v σ H Q ⟨α,σd,st,d,K,G,F,P,R,S,r,q,k⟩=>by
 unfold vI at q
 split at q
 · rename_i x y
   unfold Rep at r
   obtain⟨p,vs,rfl,na,h1,h2⟩:=r
   obtain⟨v1,v2,rfl,r1,r2⟩:=lX h2 rfl
   refine⟨p,_,rfl,.of (P.get h1),rfl,v1,_,rfl,α,σd,st,x,_,G,F,P,R,S,r1,q,fun σ1 st1 q1 α1 G1 H1 σ1' s1 P1 R1 S1=>?_⟩
   refine⟨v2,_,rfl,α1,σ1,st1,y,_,G1,F,P1,R1,S1,r2.step s1,q1,fun σ2 st2 q2 α2 G2 H2 σ2' s2 P2 R2 S2=>?_⟩
   exact⟨rfl,((k.at s1).at s2).here P2 q2 R2 S2⟩
 · exact q.elim
noncomputable def vd(t:ve)(te:DE):DS:=fun E σ st=>te σ st fun d st1=>t d σ st1 E.nx
theorem Bq{s:Stmt}{te:DE}{t:ve}(h:PS X s (lB (LE te) (xR t))):PS X s (LS (vd t te)):=PS.imp h fun D σ H ⟨α,σd,st,DD,G,F,P,R,S,q,k⟩=>
 ⟨α,σd,st,_,G,F,P,R,S,q,fun d st1 q1 α1 G1 H1 v s1 P1 S1 r1=>⟨α1,σd,st1,d,DD.nx,G1,F,P1,R.step s1,S1,r1,q1,k.nx.at s1⟩⟩
theorem IM{o1 i1 o2 i2 e:Expr}{kx:Nat}{p1 p2 tp:Pos}{to1 ti1 to2 ti2 te:DE}(ho1:JE X o1 to1)(hi1:JE X i1 ti1)(ho2:JE X o2 to2)(hi2:JE X i2 ti2)(he:JE X e te)(hc:X.calm=true:=by rfl)
 (hs:swapsWithSole [.Tuple [.Subscript o1 i1 p1,.Subscript o2 i2 p2] kx tp] e pos.line X.env=pure false:=by rfl) (hw:swappedStores [.Tuple [.Subscript o1 i1 p1,.Subscript o2 i2 p2] kx tp] e X.env=pure none:=by rfl)
 (h1:(assignEach [.Tuple [.Subscript o1 i1 p1,.Subscript o2 i2 p2] kx tp] X.env).map (·.2)=[assign (.Tuple [.Subscript o1 i1 p1,.Subscript o2 i2 p2] kx tp) X.env]:=by rfl) (hn:(assignEach [.Subscript o1 i1 p1,.Subscript o2 i2 p2] X.env).length=2:=by rfl) (hst:(assignEach [.Subscript o1 i1 p1,.Subscript o2 i2 p2] X.env).findIdx? (·.1)=none:=by rfl)
 (ha1:∀v,assign (.Subscript o1 i1 p1) X.env v=(do
   let ov ←holding [v] (eval o1 X.env)
   let iv ←holding [v,ov] (eval i1 X.env)
   standAt p1
   holding [v,ov,iv] (setItem ov iv v)
   release [v,ov,iv] []):=by intro _;rfl) (ha2:∀v,assign (.Subscript o2 i2 p2) X.env v=(do
   let ov ←holding [v] (eval o2 X.env)
   let iv ←holding [v,ov] (eval i2 X.env)
   standAt p2
   holding [v,ov,iv] (setItem ov iv v)
   release [v,ov,iv] []):=by intro _;rfl):
 JS X (.Assign [.Tuple [.Subscript o1 i1 p1,.Subscript o2 i2 p2] kx tp] e pos) (vd (vI (sS to1 ti1) (sS to2 ti2)) te):=by
 unfold JS
 unfold JE at*
 have g1:=Dl (uU ho1 hi1 set_list ha1)
 have g2:=Dl (uU ho2 hi2 set_list ha2)
 exact Bq (rl he (ID hc g1 g2 hn hst (gf g1 (gf g2 si))) hs hw h1)
end
end L3
namespace L3
open PySem L2
open PySem.Spec hiding items?
open PyProof.Rows hiding St
section
variable {X:Cx}
theorem wa{M:Model}{A:Around}{E:Value→Shared→Prop}{s:Shared}{Q:Value→Shared→Prop}{x:V}{v:Value}{b:Bool}(r:RelV x v)(h:Q (.bool (!(v== .bool b))) s):wpAny M A (compareOp .IsNot v (.bool b)) Q E s:=by
 cases x
 case bl c=>
  cases r
  cases c<;>cases b<;>exact wpAny_pure h
 all_goals first
  |(cases r;exact wpAny_pure h)
  |(obtain⟨t,rfl⟩:=r;exact wpAny_pure h)
noncomputable def zE:cX:=fun x y st K=>match y with| .aA=>live st x=true∧K (.bl (!Gu x)) st| .bl b=>live st x=true∧K (.bl (!y8 x b)) st|_=>False
theorem Fi:bR X (compareOp .IsNot) (LR zE):=fun pins s σ H x y v u Q I rx ry ⟨α,d,e,st,K,G,F',P,r1,r2,S,q,k⟩=>by
 cases e<;>try exact q.elim
 · refine HK pins s σ H x y v u Q I rx ry ⟨α,d,.aA,st,K,G,F',P,r1,r2,S,⟨q.1,?_⟩,k⟩
   have q2:=q.2
   cases d<;>exact q2
 · rename_i b
   unfold Rep at r2
   subst r2
   cases ry
   refine wa rx ?_
   rw[BN S q.1 r1 rx]
   exact⟨.bl (!y8 d b),H,I,rfl,k.here P q.2 S (by unfold Rep;rfl)⟩
@[irreducible] noncomputable def m9:cX:=zE
theorem Ad:bR X (compareOp .IsNot) (LR m9):=by unfold m9;exact Fi
end
section
variable {st:af}{K:DK}{d:D}{b:Bool}
theorem vQ(h:live st d=true)(k:K (.bl (!Gu d)) st):m9 d .aA st K:=by unfold m9;exact⟨h,k⟩
theorem MF(h:live st d=true)(k:K (.bl (!y8 d b)) st):m9 d (.bl b) st K:=by unfold m9;exact⟨h,k⟩
end
end L3
namespace L3
open PySem L2
open PySem.Spec hiding items?
open PyProof.Rows hiding St
section
variable {X:Cx}
theorem Ip{o i elt:Expr}{gs:List Comprehension}{sc:Scope}{p:Pos}{to ti te:TE}{pos pos':Pos}(he:PE X (.ListComp elt gs sc p) te)(ho:PE X o to)(hi:PE X i ti)(h2:jX i=true:=by rfl):PS X (.Assign [.Subscript o i pos'] (.ListComp elt gs sc p) pos) (lB te (wU to ti sO)):=
 rl he (uU ho hi set_list (by intro v;cases i<;>first|rfl|cases h2)) (by unfold swapsWithSole swapsWith;rfl) rfl rfl
theorem Ec{o i elt:Expr}{gs:List Comprehension}{sc:Scope}{p pos pos':Pos}{te to ti:DE}(he:JE X (.ListComp elt gs sc p) te)(ho:JE X o to)(hi:JE X i ti)(h2:jX i=true:=by rfl):JS X (.Assign [.Subscript o i pos'] (.ListComp elt gs sc p) pos) (dh to ti te):=by
 unfold JS;unfold JE at*;exact zR (Ip he ho hi h2)
end
end L3
namespace L3
open PySem L2
open PySem.Spec hiding items?
open PyProof.Rows hiding St
open AutoSeq1 (wpAny_loadPart')
theorem HV{P:Program}{w:World}{A:Around}(hh:A.handled=none)(k:SK)(t a:Addr)(hne:a≠t)(us:Array Value):Draws P w A t [t,a] us.size (fun i v=>us[i]?=some v) (fun n g=>qK k t a n g∧mm k g a us) where
 live:=fun i h z=>((nc (P:=P) (w:=w) k t a hne us).lv i h z).1
 frame:=fun i h h' z kp=>(nc (P:=P) (w:=w) k t a hne us).fr i h h' z fun b hb o e=>kp b (by rcases hb with rfl|rfl<;>simp) o e
 item:=fun i s Q E hi z q=>(nc (P:=P) (w:=w) k t a hne us).nx i A s Q E us[i] z (by simp[hi]) fun g j sb=>q _ g s.toks (by simp[hi]) j sb
 done:=fun s Q E z q=>(nc (P:=P) (w:=w) k t a hne us).en us.size A s Q E hh z (by simp) q
theorem pR(l:Addr)(items:Array Value)(n:Nat)(dct:Option Addr)(sl:Array (Option Value)):
 Meets (Builtin.«enumerate.__new__» ⟨[.type "enumerate",.ref l],[]⟩) (fun _ R s=>s.heap.get? l=some {cls:= .type "tuple",dict:=dct,data:= .seq items n,slots:=sl}∧
  R (.ok (.ret (.ref (s.heap.push {cls:= .type "tuple_iterator",data:= .fields #[.ref l,.int 0 0]}).objs.size)))
   {s with heap:=(s.heap.push {cls:= .type "tuple_iterator",data:= .fields #[.ref l,.int 0 0]}).push {cls:= .type "enumerate",data:= .fields #[.none,.bool false,.ref s.heap.objs.size,rawInt 0,.none,.none]}}):=
 .of_wp fun prog w A R s h=>by
  obtain⟨hp,g,d,tk,os⟩:=s;obtain⟨hl,h⟩:=h
  have hsub:=sub_enumerate
  have hL:Heap.IsTuple (Shared.heap ⟨hp,g,d,tk,os⟩) l items:=⟨_,hl,rfl,n,rfl⟩
  wp_walk using wpAny_loadPart' hl
  refine wpAny_stack_any fun st=>wpAny_pure ?_
  split
  · rename_i c _ _ _ _ _
    cases (c==Value.type "enumerate")
    · wp_walk using wpAny_loadPart' hl,wpAny_pyIter_tuple hL
      exact⟨_,rfl,h⟩
    · wp_walk using wpAny_loadPart' hl,wpAny_pyIter_tuple hL
      exact⟨_,rfl,h⟩
  · wp_walk using wpAny_loadPart' hl,wpAny_pyIter_tuple hL
    exact⟨_,rfl,h⟩
theorem ES{P:Program}{w:World}{A:Around}{s:Shared}{E:Value→Shared→Prop}{k:SK}{a:Addr}{us:Array Value}{Q:Value→Shared→Prop}(c:mm k s.heap a us)
 (q:∀g,IsEnum g (s.heap.objs.size+1) s.heap.objs.size 0 .none→qK k s.heap.objs.size a 0 g→(∀b o,s.heap.get? b=some o→g.get? b=some o)→Q (.ref (s.heap.objs.size+1)) {s with heap:=g}):
 wpAny (model P w) A (call (.type "enumerate") [.ref a]) Q E s:=by
 cases k
 · exact call_enumerate_list c fun g h1 h2 _ h4=>q g h1 h2 h4
 · obtain⟨⟨c,dct,dt,sl⟩,hl,hc,n,hd⟩:=c
   replace hc:c= .type "tuple":=hc
   replace hd:dt= .seq us n:=hd
   subst hc hd
   refine callType_new F.called_enumerate (by decide) (F.typeCall_enumerate_1 _) (F.newCall_enumerate_1 _) (fun obj=>F.args_object_init_2 obj _) F.entry_enumerate_new
    (pR a us n dct sl) ⟨hl,?_⟩
   have hz:(s.heap.push {cls:= .type "tuple_iterator",data:= .fields #[.ref a,.int 0 0]}).objs.size=s.heap.objs.size+1:=Heap.size_push ..
   show _∧_
   rw[hz]
   have he:IsEnum ((s.heap.push {cls:= .type "tuple_iterator",data:= .fields #[.ref a,.int 0 0]}).push
    {cls:= .type "enumerate",data:= .fields #[.none,.bool false,.ref s.heap.objs.size,rawInt 0,.none,.none]}) (s.heap.objs.size+1) s.heap.objs.size 0 .none:=by
    have:=Heap.get?_push_size (s.heap.push {cls:= .type "tuple_iterator",data:= .fields #[.ref a,.int 0 0]})
     (o:={cls:= .type "enumerate",data:= .fields #[.none,.bool false,.ref s.heap.objs.size,rawInt 0,.none,.none]}) rfl
    rw[hz]at this;exact this
   exact⟨⟨_,he,rfl⟩,q _ he ⟨_,Heap.get?_push_of_some _ (Heap.get?_push_size _ rfl),rfl,rfl⟩ fun b o x=>Heap.get?_push_of_some _ (Heap.get?_push_of_some _ x)⟩
noncomputable def NF(K:PySem.W.Frag)(k:SK)(a:Addr):It:=
 ⟨fun i H=>∃xs x,pA k K H a xs∧xs[i]?=some x,
  fun i H v H'=>∃T x,H T=none∧v= .ref T∧H'=upd H T (.tup [.int (i:Int),x])∧∀xs,pA k K H a xs→xs[i]?=some x,
  fun i H=>∃xs,pA k K H a xs∧xs.length≤i⟩
noncomputable def Og(e t a:Addr)(k:SK)(i:Nat)(h:Heap):Prop:=(∃old,IsEnum h e t i old)∧qK k t a i h
theorem Ew{P:Program}{w:World}{K:PySem.W.Frag}{elts:List Expr}{kx:Nat}{pos:Pos}{e t a:Addr}(k:SK)(n1:e≠t)(n2:a≠e)(n3:a≠t):
 Turn P w K (.Tuple elts kx pos) (NF K k a) [e,t] e (Og e t a k) where
 mem:=by simp
 obj:=fun i h st b hb=>by
  obtain⟨⟨old,he⟩,i1⟩:=st
  simp only[List.mem_cons,List.not_mem_nil,or_false]at hb
  rcases hb with rfl|rfl
  · exact⟨_,he,fun v z=>by cases z⟩
  · exact nA i1
 keep:=fun i h h' st kp=>by
  obtain⟨⟨old,he⟩,i1⟩:=st
  exact⟨⟨old,kp e (by simp) _ he⟩,pL i1 (kp t (by simp))⟩
 item:=by
  intro X hP hw hK hc i pins s σ H E I hf st hg
  subst hP hw hK
  obtain⟨⟨old,he⟩,i1⟩:=st
  obtain⟨xs,x,q1,ex⟩:=hg
  obtain⟨us,r1,l1⟩:=kn I q1
  obtain⟨u,eu,ru⟩:=r1.get ex
  have hlt:i<us.toArray.size:=by
   have:=(List.getElem?_eq_some_iff.mp eu).1
   simpa using this
  refine wpAny_pyNext_enum_itemD (HV (A:=X.A.in1) (show X.A.in1.handled=none from I.ok.hd hc) k t a n3 us.toArray) he ⟨i1,l1⟩ hlt n1 (by simp only[List.mem_cons,List.not_mem_nil,or_false,not_or];exact⟨n1,Ne.symm n2⟩) fun y h' tk py ho hs hT hsz kp=>⟨_,rfl,?_⟩
  have hy:y=u:=by
   have:us[i]?=some y:=by simpa using py
   rw[eu]at this;cases this;rfl
  subst hy
  refine wpAny_letOwnedTupleGo_enum (s:={s with heap:=h',toks:=tk+1}) ho fun k' he' sb=>?_
  have hTe:s.heap.objs.size≠e:=Nat.ne_of_gt (Heap.lt_size he)
  have kp3:∀b o,b∉[e,t]→s.heap.get? b=some o→k'.get? b=some o:=fun b o hb eb=>by
   simp only[List.mem_cons,not_or,List.not_mem_nil,not_false_eq_true,and_true]at hb
   exact sb.extBut _ _ hb.1 (kp b o hb.1 hb.2 eb)
  refine⟨.ref s.heap.objs.size,upd H s.heap.objs.size (.tup [.int (i:Int),x]),Hj (s:=s) (tk:=tk+1) I hf kp3 (Nat.le_refl _) ?_,rfl,⟨s.heap.objs.size,x,I.aI.fresh (Nat.le_refl _),rfl,rfl,?_⟩,?_,?_⟩
  · refine⟨Nat.le_of_ble_eq_true rfl,[.int (i:Int) tk,y],.cons ⟨tk,rfl⟩ (.cons ru .nil),?_⟩
    exact⟨_,sb.extBut _ _ hTe hT,rfl,_,rfl⟩
  · intro xs' q'
    rw[vX I q' q1];exact ex
  · refine⟨⟨_,by simpa using he'⟩,pL hs.1 fun o eo=>sb.extBut _ _ (Ne.symm n1) eo⟩
  · intro b hb
    have:b≠s.heap.objs.size:=by
     obtain⟨o,eb⟩:∃o,s.heap.get? b=some o:=by
      simp only[List.mem_cons,List.not_mem_nil,or_false]at hb
      rcases hb with rfl|rfl
      · exact⟨_,he⟩
      · obtain⟨o,eo,_⟩:=nA i1;exact⟨o,eo⟩
     exact Nat.ne_of_lt (Heap.lt_size eb)
    rw[aQ this]
    exact(hf b hb).1
 done:=by
  intro X hP hw hK hc i pins s σ H E I hf st hg
  subst hP hw hK
  obtain⟨⟨old,he⟩,i1⟩:=st
  obtain⟨xs,q1,hle⟩:=hg
  obtain⟨us,r1,l1⟩:=kn I q1
  have e1:=r1.length
  have tz:s.TypeIs (.ref e) "enumerate":=⟨_,he,rfl⟩
  unfold pyNext
  refine wpAny_bind (wpAny_attempt (wpAny_callSpecial?_slot (name:=Str.ofString "__next__") tz F.slot_enumerate_next (wpAny_call_entry F.slot_enumerate_next tz F.entry_enumerate_next ?_ (F.args_enumerate_next_1 _))))
  show wpAny _ _ (field (.ref e) 2 >>= _) _ _ _
  refine wpAny_bind (wpAny_field he rfl (x:= .ref t) rfl ?_)
  refine wpAny_bind ((nc k t a n3 us.toArray).en i _ s _ _ (I.ok.hd hc) ⟨i1,l1⟩ (by simp;omega) fun g x sb hx=>?_)
  obtain⟨o,ho,hc2⟩:=hx
  refine wpAny_bind (wpAny_isInstance (T:="StopIteration") (b:=true) ⟨o,ho,hc2⟩ isSubtype_stop ?_)
  refine wpAny_pure ⟨rfl,Gv (s:=s) (tk:=s.toks) I hf fun b o hb eb=>?_⟩
  simp only[List.mem_cons,not_or,List.not_mem_nil,not_false_eq_true,and_true]at hb
  exact sb b o hb.2 eb
 self:=fun _ _ _ _ _ st h=>wpAny_pyIter_enum st.1.choose_spec h
noncomputable def f6:Nat→List D→List D
 |_,[]=>[]
 |i,x::xs=> .tup [.int (i:Int),x]::f6 (i+1) xs
theorem xj:∀ {xs:List D} {i:Nat},(f6 i xs).length=xs.length
 | [],_=>rfl
 |_::xs,i=>by unfold f6;rw[List.length_cons,List.length_cons,xj]
theorem rK:∀ {xs:List D} {i n:Nat} {d:D},(f6 i xs)[n]?=some d→∃x,xs[n]?=some x∧d= .tup [.int ((i+n:Nat):Int),x]
 | [],_,_,_,e=>by unfold f6 at e;cases e
 |x::xs,i,0,d,e=>by
  unfold f6 at e
  rw[List.getElem?_cons_zero]at e
  cases e
  exact⟨x,rfl,rfl⟩
 |x::xs,i,n+1,d,e=>by
  unfold f6 at e
  rw[List.getElem?_cons_succ]at e
  obtain⟨y,h1,h2⟩:=rK e
  refine⟨y,by rw[List.getElem?_cons_succ];exact h1,?_⟩
  rw[h2,show i+1+n=i+(n+1) by omega]
theorem HI{K:PySem.W.Frag}{k:SK}{a:Addr}{α:List (Option Addr)}{G:Hp}{ok:af→Prop}{xs:List D}
 (h:∀α' G' st',Step α G α' G'→aY α' st' G'→ok st'→∃vs,Eh k G' a vs∧aJ α' G' xs vs):wN (NF K k a) α G ok (f6 0 xs) where
 stop:=fun n α' G' F' H' st' s P S o hn=>by
  obtain⟨vs,h1,r1⟩:=h α' G' st' s S o
  rw[xj]at hn
  refine⟨vs,jN P h1,?_⟩
  have:=r1.length
  omega
 go:=fun n d α' G' F' H' st' s P S o hn=>by
  obtain⟨vs,h1,r1⟩:=h α' G' st' s S o
  obtain⟨x,ex,rfl⟩:=rK hn
  obtain⟨v,ev,_⟩:=r1.get ex
  exact⟨vs,v,jN P h1,ev⟩
 pE:=fun n d α' G' F' H' st' x H'' s P S o hn y=>by
  obtain⟨vs,h1,r1⟩:=h α' G' st' s S o
  obtain⟨c,ec,rfl⟩:=rK hn
  obtain⟨T,v,hT,rfl,rfl,y1⟩:=y
  obtain⟨v',ev,rv⟩:=r1.get ec
  rw[y1 vs (jN P h1)]at ev
  cases ev
  have hg:=(P.none hT).1
  refine⟨upd G' T (.tup [.int (n:Int),v]),Step.laid hg,P.laid hT,S.laid hg,?_⟩
  unfold Rep
  refine⟨T,[.int (n:Int),v],rfl,S.kl hg,a5,?_⟩
  unfold aJ
  refine⟨.int (n:Int),[v],rfl,?_,?_⟩
  · unfold Rep;rw[Nat.zero_add]
  unfold aJ
  exact⟨v,[],rfl,rv.step (Step.laid hg),by unfold aJ;rfl⟩
noncomputable def Ca(ds:List D)(st1:af)(K:List D→(af→Prop)→af→Prop):Prop:=match ds with
 | [x]=>(match items? st1 x with
   |some xs=>K (f6 0 xs) (fun st'=>items? st' x=some xs) st1
   |_=>False)
 |_=>False
@[irreducible] noncomputable def rj:List D→af→(List D→(af→Prop)→af→Prop)→Prop:=Ca
noncomputable def yF(t:DA):DI:=fun σ st K=>t σ st fun ds st1=>rj ds st1 K
theorem Ef:bootBuiltins "enumerate"=some (.type "enumerate"):=by decide+kernel
theorem HD{X:Cx}{a:Expr}{elts:List Expr}{kx:Nat}{tpos p pos:Pos}{t:DA}(hg:Gl X "enumerate")(hm:X.mg "enumerate"=none)(ha:PA X [a] (LA t))(hs:starEach [a] X.env=[(false,eval a X.env)]):
 PI X (.Tuple elts kx tpos) (.Call (.Name "enumerate" p) [a] [] pos) (LI (yF t)):=by
 intro pins s σ H R I h
 obtain⟨α,σd,st,K,G,F,P,RS,S,t,k⟩:=h
 refine Call_ (l8 I hg hm Ef (PyProof.Rows.callWith_type1 (bZ (ha pos pins s σ H (fun vs H1=>∃ds α1 G1 st1,Step α G α1 G1∧cm G1 F H1∧aY α1 st1 G1∧aJ α1 G1 ds vs∧rj ds st1 K) I ⟨α,σd,st,_,G,F,P,RS,S,t,fun ds st1 q α1 G1 H1 vs s1 P1 S1 r1=>⟨ds,α1,G1,st1,s1,P1,S1,r1,q⟩⟩) fun us s1 ⟨vs,H1,I1,rv,ds,α1,G1,st1,w1,P1,S1,r1,q⟩=>?_) (by rw[hs];rfl) (by rfl)))
 unfold rj Ca at q
 split at q
 · rename_i x
   split at q
   · rename_i xs ex
     obtain⟨v1,rfl,q1⟩:=iH r1 rfl
     obtain⟨p1,vs1,rfl,g1,c1⟩:=nt S1 q1 ex
     obtain⟨u1,rfl,ru1⟩:=vals1 rv
     cases ru1
     obtain⟨its1,_,l1⟩:=kn I1 (jN P1 c1)
     refine ES l1 fun g he i1 kp=>?_
     obtain⟨o1,eo1⟩:=l1.some
     have hp1:p1<s1.heap.objs.size:=Heap.lt_size eo1
     refine wpAny_pyIter_enum (s:={s1 with heap:=g}) he ?_
     refine⟨s1.heap.objs.size+1,[s1.heap.objs.size+1,s1.heap.objs.size],_,_,H1,rfl,I1.kept (t':=s1.toks) kp,Ew (Gw x) (Nat.ne_of_gt (Nat.lt_succ_self _)) (Nat.ne_of_lt (Nat.lt_succ_of_lt hp1)) (Nat.ne_of_lt hp1),⟨⟨_,he⟩,i1⟩,fun b hb=>?_,?_⟩
     · have hb':s1.heap.objs.size≤b:=by
        simp only[List.mem_cons,List.not_mem_nil,or_false]at hb
        rcases hb with rfl|rfl
        · exact Nat.le_succ _
        · exact Nat.le_refl _
       exact I1.wg hb' (I1.aI.fresh hb')
     · refine k _ _ st1 q _ α1 G1 H1 w1 P1 S1 (HI fun α' G' st' s' S' o=>?_)
       obtain⟨p1',ws1,e1,f1,d1⟩:=nt S' (q1.step s') o
       cases e1
       exact⟨ws1,d1,f1⟩
   · exact q.elim
 · exact q.elim
theorem Bi{st:af}{x:D}{xs:List D}{K:List D→(af→Prop)→af→Prop}(ex:items? st x=some xs)(k:∀ok:af→Prop,(∀st',items? st' x=some xs→ok st')→K (f6 0 xs) ok st):rj [x] st K:=by
 unfold rj Ca
 simp only[ex]
 exact k _ fun st' h1=>h1
theorem EK{X:Cx}{a:Expr}{elts:List Expr}{kx:Nat}{tpos p pos:Pos}{ar:DA}(hg:Gl X "enumerate")(hm:X.mg "enumerate"=none)(ha:JA X [a] ar)(hs:notStar a=true:=by rfl):JI X (.Tuple elts kx tpos) (.Call (.Name "enumerate" p) [a] [] pos) (yF ar):=by
 unfold JI;unfold JA at ha;exact HD hg hm ha (bQ hs)
end L3
namespace L3
open PySem L2
open PySem.Spec hiding items?
open PyProof.Rows hiding St
section
variable {prog:Program}{w:World}{A:Around}{E:Value→Shared→Prop}{s:Shared}
end
section
variable {X:Cx}{tg:Expr}
end
end L3
namespace L3
open PySem L2
open PySem.Spec hiding items?
open PyProof.Rows hiding St
theorem p7{A B:Type}{F:A→B→Prop}{x:A}{y:B}(h:F x y):∀ {xs:List A} {ys:List B} (i:Nat),Paired F xs ys→Paired F (xs.take i++x::xs.drop i) (ys.take i++y::ys.drop i)
 |_,_,0,t=> .cons h t
 |_,_,i+1,.nil=>by simpa using(Paired.cons h .nil)
 |_,_,i+1,.cons r t=> .cons r (p7 h i t)
section
variable {X:Cx}
noncomputable def K_:V→List V→Hp→VK→Prop:=fun x vs H Q=>∃(l:Addr) (xs:List V) (i:Int) (y:V),x= .ref l∧vs=[.int i,y]∧H l=some (.lst xs)∧0≤i∧i<2^62∧i.toNat≤xs.length∧xs.length<sizeLine∧Q .aA (upd H l (.lst (xs.take i.toNat++y::xs.drop i.toNat)))
theorem Ir{au:List Value}{i:Int}{u:Value}(h0:0≤i)(h:i.toNat≤au.length):(au.toArray.extract 0 (if i<0 then(i+(au.toArray.size:Int)).toNat else min i.toNat au.toArray.size)).push u++au.toArray.extract (if i<0 then(i+(au.toArray.size:Int)).toNat else min i.toNat au.toArray.size)=(au.take i.toNat++u::au.drop i.toNat).toArray:=by
 have hk:(if i<0 then(i+(au.toArray.size:Int)).toNat else min i.toNat au.toArray.size)=i.toNat:=by
  rw[if_neg (by omega),List.size_toArray];omega
 rw[hk]
 exact PySem.W.kl_ins_eq au i.toNat u
theorem Ku:LN X "list.insert" K_:=by
 intro pins s σ H x vs v us Q I rx rv h
 obtain⟨l,xs,i,y,rfl,rfl,hH,h0,h1,h2,hz,q⟩:=h
 cases rx
 obtain⟨u1,u2,rfl,ru1,ru2⟩:=vals2 rv
 obtain⟨t,rfl⟩:=ru1
 obtain⟨z,au,n,r,hl,e⟩:=I.F0 hH
 have fit:Builtin.List.listFitsIndex i=true:=fitsIndex_both (by omega) (by omega)
 have hsz:au.toArray.size≤sizeLine:=by rw[List.size_toArray,←hl];exact z
 have hft:¬(!Builtin.List.listFitsIndex i)=true:=by rw[fit];exact Bool.false_ne_true
 have M:=AutoSeq1.list_insert_list_int_val_1 l au.toArray n i t u2 hft hsz
 refine call_meets F.slot_list_insert ⟨_,e,rfl⟩ F.entry_list_insert (F.args_list_insert_3 _ _ _) M ⟨e,?_⟩
 refine⟨.aA,_,I.F6 (its':=au.take i.toNat++u2::au.drop i.toNat) hH e (Ir h0 (by omega)) (p7 ru2 i.toNat r) ?_,rfl,q⟩
 rw[List.length_append,List.length_cons,List.length_take,List.length_drop]
 omega
noncomputable def oU:DM:=fun n ds st K=>match ds with
 | [.int i,d]=>(match st[n]? with|some (.lst xs)=>(0≤i∧i≤xs.length∧i<2^62∧xs.length<sizeLine)∧K .aA (st.set n (.lst (xs.take i.toNat++d::xs.drop i.toNat)))|_=>False)
 |_=>False
theorem Dj:LiftM oU K_:=by
 intro α G F H st K Q n a ds ws P S ea rs q k
 unfold oU at q
 split at q
 · rename_i i d
   split at q
   · rename_i xs e
     obtain⟨⟨h0,h1,h2,h3⟩,q⟩:=q
     obtain⟨v,u,rfl,r1,r2⟩:=lX rs rfl
     unfold Rep at r1
     subst r1
     obtain⟨a',ea',vs,g1,g2⟩:=S.fv e
     rw[ea]at ea';cases ea'
     have hl:=g2.length
     have hm:some a∈α:=List.mem_of_getElem? ea
     refine⟨a,vs,i,u,rfl,rfl,P.get g1,h0,h2,by omega,by omega,?_⟩
     refine k .aA _ q α (upd G a (.lst (vs.take i.toNat++u::vs.drop i.toNat))) _ .aA (Step.write hm) (P.write g1) ?_ (by unfold Rep;rfl)
     exact S.write ea ⟨vs.take i.toNat++u::vs.drop i.toNat,a5,(bg.mpr (p7 r2 i.toNat (bg.mp g2))).step (Step.write hm)⟩
   · exact q.elim
 · exact q.elim
theorem Mp{o e f:Expr}{to te tf:DE}{apos cpos:Pos}(ho:JE X o to)(he:JE X e te)(hf:JE X f tf)(hbase:attributeBase o "insert" X.env (eval o X.env)=eval o X.env:=by rfl)(hline:(apos.endLine==cpos.line)=true:=by rfl)(hs:notStar e=true:=by rfl)(hs2:notStar f=true:=by rfl):JE X (.Call (.Attribute o "insert" apos) [e,f] [] cpos) (jP oU to (ae te (ae tf aj))):=by
 unfold JE at*
 refine DP Dj PySem.F.slot_list_insert PySem.F.type_list_insert Ku ho (nB he (nB hf qU (bQ hs2)) (bQ hs)) hbase ?_ hline (bQ hs) ?_
 · rw[bQ hs,bQ hs2]
   rfl
 · rw[bQ hs2]
   rfl
end
end L3
namespace L3
open PySem L2
open PySem.Spec hiding items?
open PyProof.Rows hiding St
section
variable {X:Cx}
end
end L3
namespace L3
open PySem L2
open PySem.Spec hiding items?
open PyProof.Rows hiding St
open PySem PySem.Spec L2 PySem.SeqAt
section
variable {X:Cx}
end
end L3
namespace L3
open PySem L2
open PySem.Spec hiding items?
open PyProof.Rows hiding St
section
variable {X:Cx}
end
end L3
namespace L3
open PySem L2
open PySem.Spec hiding items?
open PyProof.Rows hiding St
section
variable {X:Cx}
end
section
variable {X:Cx}
end
end L3
namespace L3
open PySem L2
open PySem.Spec hiding items?
open PyProof.Rows hiding St
section
variable {X:Cx}
end
end L3
namespace L3
open PySem L2
open PySem.Spec hiding items?
open PyProof.Rows hiding St
section
variable {X:Cx}
end
end L3
namespace L3
open PySem L2
open PySem.Spec hiding items?
open PyProof.Rows hiding St
section
variable {P:Program}{w:World}
section
variable {z ti to t1 t2 t3 a1 a2 a3:Addr}
end
end
end L3
namespace L3
open PySem L2
open PySem.Spec hiding items?
open PyProof.Rows hiding St
end L3
namespace L3
open PySem L2
open PySem.Spec hiding items?
open PyProof.Rows hiding St
section
variable {X:Cx}
end
end L3
namespace L3
open PySem L2
open PySem.Spec hiding items?
open PyProof.Rows hiding St
open Sem (wp)
section
variable {prog:Program}{w:World}{A:Around}{s:Shared}{E:Value→Shared→Prop}
end
section
variable {prog:Program}{w:World}{A:Around}{R:Result→Shared→Prop}{I:Addr}{fp wr:List Addr}{G:Array GenState→Array GenState→Prop}{n:Nat}{P:Nat→Value→Prop}{Sx:Nat→Shared→Prop}
end
section
variable {prog:Program}{w:World}{A:Around}{E:Value→Shared→Prop}{s:Shared}
end
section
variable {X:Cx}{pins:List (Addr×Obj)}{σ:L2.St}{H:Hp}{s:Shared}{α:List (Option Addr)}
end
end L3
namespace L3
open PySem L2
open PySem.Spec hiding items?
open PyProof.Rows hiding St
section
variable {X:Cx}
end
end L3
namespace L3
open PySem L2
open PySem.Spec hiding items?
open PyProof.Rows hiding St
noncomputable def putD(f:Str)(v:D):List (Str×D)→List (Str×D)
 | []=>[(f,v)]
 |(g,x)::r=>if g=f then(g,v)::r else(g,x)::putD f v r
theorem jY.look{α:List (Option Addr)}{H:Hp}{f:Str}{v:D}:∀ {fs:List (Str×D)} {vs:List (Str×V)},jY α H fs vs→fs.lookup f=some v→∃u,vs.lookup f=some u∧Rep α H v u
 | [],_,_,e=>by cases e
 |(g,x)::fs,_,.cons (b:=q) h t,e=>by
  obtain⟨g',y⟩:=q
  obtain⟨h1,h2⟩:=h
  simp only at h1 h2
  subst h1
  rw[List.lookup_cons]at e⊢
  cases hb:f==g with
  |true=>rw[hb]at e;cases e;exact⟨y,rfl,h2⟩
  |false=>rw[hb]at e;exact jY.look t e
theorem jY.none{α:List (Option Addr)}{H:Hp}{f:Str}:∀ {fs:List (Str×D)} {vs:List (Str×V)},jY α H fs vs→fs.lookup f=Option.none→vs.lookup f=Option.none
 | [],_,.nil,_=>rfl
 |(g,x)::fs,_,.cons (b:=q) h t,e=>by
  obtain⟨g',y⟩:=q
  obtain⟨h1,h2⟩:=h
  simp only at h1 h2
  subst h1
  rw[List.lookup_cons]at e⊢
  cases hb:f==g with
  |true=>rw[hb]at e;cases e
  |false=>rw[hb]at e;exact jY.none t e
theorem jY.put{α:List (Option Addr)}{H:Hp}{f:Str}{d:D}{v:V}(r:Rep α H d v):∀ {fs:List (Str×D)} {vs:List (Str×V)},jY α H fs vs→jY α H (putD f d fs) (gL f v vs)
 | [],_,.nil=> .cons ⟨rfl,r⟩ .nil
 |(g,x)::fs,_,.cons (b:=q) h t=>by
  obtain⟨g',y⟩:=q
  obtain⟨h1,h2⟩:=h
  simp only at h1 h2
  subst h1
  unfold putD gL
  by_cases hb:g=f
  · rw[if_pos hb,if_pos hb];exact .cons ⟨rfl,r⟩ t
  · rw[if_neg hb,if_neg hb];exact .cons ⟨rfl,h2⟩ (jY.put r t)
noncomputable def Fp(C:Addr)(f:Str)(d:D)(st:af)(K:DK):Prop:=match d with
 | .ref n=>(match st[n]? with|some (.ins C' fs)=>C'=C∧∃v,fs.lookup f=some v∧K v st|_=>False)
 |_=>False
@[irreducible] noncomputable def CS(C:Addr)(f:Str):D→af→DK→Prop:=Fp C f
noncomputable def dN(C:Addr)(f:Str)(te:DE):DE:=fun σ st K=>te σ st fun d st1=>CS C f d st1 K
theorem cJ{C:Addr}{f:Str}{n:Nat}{st:af}{K:DK}{fs:List (Str×D)}{v:D}(e:st[n]?=some (.ins C fs))(h:fs.lookup f=some v)(k:K v st):CS C f (.ref n) st K:=by
 unfold CS Fp;simp only[e];exact⟨trivial,v,h,k⟩
noncomputable def Dc(C:Addr)(f:Str)(x d:D)(st:af)(K:af→Prop):Prop:=match x with
 | .ref n=>(match st[n]? with|some (.ins C' fs)=>C'=C∧fs.length<1000∧K (st.set n (.ins C (putD f d fs)))|_=>False)
 |_=>False
@[irreducible] noncomputable def yp(C:Addr)(f:Str):D→D→af→(af→Prop)→Prop:=Dc C f
noncomputable def oK(C:Addr)(f:Str)(to te:DE):DS:=fun D σ st=>te σ st fun d st1=>to σ st1 fun x st2=>yp C f x d st2 fun st3=>D.nx σ st3
theorem nu{C:Addr}{f:Str}{n:Nat}{d:D}{st:af}{K:af→Prop}{fs:List (Str×D)}(e:st[n]?=some (.ins C fs))(h:fs.length<1000)(k:K (st.set n (.ins C (putD f d fs)))):yp C f (.ref n) d st K:=by
 unfold yp Dc;simp only[e];exact⟨trivial,h,k⟩
noncomputable def Ci(C:Addr)(m:Str)(x:D)(st:af)(k:Prop):Prop:=match x with
 | .ref n=>(match st[n]? with|some (.ins C' fs)=>C'=C∧fs.lookup m=none∧k|_=>False)
 |_=>False
@[irreducible] noncomputable def yD(C:Addr)(m:Str):D→af→Prop→Prop:=Ci C m
theorem ki{C:Addr}{m:Str}{n:Nat}{st:af}{k:Prop}{fs:List (Str×D)}(e:st[n]?=some (.ins C fs))(h:fs.lookup m=none)(q:k):yD C m (.ref n) st k:=by
 unfold yD Ci;simp only[e];exact⟨trivial,h,q⟩
noncomputable def jC(C:Addr)(m:Str)(S:cC)(to:DE)(t:DA):DE:=fun σ st K=>to σ st fun x st1=>yD C m x st1 (t σ st1 fun ds st2=>S (x::ds) st2 K)
noncomputable def CN(C:Addr)(S:cC)(t:DA):DE:=fun σ st K=>t σ st fun ds st1=>S (.ref st1.length::ds) (st1++[.ins C []]) fun r st2=>r= .aA∧K (.ref st1.length) st2
section
variable {X:Cx}{C f g:Addr}{fd:FuncData}{k:Nat}{x m fl:Str}{e o value:Expr}{es:List Expr}{p pos pos' apos:Pos}{te to:DE}{t:DA}{S:cC}{ps:List Str}
theorem Mu(c:nH X.K C)(na:fT X.K C fl)(he:PE X e (LE te))(hb:attributeBase e fl X.env (eval e X.env)=eval e X.env):PE X (.Attribute e fl pos) (LE (dN C fl te)):=PE.imp (Ll he hb) fun σ H Q ⟨α,σd,st,K,G,F,P,R,S,t,k⟩=>by
 refine⟨α,σd,st,_,G,F,P,R,S,t,fun d st1 q α1 G1 H1 v s1 P1 S1 r1=>?_⟩
 unfold CS Fp at q
 cases d<;>try exact q.elim
 simp only at q
 split at q
 · rename_i C' fs e'
   obtain⟨rfl,w,hw,q⟩:=q
   obtain⟨a,ea,dx,vs,h1,h2⟩:=S1.yo e'
   have r1':=dU ea r1
   subst r1'
   obtain⟨u,hu,ru⟩:=h2.look hw
   exact⟨a,_,dx,vs,u,rfl,P1.get h1,c,na,hu,(k.at s1).here P1 q S1 ru⟩
 · exact q.elim
theorem JM(c:nH X.K C)(na:fT X.K C fl)(ho:PE X o (LE to))(hv:PE X value (LE te))(hs:swapsWith value (some (.Attribute o fl pos')) pos.line X.env=pure false):PS X (.Assign [.Attribute o fl pos'] value pos) (LS (oK C fl to te)):=PS.imp (KR ho hv hs) fun D σ H ⟨α,σd,st,DD,G,F,P,R,S,t,k⟩=>by
 refine⟨α,σd,st,_,G,F,P,R,S,t,fun d st1 q α1 G1 H1 v s1 P1 S1 r1=>?_⟩
 refine⟨α1,σd,st1,_,G1,F,P1,R.step s1,S1,q,fun x st2 q2 α2 G2 H2 v2 s2 P2 S2 r2=>?_⟩
 unfold yp Dc at q2
 cases x<;>try exact q2.elim
 simp only at q2
 split at q2
 · rename_i C' fs e'
   obtain⟨rfl,hl,q2⟩:=q2
   obtain⟨a,ea,dx,vs,h1,h2⟩:=S2.yo e'
   have r2':=dU ea r2
   subst r2'
   have hm:some a∈α2:=List.mem_of_getElem? ea
   have lv:vs.length<1000:=by rw[←h2.length];exact hl
   refine⟨a,_,dx,vs,rfl,P2.get h1,c,na,lv,?_⟩
   refine((k.nx.at s1).at s2) σd _ q2 α2 (upd G2 a (.ins _ dx (gL fl v vs))) _ σ (Step.write hm) (P2.write h1) (((R.step s1).step s2).step (Step.write hm)) ?_
   exact S2.write ea ⟨dx,gL fl v vs,a5,(h2.put (r1.step s2)).step (Step.write hm)⟩
 · exact q2.elim
theorem LE.Nk{σ:L2.St}{H:Hp}{Q:VK}(h:LE (jC C m S to t) σ H Q):He C m (cG S) [] E0 (LE to) (LA t) σ H Q:=by
 obtain⟨α,σd,st,K,G,F,P,R,Sr,tt,k⟩:=h
 refine⟨α,σd,st,_,G,F,P,R,Sr,tt,fun d st1 q α1 G1 H1 v s1 P1 S1 r1=>?_⟩
 unfold yD Ci at q
 cases d<;>try exact q.elim
 simp only at q
 split at q
 · rename_i n C' fs e'
   obtain⟨rfl,hl,q⟩:=q
   obtain⟨a,ea,dx,vs,h1,h2⟩:=S1.yo e'
   have r1':=dU ea r1
   subst r1'
   refine⟨a,dx,vs,rfl,P1.get h1,h2.none hl,?_⟩
   refine⟨α1,σd,st1,_,G1,F,P1,R.step s1,S1,q,fun ds st2 q2 α2 G2 H2 us s2 P2 S2 r2=>?_⟩
   try dsimp only
   rw[List.append_nil]
   exact⟨α2,_,st2,K,G2,F,P2,by unfold aJ;exact⟨_,_,rfl,r1.step s2,r2⟩,S2,q2,(k.at s1).at s2⟩
 · exact q.elim
theorem LE.make{σ:L2.St}{H:Hp}{Q:VK}(h:LE (CN C S t) σ H Q):GG C (cG S) [] E0 (LA t) σ H Q:=by
 obtain⟨α,σd,st,K,G,F,P,R,Sr,tt,k⟩:=h
 refine⟨α,σd,st,_,G,F,P,R,Sr,tt,fun ds st1 q α1 G1 H1 us s1 P1 S1 r1=>?_⟩
 intro x dx hx hdx hne
 have hgd:=(P1.none hdx).1
 have P2:=P1.laid (o:= .own x) hdx
 have S2:=S1.laid (o:= .own x) hgd
 have hx2:upd H1 dx (.own x) x=none:=by rw[aQ (Ne.symm hne)];exact hx
 have hg2:=(P2.none hx2).1
 have P3:=P2.laid (o:= .ins C dx []) hx2
 have S3:=S2.cell (o:= .ins C dx []) (c:= .ins C []) hg2 ⟨dx,[],a5,.nil⟩
 have s2:Step α1 G1 α1 (upd G1 dx (.own x)):=Step.laid hgd
 have s3:Step α1 (upd G1 dx (.own x)) (α1++[some x]) (upd (upd G1 dx (.own x)) x (.ins C dx [])):=Step.cell hg2
 have rx:Rep (α1++[some x]) (upd (upd G1 dx (.own x)) x (.ins C dx [])) (.ref st1.length) (.ref x):=by
  unfold Rep
  refine .inr ⟨x,?_,rfl⟩
  rw[List.getElem?_append_right (by rw[S1.len];exact Nat.le_refl _),S1.len,Nat.sub_self]
  rfl
 rw[List.append_nil]
 refine⟨α1++[some x],.ref st1.length::ds,st1++[.ins C []],_,_,F,P3,by unfold aJ;exact⟨_,_,rfl,rx,(r1.step s2).step s3⟩,S3,q,fun d st2 q2 α' G' H' v s' P' S' r'=>?_⟩
 obtain⟨rfl,q2⟩:=q2
 unfold Rep at r'
 exact⟨r',(((k.at s1).at s2).at s3) _ st2 q2 α' G' H' _ s' P' S' (rx.step s')⟩
end
end L3
namespace L3
open PySem L2
open PySem.Spec hiding items?
open PyProof.Rows hiding St
section
variable {X:Cx}{tg:Expr}
end
section
variable {X:Cx}
end
end L3
namespace L3
open PySem L2
open PySem.Spec hiding items?
open PyProof.Rows hiding St
section
variable {X:Cx}{e o i value:Expr}{es:List Expr}{te to ti:DE}{t:DA}{pos pos' tpos apos p:Pos}{C f:Addr}{fl m x:Str}{S:cC}{k:Nat}{fd:FuncData}{ps:List Str}
theorem Df{value o:Expr}{fl:Str}{pos':Pos}{n:Nat}{env:Env}:swapsWith value (some (.Attribute o fl pos')) n env=pure false:=by cases value<;>rfl
theorem c_(c:nH X.K C)(na:fT X.K C fl)(he:JE X e te)(hb:attributeBase e fl X.env (eval e X.env)=eval e X.env:=by rfl):JE X (.Attribute e fl pos) (dN C fl te):=by unfold JE at*;exact Mu c na he hb
theorem nC(c:nH X.K C)(na:fT X.K C fl)(ho:JE X o to)(hv:JE X value te):JS X (.Assign [.Attribute o fl pos'] value pos) (oK C fl to te):=by unfold JS;unfold JE at*;exact JM c na ho hv Df
theorem l6{pl:Sem Bool}(he:JE X o to)(c:nH X.K C)(hm:Meth X.K C m f)(F:bD X.prog X.w X.K X.mg X.base cD k f fd ps (cG S))(hr:cQ k X.A)(hb:Binds X.K fd ps [])(ha:JA X (e::es) t)
 (hs:notStar e=true:=by rfl) (hs2:gK es=true:=by rfl)
 (ht:eval (.Call (.Attribute o m apos) (e::es) [] pos) X.env=(do
   let ov ←eval o X.env
   standAt apos.atName
   let(f,first) ←holding [ov] (getMethod ov m pl)
   callWith pos f first (backTo pos (starEach (e::es) X.env)) (backToKw pos (keywordEach [] X.env))):=by rfl):
 JE X (.Call (.Attribute o m apos) (e::es) [] pos) (jC C m S to t):=by
 unfold JE at*
 unfold JA at ha
 exact PE.imp (HL he c hm F hr hb .nil CL ha (bQ hs) (k6 hs2) ht) fun _ _ _ h=>LE.Nk h
theorem JR(M:Mk X.K C f)(F:bD X.prog X.w X.K X.mg X.base cD k f fd ps (cG S))(hr:cQ (k+1) X.A)(hg:Gl X x)(hmg:X.mg x=some (.ref C))(hb:Binds X.K fd ps [])(ha:JA X (e::es) t)(hdb:(x==("__debug__":Str))=false)
 (hs:notStar e=true:=by rfl) (hs2:gK es=true:=by rfl):JE X (.Call (.Name x p) (e::es) [] pos) (CN C S t):=by
 unfold JE
 unfold JA at ha
 exact PE.imp (IC M F hr hg hmg hb .nil CL ha hdb (bQ hs) (k6 hs2)) fun _ _ _ h=>LE.make h
end
end L3
namespace L3
open PySem PySem.Spec L2
open PyProof.Rows hiding St
noncomputable def Jn(xs:Array Keyed)(i:Nat):Int:=match xs[i]? with
 |some p=>numOf p.2
 |none=>0
theorem nW{xs ys:Array Keyed}{i j:Nat}(h:xs[i]?=ys[j]?):Jn xs i=Jn ys j:=by unfold Jn;rw[h]
theorem md{xs:Array Keyed}{i j:Nat}(hj:j≤xs.size)(k:Nat):
 K (mirror xs i j ((j-i)/2)) k=K xs (if i≤k∧k<j then i+j-1-k else k)∧Jn (mirror xs i j ((j-i)/2)) k=Jn xs (if i≤k∧k<j then i+j-1-k else k):=by
 have e:=getElem?_mirror_all (i:=i) hj k
 split at e<;>rename_i h
 · rw[if_pos h];exact⟨K_congr e,nW e⟩
 · rw[if_neg h];exact⟨K_congr e,nW e⟩
theorem EV{xs:Array Keyed}{src d:Nat}(hs:src<xs.size)(hd:d≤src)(k:Nat):
 K (bubble xs src d) k=K xs (if k=src-d then src else if src-d<k∧k≤src then k-1 else k)∧Jn (bubble xs src d) k=Jn xs (if k=src-d then src else if src-d<k∧k≤src then k-1 else k):=by
 have e:=getElem?_bubble hs d hd k
 split at e<;>rename_i h
 · rw[if_pos h];exact⟨K_congr e,nW e⟩
 · rw[if_neg h]
   split at e<;>rename_i h2
   · rw[if_pos h2];exact⟨K_congr e,nW e⟩
   · rw[if_neg h2];exact⟨K_congr e,nW e⟩
noncomputable def mh(xs:Array Keyed)(i j:Nat):Prop:=K xs i<K xs j∨(K xs i=K xs j∧Jn xs i<Jn xs j)
noncomputable def jz(xs:Array Keyed)(k:Nat):Prop:=∀i j,i<j→j<k→mh xs i j
noncomputable def jc(n:Nat)(xs:Array Keyed)(k:Nat):Prop:=∀i j,i<j→k≤j→j<n→Jn xs i<Jn xs j
theorem jz.to{xs:Array Keyed}{k:Nat}(h:jz xs k):SortedTo xs k:=fun i j hij hj=>by
 rcases Nat.lt_or_eq_of_le hij with e|e
 · rcases h i j e hj with q|q<;>omega
 · subst e;exact Int.le_refl _
theorem jz.more{xs:Array Keyed}{n k m:Nat}(h:jz xs k)(t:jc n xs k)(s:SortedTo xs m)(hm:m≤n):jz xs m:=fun i j hij hj=>by
 by_cases hk:j<k
 · exact h i j hij hk
 · have a:=s i j (Nat.le_of_lt hij) hj
   have b:=t i j hij (Nat.le_of_not_lt hk) (Nat.lt_of_lt_of_le hj hm)
   unfold mh;omega
theorem jc.up{xs:Array Keyed}{n k m:Nat}(t:jc n xs k)(h:k≤m):jc n xs m:=fun i j a b c=>t i j a (Nat.le_trans h b) c
theorem jc.mix{xs ys:Array Keyed}{n k:Nat}(t:jc n xs k)(f:Nat→Nat)(hf:∀i,Jn ys i=Jn xs (f i))(h1:∀i,i<k→f i<k)(h2:∀i,k≤i→f i=i):jc n ys k:=fun i j a b c=>by
 rw[hf,hf,h2 j b]
 refine t _ _ ?_ b c
 by_cases hi:i<k
 · exact Nat.lt_of_lt_of_le (h1 i hi) b
 · rw[h2 i (Nat.le_of_not_lt hi)];exact a
section
variable {prog:Program}{w:World}{A:Around}{E:Value→Shared→Prop}{s:Shared}{a₀:Array Keyed}
theorem Ei{st:SortSt}{ok:Nat}{Q:Bool→SortSt→Prop}(h0:IntKeys a₀)(h1:1≤ok)(aI:ok≤a₀.size)(hB:SBase a₀ st)(hs:jz (arrOf st) ok)(ht:jc a₀.size (arrOf st) ok)
 (h:∀st',SBase a₀ st'→jz (arrOf st') a₀.size→Q true st'):wpS (model prog w) A E s (binarySort' 0 a₀.size ok) Q st:=by
 rw[binarySort'_eq]
 simp only[Nat.zero_add]
 refine wpS_bind (wpS_mono (wpS_forRange (I:=fun k c q=>c=(none,())∧SBase a₀ q∧k≤a₀.size∧jz (arrOf q) k∧jc a₀.size (arrOf q) k)
  (Q:=fun c q=>c=(none,())∧SBase a₀ q∧jz (arrOf q) a₀.size) ?st ?en ?be) ?po)
 case po=>rintro c q ⟨rfl,b1,b2⟩;exact wpS_pure (h q b1 b2)
 case be=>rw[show max ok 1=ok by omega];exact⟨rfl,hB,aI,hs,ht⟩
 case en=>
  rintro c q ⟨rfl,b1,b2,b3,_⟩
  rw[show max (max ok 1) a₀.size=a₀.size by omega]at b3
  exact⟨rfl,b1,b3⟩
 case st=>
  rintro k c q hk1 hk2 ⟨rfl,qB,_,qS,qT⟩
  refine wpS_bind (wpS_mono (wpS_forRange (I:=fun x c q'=>q'=q∧∃l r,c=(none,l,r)∧l≤r∧r≤k∧r-l≤k-x∧(∀i,i<l→K (arrOf q) i≤K (arrOf q) k)∧(∀i,r≤i→i<k→K (arrOf q) k<K (arrOf q) i))
   (Q:=fun c q'=>q'=q∧∃l,c=(none,l,l)∧l≤k∧(∀i,i<l→K (arrOf q) i≤K (arrOf q) k)∧(∀i,l≤i→i<k→K (arrOf q) k<K (arrOf q) i)) ?a ?b ?c) ?d)
  case c=>exact⟨rfl,0,k,rfl,by omega,by omega,by omega,fun i hi=>by omega,fun i x y=>by omega⟩
  case b=>
   rintro c q' ⟨rfl,l,r,rfl,e1,e2,e3,e4,e5⟩
   have:r=l:=by omega
   subst this
   exact⟨rfl,r,rfl,e2,e4,e5⟩
  case a=>
   rintro x c q' _ hx ⟨rfl,l,r,rfl,e1,e2,e3,e4,e5⟩
   dsimp only
   by_cases hlr:l≥r
   · rw[if_pos hlr]
     have:r=l:=by omega
     subst this
     exact wpS_pure ⟨rfl,r,rfl,e2,e4,e5⟩
   · rw[if_neg hlr]
     refine wpS_bind (wpS_ltK qB h0 hk2 (by omega) ?_)
     have so:=qS.to
     by_cases hl:K (arrOf q') k<K (arrOf q') ((l+r)/2)
     · simp only[hl,decide_true,if_true]
       exact wpS_pure ⟨rfl,l,(l+r)/2,rfl,by omega,by omega,by omega,e4,fun i x y=>Int.lt_of_lt_of_le hl (so _ _ x y)⟩
     · simp only[hl,decide_false,Bool.false_eq_true,if_false]
       refine wpS_pure ⟨rfl,(l+r)/2+1,r,rfl,by omega,by omega,by omega,fun i x=>?_,e5⟩
       have:=so i ((l+r)/2) (by omega) (by omega)
       omega
  case d=>
   rintro c q' ⟨rfl,l,rfl,hlk,e4,e5⟩
   show wpS _ _ _ _ (do moveDown' k l;pure (ForInStep.yield (none,()))) _ _
   rw[moveDown'_eq]
   have hks:k<(arrOf q').size:=by rw[qB.size];exact hk2
   have bb:=EV (xs:=arrOf q') hks (show k-l≤k by omega)
   rw[show k-(k-l)=l by omega]at bb
   refine wpS_bind (wpS_modify (wpS_pure ⟨rfl,qB.setArr (bubble_perm _ _ _),by omega,fun i j hij hj=>?_,jc.mix (qT.up (Nat.le_succ k)) _ (fun i=>(bb i).2) (fun i hi=>?_) (fun i hi=>?_)⟩))
   · show mh (bubble (arrOf q') k (k-l)) i j
     unfold mh
     rw[(bb i).1,(bb i).2,(bb j).1,(bb j).2]
     by_cases hil:i<l
     · rw[if_neg (show¬i=l by omega),if_neg (show¬(l<i∧i≤k) by omega)]
       by_cases hjl:j=l
       · rw[if_pos hjl]
         have x:=e4 i hil
         have y:=qT i k (by omega) (Nat.le_refl _) hk2
         omega
       · rw[if_neg hjl]
         by_cases hj2:l<j∧j≤k
         · rw[if_pos hj2];exact qS i (j-1) (by omega) (by omega)
         · rw[if_neg hj2];exact qS i j hij (by omega)
     · by_cases hie:i=l
       · rw[if_pos hie,if_neg (show¬j=l by omega),if_pos (show l<j∧j≤k by omega)]
         exact .inl (e5 _ (by omega) (by omega))
       · rw[if_neg hie,if_pos (show l<i∧i≤k by omega),if_neg (show¬j=l by omega),if_pos (show l<j∧j≤k by omega)]
         exact qS _ _ (by omega) (by omega)
   · show(if i=l then k else if l<i∧i≤k then i-1 else i)<k+1
     split
     · omega
     · split<;>omega
   · show(if i=l then k else if l<i∧i≤k then i-1 else i)=i
     rw[if_neg (by omega),if_neg (by omega)]
noncomputable def xC(xs:Array Keyed)(m q:Nat):Prop:=q+1≤m∧∀i j,i<j→j<m→(m≤i+(q+1)→K xs i=K xs j∧Jn xs i<Jn xs j)∧(i+(q+1)<m→(m≤j+(q+1)→K xs j<K xs i)∧mh xs j i)
theorem xC.all{xs:Array Keyed}{m q:Nat}(h:xC xs m q)(hm:m≤xs.size):(q=0∨0<q)∧∀i j,i<j→j<m→mh (mirror xs (m-(q+1)) m ((m-(m-(q+1)))/2)) j i:=by
 refine⟨by omega,fun i j hij hj=>?_⟩
 have b:=md (i:=m-(q+1)) (j:=m) hm
 unfold mh
 rw[(b i).1,(b i).2,(b j).1,(b j).2]
 by_cases hi:m-(q+1)≤i∧i<m
 · rw[if_pos hi,if_pos (show m-(q+1)≤j∧j<m by omega)]
   have:=(h.2 (m-(q+1)+m-1-j) (m-(q+1)+m-1-i) (by omega) (by omega)).1 (by omega)
   omega
 · rw[if_neg hi]
   by_cases hj2:m-(q+1)≤j∧j<m
   · rw[if_pos hj2]
     have:=((h.2 i (m-(q+1)+m-1-j) (by omega) (by omega)).2 (by omega)).1 (by omega)
     omega
   · rw[if_neg hj2]
     exact((h.2 i j hij hj).2 (by omega)).2
theorem xC.zero{xs:Array Keyed}{m:Nat}(h:xC xs m 0):∀i j,i<j→j<m→mh xs j i:=fun i j hij hj=>((h.2 i j hij hj).2 (by omega)).2
theorem m7{n:Nat}{xs:Array Keyed}{i j k:Nat}(t:jc n xs k)(hj:j≤xs.size)(hk:j≤k):jc n (mirror xs i j ((j-i)/2)) k:=
 t.mix _ (fun a=>(md hj a).2) (fun a ha=>by split<;>omega) fun a ha=>by rw[if_neg (by omega)]
theorem Ek{st:SortSt}{n:Nat}{Q:DescSt→SortSt→Prop}(h0:IntKeys a₀)(hn:n≤a₀.size)(hB:SBase a₀ st)(hs:xC (arrOf st) n 0)(ht:jc a₀.size (arrOf st) n)
 (h:∀m q st',SBase a₀ st'→n≤m→m≤a₀.size→xC (arrOf st') m q→jc a₀.size (arrOf st') m→Q (none,m,q) st'):
 wpS (model prog w) A E s (descLoop n a₀.size) Q st:=by
 unfold descLoop
 refine wpS_forRange (I:=fun x c st'=>∃q,c=(none,x,q)∧SBase a₀ st'∧xC (arrOf st') x q∧jc a₀.size (arrOf st') x) ?st ?en ⟨0,rfl,hB,hs,ht⟩
 case en=>
  rintro c st' ⟨q,rfl,b1,b2,b3⟩
  rw[show max n a₀.size=a₀.size by omega]at b2 b3⊢
  exact h _ q st' b1 hn (Nat.le_refl _) b2 b3
 case st=>
  rintro x c st' hx1 hx2 ⟨q,rfl,b1,b2,b3⟩
  dsimp only
  have hq:=b2.1
  have hsz:x≤(arrOf st').size:=by rw[b1.size];omega
  refine wpS_bind (wpS_ltK b1 h0 hx2 (by omega) ?_)
  by_cases hl:K (arrOf st') x<K (arrOf st') (x-1)
  · simp only[hl,decide_true,if_true]
    by_cases hq0:q>0
    · rw[if_pos hq0]
      have al:=(b2.all hsz).2
      have km:=md (i:=x-(q+1)) (j:=x) hsz
      refine wpS_bind (wpS_reverse (wpS_pure ⟨0,rfl,b1.setArr (mirror_perm _ _ _ _),⟨by omega,fun i j hij hj=>⟨fun hh=>by omega,fun hh=>⟨fun hj2=>?_,?_⟩⟩⟩,(m7 b3 hsz (Nat.le_refl _)).up (Nat.le_succ x)⟩))
      · have hjx:j=x:=by omega
        subst hjx
        show K (mirror (arrOf st') _ _ _) j<K (mirror (arrOf st') _ _ _) i
        rw[(km i).1,(km j).1,if_neg (show¬(j-(q+1)≤j∧j<j) by omega)]
        have key:∀t,t<j→K (arrOf st') (j-1)≤K (arrOf st') t:=fun t ht=>by
         by_cases e:t=j-1
         · rw[e];exact Int.le_refl _
         · have z:=b2.2 t (j-1) (by omega) (by omega)
           by_cases g:j≤t+(q+1)
           · have:=(z.1 g).1;omega
           · have:=(z.2 (by omega)).2;unfold mh at this;omega
        split
        · have:=key (j-(q+1)+j-1-i) (by omega);omega
        · have:=key i hij;omega
      · show mh (mirror (arrOf st') _ _ _) j i
        by_cases hjx:j<x
        · exact al i j hij hjx
        · have hjx:j=x:=by omega
          subst hjx
          refine .inl ?_
          rw[(km i).1,(km j).1,if_neg (show¬(j-(q+1)≤j∧j<j) by omega)]
          have key:∀t,t<j→K (arrOf st') (j-1)≤K (arrOf st') t:=fun t ht=>by
           by_cases e:t=j-1
           · rw[e];exact Int.le_refl _
           · have z:=b2.2 t (j-1) (by omega) (by omega)
             by_cases g:j≤t+(q+1)
             · have:=(z.1 g).1;omega
             · have:=(z.2 (by omega)).2;unfold mh at this;omega
          split
          · have:=key (j-(q+1)+j-1-i) (by omega);omega
          · have:=key i hij;omega
    · rw[if_neg hq0]
      have hq0:q=0:=by omega
      subst hq0
      have z0:=b2.zero
      have lx:∀i,i<x→K (arrOf st') x<K (arrOf st') i:=fun i hi=>by
       by_cases e:i=x-1
       · rw[e];exact hl
       · have:=z0 i (x-1) (by omega) (by omega);unfold mh at this;omega
      refine wpS_pure ⟨0,rfl,b1,⟨by omega,fun i j hij hj=>⟨fun hh=>by omega,fun hh=>⟨fun hj2=>?_,?_⟩⟩⟩,b3.up (Nat.le_succ x)⟩
      · have hjx:j=x:=by omega
        subst hjx;exact lx i hij
      · by_cases hjx:j<x
        · exact z0 i j hij hjx
        · have hjx:j=x:=by omega
          subst hjx;exact .inl (lx i hij)
  · simp only[hl,decide_false,Bool.false_eq_true,if_false]
    refine wpS_bind (wpS_ltK b1 h0 (by omega) hx2 ?_)
    by_cases hg:K (arrOf st') (x-1)<K (arrOf st') x
    · simp only[hg,decide_true,if_true]
      exact wpS_pure (h x q st' b1 hx1 (by omega) b2 b3)
    · simp only[hg,decide_false,Bool.false_eq_true,if_false]
      have he:K (arrOf st') x=K (arrOf st') (x-1):=by omega
      refine wpS_pure ⟨q+1,rfl,b1,⟨by omega,fun i j hij hj=>⟨fun hh=>?_,fun hh=>⟨fun hj2=>?_,?_⟩⟩⟩,b3.up (Nat.le_succ x)⟩
      · by_cases hjx:j<x
        · exact(b2.2 i j hij hjx).1 (by omega)
        · have hjx:j=x:=by omega
          subst hjx
          refine⟨?_,b3 i j hij (Nat.le_refl _) hx2⟩
          rw[he]
          by_cases e:i=j-1
          · rw[e]
          · exact((b2.2 i (j-1) (by omega) (by omega)).1 (by omega)).1
      · by_cases hjx:j<x
        · exact((b2.2 i j hij hjx).2 (by omega)).1 (by omega)
        · have hjx:j=x:=by omega
          subst hjx
          rw[he]
          exact((b2.2 i (j-1) (by omega) (by omega)).2 (by omega)).1 (by omega)
      · by_cases hjx:j<x
        · exact((b2.2 i j hij hjx).2 (by omega)).2
        · have hjx:j=x:=by omega
          subst hjx
          refine .inl ?_
          rw[he]
          exact((b2.2 i (j-1) (by omega) (by omega)).2 (by omega)).1 (by omega)
theorem w_{st:SortSt}{n:Nat}{Q:Option Nat→SortSt→Prop}(h0:IntKeys a₀)(h1:1≤n)(hn:n≤a₀.size)(hB:SBase a₀ st)(hs:∀i j,i<j→j<n→mh (arrOf st) j i)(ht:jc a₀.size (arrOf st) n)
 (h:∀m st',SBase a₀ st'→1≤m→m≤a₀.size→jz (arrOf st') m→jc a₀.size (arrOf st') m→Q (some m) st'):wpS (model prog w) A E s (tail3 n a₀.size) Q st:=by
 unfold tail3
 have hsz:n≤(arrOf st).size:=by rw[hB.size];exact hn
 refine wpS_bind (wpS_reverse ?_)
 have km:=md (xs:=arrOf st) (i:=0) (j:=n) hsz
 have s1:jz (mirror (arrOf st) 0 n ((n-0)/2)) n:=fun i j hij hj=>by
  unfold mh
  rw[(km i).1,(km i).2,(km j).1,(km j).2,if_pos (by omega),if_pos (by omega)]
  exact hs _ _ (by omega) (by omega)
 have t1:=m7 (i:=0) ht hsz (Nat.le_refl _)
 have hB':SBase a₀ (setArr st (mirror (arrOf st) 0 n ((n-0)/2))):=hB.setArr (mirror_perm _ _ _ _)
 refine wpS_bind (wpS_ascLoop h0 (Nat.le_refl _) h1 hn hB' s1.to fun m m1 m2 sm _=>wpS_pure (h m _ hB' (by omega) m2 (s1.more t1 sm m2) (t1.up m1)))
theorem xZ{st:SortSt}{n:Nat}{Q:Option Nat→SortSt→Prop}(h0:IntKeys a₀)(hn:n+1≤a₀.size)(hB:SBase a₀ st)(hs:xC (arrOf st) (n+1) 0)(ht:jc a₀.size (arrOf st) (n+1))
 (h:∀m st',SBase a₀ st'→1≤m→m≤a₀.size→jz (arrOf st') m→jc a₀.size (arrOf st') m→Q (some m) st'):wpS (model prog w) A E s (descPart n a₀.size) Q st:=by
 unfold descPart
 refine wpS_bind (wpS_lift (wpAny_rule ⟨rfl,?_⟩))
 refine wpS_bind (Ek h0 hn hB hs ht fun m q st' b1 b2 b3 b4 b5=>?_)
 dsimp only
 have hsz:m≤(arrOf st').size:=by rw[b1.size];exact b3
 by_cases hq:q>0
 · rw[if_pos hq]
   exact wpS_bind (wpS_reverse (w_ h0 (by omega) b3 (b1.setArr (mirror_perm _ _ _ _)) (b4.all hsz).2 (m7 b5 hsz (Nat.le_refl _)) h))
 · rw[if_neg hq]
   have:q=0:=by omega
   subst this
   exact w_ h0 (by omega) b3 b1 b4.zero b5 h
theorem Dr{st:SortSt}{Q:Option Nat→SortSt→Prop}(h0:IntKeys a₀)(h1:1≤a₀.size)(hB:SBase a₀ st)(ht:jc a₀.size (arrOf st) 1)
 (h:∀m st',SBase a₀ st'→1≤m→m≤a₀.size→jz (arrOf st') m→jc a₀.size (arrOf st') m→Q (some m) st'):wpS (model prog w) A E s (countRun' 0 a₀.size) Q st:=by
 rw[countRun0_eq]
 have s1:jz (arrOf st) 1:=fun i j hij hj=>by omega
 refine wpS_bind (wpS_ascLoop h0 (Nat.le_refl _) (Nat.le_refl 1) h1 hB s1.to fun n n1 n2 sn hor=>?_)
 dsimp only
 have s2:=s1.more ht sn n2
 by_cases hn:n=a₀.size
 · rw[if_pos (by simpa using hn)]
   exact wpS_pure (h n st hB n1 n2 s2 (ht.up n1))
 · rw[if_neg (by simpa using hn)]
   have hl:=hor.resolve_left hn
   by_cases hg:n>1
   · rw[if_pos hg]
     refine wpS_bind (wpS_ltK hB h0 (by omega) (by omega) ?_)
     by_cases hr:K (arrOf st) 0<K (arrOf st) (n-1)
     · simp only[hr,decide_true,if_true]
       exact wpS_pure (h n st hB n1 n2 s2 (ht.up n1))
     · simp only[hr,decide_false,Bool.false_eq_true,if_false]
       have hsz:n≤(arrOf st).size:=by rw[hB.size];exact n2
       have eqs:∀k,k<n→K (arrOf st) k=K (arrOf st) (n-1):=fun k hk=>by
        have x:=sn 0 k (by omega) hk
        have y:=sn k (n-1) (by omega) (by omega)
        omega
       have km:=md (xs:=arrOf st) (i:=0) (j:=n) hsz
       refine wpS_bind (wpS_reverse (xZ h0 (by omega) (hB.setArr (mirror_perm _ _ _ _)) ⟨by omega,fun i j hij hj=>⟨fun hh=>by omega,fun hh=>⟨fun hj2=>?_,?_⟩⟩⟩ (m7 (ht.up (by omega)) hsz (by omega)) h))
       · have hjn:j=n:=by omega
         subst hjn
         show K (mirror (arrOf st) _ _ _) j<K (mirror (arrOf st) _ _ _) i
         rw[(km i).1,(km j).1,if_neg (show¬(0≤j∧j<j) by omega),if_pos (by omega),eqs (0+j-1-i) (by omega)]
         exact hl
       · show mh (mirror (arrOf st) _ _ _) j i
         unfold mh
         rw[(km i).1,(km i).2,(km j).1,(km j).2,if_pos (show 0≤i∧i<n by omega)]
         by_cases hjn:j<n
         · rw[if_pos (by omega)]
           refine .inr ⟨(eqs _ (by omega)).trans (eqs _ (by omega)).symm,ht _ _ (by omega) (by omega) (by omega)⟩
         · have hjn:j=n:=by omega
           subst hjn
           rw[if_neg (by omega),eqs (0+j-1-i) (by omega)]
           exact .inl hl
   · rw[if_neg hg]
     have hn1:n=1:=by omega
     subst hn1
     refine xZ h0 (by omega) hB ⟨by omega,fun i j hij hj=>⟨fun hh=>by omega,fun hh=>?_⟩⟩ (ht.up (by omega)) h
     have hi0:i=0:=by omega
     have hj1:j=1:=by omega
     subst hi0;subst hj1
     exact⟨fun _=>hl,.inl hl⟩
theorem Eo{st:SortSt}{Q:Unit→SortSt→Prop}(h0:IntKeys a₀)(hB:SBase a₀ st)(ht:jc a₀.size (arrOf st) 1)(h2:2≤a₀.size)(h64:a₀.size<64)
 (h:∀st',(arrOf st').Perm a₀→failedOf st'=none→jz (arrOf st') a₀.size→Q () st'):wpS (model prog w) A E s sortRuns' Q st:=by
 rw[sortRuns'_eq]
 refine wpS_bind (wpS_get ?_)
 dsimp only
 have hmr:minRun' a₀.size a₀.size 0=a₀.size:=by
  cases e:a₀.size with
  |zero=>rw[e]at h2;omega
  |succ f=>rw[minRun'_succ,if_pos (by omega)]
 simp only[hB.size,hmr]
 have dn:∀ {q:SortSt},SBase a₀ q→jz (arrOf q) a₀.size→∃p,p=setPending q ((pendingOf q).push (0,a₀.size,0))∧(arrOf p).Perm a₀∧failedOf p=none∧pendingOf p= #[(0,a₀.size,0)]∧jz (arrOf p) a₀.size:=fun{q} b s=>
  ⟨_,rfl,b.perm,b.failed,by show(pendingOf q).push _=_;rw[b.pend];rfl,s⟩
 refine wpS_bind (wpS_mono (wpS_forRange
  (I:=fun x c q=>(x=0∧c=(none,0)∧q=st)∨(1≤x∧c=(none,a₀.size)∧(arrOf q).Perm a₀∧failedOf q=none∧pendingOf q= #[(0,a₀.size,0)]∧jz (arrOf q) a₀.size))
  (Q:=fun c q=>c=(none,a₀.size)∧(arrOf q).Perm a₀∧failedOf q=none∧pendingOf q= #[(0,a₀.size,0)]∧jz (arrOf q) a₀.size) ?st ?en (.inl ⟨rfl,rfl,rfl⟩)) ?po)
 case en=>
  rintro c q (⟨hx,_,_⟩|⟨_,hc,hD⟩)
  · omega
  · exact⟨hc,hD⟩
 case st=>
  rintro x c q _ hx (⟨rfl,rfl,rfl⟩|⟨_,rfl,hD⟩)
  · dsimp only
    rw[if_neg (by omega)]
    simp only[Nat.sub_zero,Nat.min_self,Nat.zero_add]
    refine wpS_bind (Dr h0 (by omega) hB ht fun m q2 b1 b2 b3 b4 b5=>?_)
    dsimp only
    by_cases hm:m<a₀.size
    · rw[if_pos hm]
      refine wpS_bind (wpS_lift (wpAny_rule ⟨rfl,?_⟩))
      refine wpS_bind (Ei h0 b2 b3 b1 b4 b5 fun q3 d1 d2=>?_)
      simp only[Bool.not_true,Bool.false_eq_true,if_false]
      refine wpS_bind (wpS_get ?_)
      have hb:(pendingOf q3).back?=none:=by rw[d1.pend];rfl
      rw[hb]
      dsimp only
      obtain⟨p,rfl,z⟩:=dn d1 d2
      exact wpS_bind (wpS_modify (wpS_pure (.inr ⟨by omega,rfl,z⟩)))
    · rw[if_neg hm]
      have hm:m=a₀.size:=by omega
      subst hm
      refine wpS_bind (wpS_get ?_)
      have hb:(pendingOf q2).back?=none:=by rw[b1.pend];rfl
      rw[hb]
      dsimp only
      obtain⟨p,rfl,z⟩:=dn b1 b4
      exact wpS_bind (wpS_modify (wpS_pure (.inr ⟨by omega,rfl,z⟩)))
  · dsimp only
    rw[if_pos (Nat.le_refl _)]
    exact wpS_pure ⟨rfl,hD⟩
 case po=>
  rintro c q ⟨rfl,d1,d2,d3,d4⟩
  dsimp only
  refine wpS_bind (wpS_mono (wpS_forRange (I:=fun _ c q'=>q'=q∧c=(none,())) (Q:=fun c q'=>q'=q∧c=(none,())) ?_ (fun _ _ z=>z) ⟨rfl,rfl⟩) ?_)
  · rintro x c q' _ _ ⟨rfl,rfl⟩
    refine wpS_bind (wpS_get ?_)
    rw[if_pos (by rw[d3];exact Nat.le_refl 1)]
    exact wpS_pure ⟨rfl,rfl⟩
  · rintro c q' ⟨rfl,rfl⟩
    exact wpS_pure (h _ d1 d2 d4)
end
end L3
namespace L2
open PySem PySem.Spec PyProof.Rows
structure Entry(K:PySem.W.Frag)(ts:List (Addr×Addr))(a:Addr)(ns:List Int)(H:Hp):Prop where
 lst:lY K H a (ns.map V.int)
 tab:∀q∈ts,H q.2=some (.kh #[])∧q.2≠a
theorem xU:∀ {vs:List Value} {ns:List Int},IntsAre vs ns→Vals (ns.map V.int) vs
 |_,_,.nil=> .nil
 |_,_,.cons n t h=> .cons ⟨t,rfl⟩ (xU h)
structure Jo(K:PySem.W.Frag)(ts:List (Addr×Addr))(h:Heap):Prop where
 hd:∀q∈ts,PySem.W.codeHdIn K q.1 q.2=true
 no:∀q∈ts,K.lookup q.2=none
 at':∀q∈ts,h.get? q.2=some (PySem.W.tabObj #[])
theorem EF{P:Program}{w:World}{K:PySem.W.Frag}{mg mb:Str→Option Value}{k:Nat}{fa a:Addr}{fd:FuncData}{x:Str}{sp:Sp}{s₁:Shared}{vs:List Value}{ns:List Int}{ts:List (Addr×Addr)}
 (KX:K.In s₁.heap) (hns:s₁.heap.Ns mainGlobals mg) (hb:s₁.heap.Ns builtinsNs mb) (hbb:∀x:Str,x≠"__name__"→mb x=bootBuiltins x) (hlim:s₁.heap.NoLimit) (hse:s₁.heap.NoSeer) (hgt:P.given.tree=none)
 (hbm:∃bm ob,mg "__builtins__"=some (.ref bm)∧bm≠builtinsNs∧s₁.heap.get? bm=some ob∧ob.cls= .type "module"∧ob.dict=some builtinsNs∧ob.data= .plain) (hT:Jo K ts s₁.heap) (hg:s₁.gens= #[])
 (ha:s₁.heap.get? a=some {cls:= .type "list",data:= .seq vs.toArray}) (hi:IntsAre vs ns) (hl:ns.length≤sizeLine) (hr:cQ k callerA)
 (F:∀base:Heap,K.In base→base.Ns mainGlobals mg→bD P w K mg base (fun _ _ _ _ _ _=>False) k fa fd [x] sp) (hbind:∀(s:Shared) (u:Value),BindsTo s fd ⟨[u],[]⟩ [(x,u)])
 (hsp:∀H:Hp,Entry K ts a ns H→sp [.ref a] H (fun v _=>v= .bl true) fun _ _ _=>False):
 codeAny (model P w) callerA (.call (.ref fa) ⟨[.ref a],[]⟩) (fun r s'=>r= .ok (.ret (.bool true))∧OldK s₁.heap s'.heap∧s'.os=s₁.os∧AllBare s'.gens) s₁:=by
 have rv:=xU hi
 have lenV:=hi.length
 have nta:∀q∈ts,q.2≠a:=fun q hq z=>by
  have:=hT.at' q hq
  rw[z,ha]at this
  cases this
 let sc:Option HO:=match K.lookup a with
  |some _=>none
  |none=>some (.gj {cls:= .type "list",data:= .seq vs.toArray} (.lst (ns.map V.int)))
 let H:Hp:=fun b=>if b=a then sc else if b∈ts.map (·.2)then some (.kh #[])else none
 have Ha:H a=sc:=if_pos rfl
 have Ht:∀q∈ts,H q.2=some (.kh #[]):=fun q hq=>by
  show(if q.2=a then sc else if q.2∈ts.map (·.2)then some (HO.kh #[])else none)=_
  rw[if_neg (nta q hq),if_pos (List.mem_map_of_mem hq)]
 have Hs:∀b u,H b=some u→(b=a∧K.lookup a=none∧u= .gj {cls:= .type "list",data:= .seq vs.toArray} (.lst (ns.map V.int)))∨(∃q∈ts,q.2=b∧u= .kh #[]):=fun b u e=>by
  have e':(if b=a then sc else if b∈ts.map (·.2)then some (HO.kh #[])else none)=some u:=e
  by_cases hba:b=a
  · rw[if_pos hba]at e'
    have e2:(match K.lookup a with
     |some _=>none
     |none=>some (HO.gj {cls:= .type "list",data:= .seq vs.toArray} (.lst (ns.map V.int))))=some u:=e'
    cases q:K.lookup a with
    |some o=>rw[q]at e2;cases e2
    |none=>rw[q]at e2;cases e2;exact .inl ⟨hba,rfl,rfl⟩
  · rw[if_neg hba]at e'
    by_cases hbt:b∈ts.map (·.2)
    · rw[if_pos hbt]at e';cases e'
      obtain⟨q,hq,e⟩:=List.mem_map.mp hbt
      exact .inr ⟨q,hq,e,rfl⟩
    · rw[if_neg hbt]at e';cases e'
 have aI:h7 P w H s₁.heap:=fun b u e=>by
  rcases Hs b u e with⟨rfl,_,rfl⟩|⟨q,hq,rfl,rfl⟩
  · exact⟨ha,by rw[List.length_map];exact hl,vs,_,rv,ha⟩
  · exact hT.at' q hq
 have hE:Entry K ts a ns H:=by
  refine⟨?_,fun q hq=>⟨Ht q hq,nta q hq⟩⟩
  cases q:K.lookup a with
  |some o=>
   have e:=KX a o q
   rw[ha]at e;cases e
   exact .inr ⟨_,vs.toArray,_,q,rfl,rfl,rfl,by rw[List.size_toArray,lenV];exact hl,by simpa using rv⟩
  |none=>
   refine .inl (.inr ⟨{cls:= .type "list",data:= .seq vs.toArray},?_⟩)
   rw[Ha]
   show(match K.lookup a with
    |some _=>none
    |none=>some (HO.gj {cls:= .type "list",data:= .seq vs.toArray} (.lst (ns.map V.int))))=_
   rw[q]
 have dictNo:∀ {b:Addr} {o:Obj},s₁.heap.get? b=some o→(∀es ep,o.data≠ .seq es ep)→o.cls≠ .none→H b=none:=fun{b o} e d1 d2=>by
  cases q:H b with
  |none=>rfl
  |some u=>
   rcases Hs b u q with⟨rfl,_,_⟩|⟨t,ht,rfl,_⟩
   · rw[ha]at e;cases e;exact absurd rfl (d1 _ _)
   · rw[hT.at' t ht]at e;cases e;exact absurd rfl d2
 have nsK:∀ {b:Addr} {m:Str→Option Value},s₁.heap.Ns b m→(o7 s₁.heap H).Ns b m:=fun{b m} ⟨o,es,ep,e,d,r⟩=>by
  refine⟨o,es,ep,pZ e ?_,d,r⟩
  cases q:H b with
  |none=>rfl
  |some u=>
   rcases Hs b u q with⟨rfl,_,_⟩|⟨t,ht,rfl,_⟩
   · rw[ha]at e;cases e;cases d
   · rw[hT.at' t ht]at e;cases e;cases d
 have hKb:K.In (o7 s₁.heap H):=fun b o e=>pZ (KX b o e) (by
  cases q:H b with
  |none=>rfl
  |some u=>
   rcases Hs b u q with⟨rfl,z,_⟩|⟨t,ht,rfl,_⟩
   · rw[z]at e;cases e
   · rw[hT.no t ht]at e;cases e)
 obtain⟨bm,ob,b1,b2,b3,b4,b5,b6⟩:=hbm
 have hbmK:(o7 s₁.heap H).get? bm=some ob:=pZ b3 (dictNo b3 (fun es ep z=>by rw[b6]at z;cases z) (fun z=>by rw[b4]at z;cases z))
 have seK:(o7 s₁.heap H).NoSeer:=by
  obtain⟨⟨m1,a1,a2⟩,⟨m2,c1,c2⟩,⟨m3,d1,d2⟩,⟨mg',bm',ob',e1,e2,e3,e4,e5⟩⟩:=hse
  refine⟨⟨m1,nsK a1,a2⟩,⟨m2,nsK c1,c2⟩,⟨m3,nsK d1,d2⟩,⟨mg',bm',ob',nsK e1,e2,pZ e3 ?_,e4,e5⟩⟩
  cases q:H bm' with
  |none=>rfl
  |some u=>
   rcases Hs bm' u q with⟨rfl,_,_⟩|⟨t,ht,rfl,_⟩
   · rw[ha]at e3;cases e3;exact absurd (show Value.type "list"=Value.type "module" from e4) (by intro z;injection z with z;exact absurd z (by decide))
   · rw[hT.at' t ht]at e3;cases e3;cases e4
 have hM:Mod K mg (o7 s₁.heap H):=⟨hKb,nsK hns,⟨mb,nsK hb,hbb⟩,let⟨mc,h1,h2⟩:=hlim;⟨mc,nsK h1,h2⟩,seK,⟨bm,ob,b1,b2,hbmK,b4,b5,b6⟩⟩
 have e0:uM P w K mg (o7 s₁.heap H) callerA [] s₁ H:=⟨rfl,hM,fun b o e=>HB e,Nat.le_of_eq (EZ _ _),trivial,fun b hb=>absurd (show b∈([]:List Addr)from hb) (by simp),aI,.of_eq hg,hgt⟩
 refine codeAny_mono ((F _ hKb (nsK hns)).run callerA [] s₁ H ⟨[.ref a],[]⟩ [.ref a] [.ref a] _ _ hr e0 (hbind s₁ (.ref a)) (.cons rfl .nil) (hsp H hE)) fun r s' h=>?_
 cases r with
 |error e=>exact False.elim h
 |ok fl=>
  cases fl with
  |next=>exact False.elim h
  |brk=>exact False.elim h
  |cont=>exact False.elim h
  |ret u=>
   obtain⟨v,H',os,bare,un,hok',r',q⟩:=h
   have q':v= .bl true:=q
   subst q'
   obtain rfl:u=Value.bool true:=r'
   have noF:∀b:Addr,b∉pG ([]:List Env):=fun b z=>absurd (show b∈([]:List Addr)from z) (by simp)
   refine⟨rfl,⟨fun b o e=>?_,fun b o e=>un.there b o e (by simp)⟩,os,bare⟩
   cases q:H b with
   |none=>exact .inl (un.keep b o e q (noF b) (by simp))
   |some u=>
    rcases Hs b u q with⟨rfl,_,rfl⟩|⟨t,ht,rfl,rfl⟩
    · obtain⟨e2,_⟩:=hok' b _ (un.nM b _ _ q)
      rw[ha]at e;cases e
      exact .inl e2
    · obtain⟨more,e1⟩:=un.nQ _ _ q
      have e2:s'.heap.get? t.2=some {cls:= .none,data:= .fields (#[]++more)}:=hok' _ _ e1
      have e3:=hT.at' t ht
      rw[e3]at e;cases e
      have C:PySem.W.CodeHd s₁.heap t.1 t.2:=PySem.W.codeHd_of_K KX (hT.hd t ht)
      exact .inr (.inl ⟨(C.tab e3).isCodeTable,rfl,#[],more,rfl,e2⟩)
theorem MR{l:PySem.W.OpenLaw}{n k:Nat}{q:Program}{loose:List Str}{XP:(Str→Option Value)→Heap→Prop}{YP:World→Heap→Prop}{d:DefRec}{K:Params→PySem.W.Frag}{sp:World→Sp}{x:Str}{ts:List (Addr×Addr)}
 (hn:l.most=some n) (hn2:n≤sizeLine) (hdf:d.params.defaults=[]) (hr:cQ k callerA) (hq:importsNone q=true) (hgt:l.prog.given.tree=none)
 (hY:∀(w:World) (h:Heap),YP w h→(K w.params).In h∧Jo (K w.params) ts h)
 (F:∀(w:World) (mg:Str→Option Value) (fa:Addr) (h:Heap),(K w.params).In h→h.Ns mainGlobals mg→mg d.name=some (.ref fa)→
   ∃fd:FuncData,(∀(s:Shared) (u:Value),BindsTo s fd ⟨[u],[]⟩ [(x,u)])∧
    ∀base:Heap,(K w.params).In base→base.Ns mainGlobals mg→bD l.prog w (K w.params) mg base (fun _ _ _ _ _ _=>False) k fa fd [x] (sp w))
 (hsp:∀(w:World) (H:Hp) (a:Addr) (ns:List Int),ns.length≤n→Entry (K w.params) ts a ns H→sp w [.ref a] H (fun v _=>v= .bl true) fun _ _ _=>False):
 PySem.W.WalkO q loose XP YP l.row.toRowW d [] (fun f vs=>PySem.call f vs):=by
 refine Att.AN hn hdf fun w s₀ s₁ mg mb fa o pm cd doc a vs ns G Y ho hd hcd hmg hobj hints hlen hg=>?_
 obtain⟨KX,hT⟩:=hY w _ Y
 obtain⟨fd,hb,hF⟩:=F w mg fa _ KX G.T.g hmg
 exact EF KX G.T.g G.T.b G.T.builtins G.T.nolimit (G.T.seer hq) hgt G.T.bmain hT hg hobj hints (Nat.le_trans hlen hn2) hr hF hb fun H hE=>hsp w H a ns hlen hE
end L2
namespace L3
open PySem PySem.Spec L2
open PyProof.Rows hiding St
section
variable {X:Cx}{pins:List (Addr×Obj)}{σ:L2.St}{H:Hp}{s:Shared}{p:Addr}{o o':Obj}{h':Heap}
theorem la{t':Nat}(I:Inv X pins σ H s)(hd:∀v,o.data≠ .cell v)(hfr:o.isFreed=false:=by rfl):Inv X (pins++[(s.heap.objs.size,o)]) σ H {s with heap:=s.heap.push o,toks:=t'}:=by
 have I':=I.kept (h':=s.heap.push o) (t':=t') (fun b u e=>Heap.get?_push_of_some _ e)
 refine I'.sD fun q hq=>?_
 rcases List.mem_append.mp hq with hq|hq
 · exact I'.pin q (List.mem_append_right _ hq)
 · have e:q=(s.heap.objs.size,o):=by simpa using hq
   subst e
   exact⟨Heap.get?_push_size _ hfr,I.aI.fresh (Nat.le_refl _),Nat.ne_of_gt I.lt,I.Kh (Nat.le_refl _),hd⟩
theorem fF(I:Inv X (pins++[(p,o)]) σ H s):s.heap.get? p=some o∧H p=none∧p≠X.env.locals∧p∉X.fs∧∀v,o.data≠ .cell v:=
 I.pin (p,o) (List.mem_append_right _ (List.mem_append_right _ (List.mem_singleton.mpr rfl)))
theorem zN(I:Inv X (pins++[(p,o)]) σ H s):∀x c,X.env.cells.lookup x=some c→c≠p:=fun x c e z=>by
 obtain⟨v,u,hu,hd⟩:=I.cell x c e
 obtain⟨h1,_,_,_,h5⟩:=fF I
 rw[z,h1]at hu;cases hu
 exact h5 v hd
theorem nR{t':Nat}(I:Inv X (pins++[(p,o)]) σ H s)(hs:Heap.SameBut p s.heap h')(hn:h'.get? p=some o')(hd:∀v,o'.data≠ .cell v)(h0:X.s₀.heap.objs.size≤p)(hp:∀q∈X.pn++pins,q.1≠p):
 Inv X (pins++[(p,o')]) σ H {s with heap:=h',toks:=t'}:=by
 obtain⟨_,n,neL,nfs,_⟩:=fF I
 have I0:Inv X pins σ H s:=I.hO
 have I1:=I0.turned (t':=t') (h':=h') (it:=p) (fun b u hb e=>(hs.2 b hb).trans e) n neL (.inr h0) (zN I) hp
 refine I1.sD fun q hq=>?_
 rcases List.mem_append.mp hq with hq|hq
 · exact I1.pin q (List.mem_append_right _ hq)
 · have e:q=(p,o'):=by simpa using hq
   subst e
   exact⟨hn,n,neL,nfs,hd⟩
theorem DX{u:HO}(I:Inv X (pins++[(p,o)]) σ H s)(h0:X.s₀.heap.objs.size≤p)(hp:∀q∈X.pn++pins,q.1≠p)(new:dj X.prog X.w (upd H p u) s.heap p u):Inv X pins σ (upd H p u) s:=by
 obtain⟨e0,n,neL,nfs,_⟩:=fF I
 have ne:∀ {b:Addr} {w:HO},H b=some w→b≠p:=fun e=>dq e n
 have ne0:∀ {b:Addr} {w:Obj},X.s₀.heap.get? b=some w→b≠p:=fun e=>Nat.ne_of_lt (Nat.lt_of_lt_of_le (Heap.lt_size e) h0)
 refine⟨I.ok,I.os,I.bare,⟨I.base.keep,I.base.slot,fun b w e q hx=>?_,I.base.there,fun b xs e=>?_,fun b w y e=>?_,fun b ps e=>?_⟩,I.loc,I.cell,?_,fun x c e=>?_,fun q hq=>?_,fun b w e=>?_,I.len⟩
 · rw[aQ (ne0 e)];exact I.base.free b w e q hx
 · have:=I.base.o3 b xs e;rw[aQ (ne this)];exact this
 · have:=I.base.nM b w y e;rw[aQ (ne this)];exact this
 · obtain⟨m,q⟩:=I.base.nQ b ps e
   exact⟨m,by rw[aQ (ne q)];exact q⟩
 · rw[aQ (Ne.symm neL)];exact I.free
 · rw[aQ (zN I x c e)];exact I.iI x c e
 · have hq':q∈X.pn++(pins++[(p,o)]):=by
    rcases List.mem_append.mp hq with z|z
    · exact List.mem_append_left _ z
    · exact List.mem_append_right _ (List.mem_append_left _ z)
   obtain⟨a1,a2,a3⟩:=I.pin q hq'
   exact⟨a1,by rw[aQ (hp q hq)];exact a2,a3⟩
 · by_cases hb:b=p
   · subst hb;rw[a5]at e;cases e;exact new
   · rw[aQ hb]at e
     exact(I.aI b w e).i4 (fun _ _ _ q=>q) (fun c q=>by rw[aQ (ne q)];exact q) fun c xs q=>by rw[aQ (ne q)];exact q
end
noncomputable def mR(X:Cx)(pins:List (Addr×Obj))(σ:L2.St)(R:Hp→Prop)(own:List (Addr×Obj))(s:Shared):Prop:=∃H,Inv X (pins++own) σ H s∧R H
section
variable {X:Cx}{pins:List (Addr×Obj)}{σ:L2.St}{R:Hp→Prop}{s:Shared}{A:Around}{E:Value→Shared→Prop}{a kS:Addr}{e1 e:Nat}{keys:Array Value}{P:PySem.Fin→Shared→Prop}
structure Own(X:Cx)(pins:List (Addr×Obj))(p:Addr):Prop where
 ge:X.s₀.heap.objs.size≤p
 ne:∀q∈X.pn++pins,q.1≠p
theorem tj{H:Hp}(I:Inv X pins σ H s):Own X pins s.heap.objs.size:=⟨I.sz,fun q hq=>Nat.ne_of_lt (Heap.lt_size (I.pin q hq).1)⟩
theorem zD{p:Addr}{q:Addr×Obj}(h:Own X pins p)(hq:q.1≠p):Own X (pins++[q]) p:=⟨h.ge,fun r hr=>by
 rcases List.mem_append.mp hr with z|z
 · exact h.ne r (List.mem_append_left _ z)
 · rcases List.mem_append.mp z with z|z
   · exact h.ne r (List.mem_append_right _ z)
   · have e:r=q:=by simpa using z
     rw[e];exact hq⟩
theorem Ar{x y:Addr×Obj}(J:mR X pins σ R [x,y] s):∃H,Inv X ((pins++[x])++[y]) σ H s∧R H:=by
 obtain⟨H,I,r⟩:=J
 exact⟨H,by rw[List.append_assoc];exact I,r⟩
theorem Dy{x y:Addr×Obj}{H:Hp}(I:Inv X ((pins++[x])++[y]) σ H s)(r:R H):mR X pins σ R [x,y] s:=⟨H,by rw[List.append_assoc]at I;exact I,r⟩
theorem z9{st:SortSt}(J:mR X pins σ R [(a,seqObj "list" #[] e1),(kS,seqObj "list" keys e)] s)(ha:Own X pins a)(hk:Own X pins kS)(hka:kS≠a)(hz1:keys.size≤sizeLine)(hz2:(arrOf st).size≤sizeLine)(hf:failedOf st=none)
 (h:∀s' c,mR X pins σ R [(a,seqObj "list" ((arrOf st).map (·.2)) c)] s'→P (.done (.ret .none)) s'):
 wpAny (model X.prog X.w) A (PyProof.Rows.ksk_tail a false e1 (.ref kS) st) P E s:=by
 obtain⟨H,I,r⟩:=Ar J
 have k1:=(fF I).1
 have s1:=Heap.SameBut.update s.heap kS (Obj.mapSeq fun _=>(#[]:Array Value))
 have I1:=nR (t':=s.toks) I s1 (get?_update_seq k1 fun _=> #[]) (fun v z=>by cases z) hk.ge (zD hk hka.symm).ne
 have I2:Inv X (pins++[(a,seqObj "list" #[] e1)]) σ H {s with heap:=s.heap.update kS (Obj.mapSeq fun _=>(#[]:Array Value)),toks:=s.toks}:=I1.hO
 have a1:=(fF I2).1
 have s2:=Heap.SameBut.update (s.heap.update kS (Obj.mapSeq fun _=>(#[]:Array Value))) a (Obj.mapSeq fun _=>(arrOf st).map (·.2))
 have I3:=nR (t':=s.toks) I2 s2 (get?_update_seq a1 fun _=>(arrOf st).map (·.2)) (fun v z=>by cases z) ha.ge ha.ne
 unfold ksk_tail
 simp only[Bool.false_eq_true,if_false]
 refine wpAny_bind (listUpdate_at k1 rfl ?_ hz1 (Nat.zero_le _))
 refine wpAny_bind (wpAny_letGo ?_)
 refine wpAny_bind (seqEpoch_at a1 rfl ?_)
 refine wpAny_bind (listUpdate_at a1 rfl ?_ (Nat.zero_le _) (Nat.le_succ_of_le (by rw[Array.size_map];exact hz2)))
 rw[hf]
 simp only[bne_self_eq_false,Bool.false_eq_true,if_false]
 exact wpAny_pure (h _ _ ⟨H,I3,r⟩)
noncomputable def C7(kz:List Int)(vs out:List Value):Prop:=
 ∃ps:List (Int×Value),ps.Perm (kz.zip vs)∧out=ps.map Prod.snd∧ps.Pairwise fun p q=>p.1<q.1∨(p.1=q.1∧numOf p.2<numOf q.2)
theorem BM{kz:List Int}{vs:List Value}(hk:IntsAre keys.toList kz){xs:Array Keyed}(hp:xs.Perm (keys.zip vs.toArray))(hs:jz xs xs.size):C7 kz vs (xs.map (·.2)).toList:=by
 have hl:xs.toList.Perm (keys.toList.zip vs):=by rw[←ksk_zip];exact Array.perm_iff_toList_perm.mp hp
 refine⟨xs.toList.map fun p=>(numOf p.1,p.2),?_,?_,?_⟩
 · have e2:(keys.toList.zip vs).map (fun p:Keyed=>(numOf p.1,p.2))=kz.zip vs:=by
    rw[←hk.nums,List.zip_map_left]
    exact List.map_congr_left fun⟨x,y⟩ _=>rfl
   rw[←e2]
   exact hl.map _
 · rw[Array.toList_map,List.map_map];rfl
 · rw[List.pairwise_iff_getElem]
   intro i j hi hj hij
   have hi':i<xs.size:=by simpa using hi
   have hj':j<xs.size:=by simpa using hj
   have q:=hs i j hij hj'
   unfold mh Jn at q
   rw[K_eq hi',K_eq hj',getElem?_pos xs i hi',getElem?_pos xs j hj']at q
   simpa using q
theorem Ib{kz:List Int}{vs:List Value}(J:mR X pins σ R [(a,seqObj "list" #[] e1),(kS,seqObj "list" keys e)] s)(ha:Own X pins a)(hk:Own X pins kS)(hka:kS≠a)(hi:IntsAre keys.toList kz)(hl:kz.length=vs.length)(h64:vs.length<64)
 (hup:vs.Pairwise fun x y=>numOf x<numOf y)
 (h:∀s' out c,mR X pins σ R [(a,seqObj "list" out c)] s'→C7 kz vs out.toList→P (.done (.ret .none)) s'):
 wpAny (model X.prog X.w) A (ksk_end a false vs.toArray e1 (.ref kS) keys) P E s:=by
 have hsz:keys.size=vs.length:=by have:=hi.length;rw[Array.length_toList]at this;omega
 have hzs:(keys.zip vs.toArray).size=vs.length:=by rw[Array.size_zip,hsz,List.size_toArray,Nat.min_self]
 have hbig:vs.length≤sizeLine:=Nat.le_trans (Nat.le_of_lt h64) (by decide)
 have hta:jc (keys.zip vs.toArray).size (keys.zip vs.toArray) 1:=fun i j hij _ hj=>by
  rw[hzs]at hj
  have e1:(keys.zip vs.toArray)[i]?=some (keys.toList[i]'(by rw[Array.length_toList];omega),vs[i]'(by omega)):=by
   rw[←Array.getElem?_toList,ksk_zip,List.getElem?_eq_getElem (by rw[List.length_zip,Array.length_toList];omega),List.getElem_zip]
  have e2:(keys.zip vs.toArray)[j]?=some (keys.toList[j]'(by rw[Array.length_toList];omega),vs[j]'(by omega)):=by
   rw[←Array.getElem?_toList,ksk_zip,List.getElem?_eq_getElem (by rw[List.length_zip,Array.length_toList];omega),List.getElem_zip]
  unfold Jn
  rw[e1,e2]
  exact List.pairwise_iff_getElem.mp hup i j (by omega) (by omega) hij
 unfold ksk_end
 simp only[Bool.false_eq_true,if_false]
 by_cases h2:vs.toArray.size<2
 · rw[if_pos h2,if_pos h2]
   refine wpAny_bind (wpAny_pure ?_)
   rw[StateT.run_pure]
   refine wpAny_bind (wpAny_pure ?_)
   refine z9 (st:=SortSt.mk' general' (keys.zip vs.toArray) #[] 7 none) J ha hk hka (by omega) (by show(keys.zip vs.toArray).size≤_;omega) rfl fun s' c J'=>h s' _ c J' ?_
   refine BM hi (Array.Perm.refl _) fun i j hij hj=>?_
   have hj':j<(keys.zip vs.toArray).size:=hj
   rw[List.size_toArray]at h2
   omega
 · rw[if_neg h2,if_neg h2]
   rw[List.size_toArray]at h2
   rw[ksk_kind hi (by omega)]
   refine wpAny_bind (wpAny_pure ?_)
   refine wpAny_bind (wpAny_mono (Eo (a₀:=keys.zip vs.toArray) (st:=SortSt.mk' oneType' (keys.zip vs.toArray) #[] 7 none)
    (Q:=fun _ st'=>(arrOf st').Perm (keys.zip vs.toArray)∧failedOf st'=none∧jz (arrOf st') (keys.zip vs.toArray).size)
    (ksk_intKeys hi) ⟨Array.Perm.refl _,rfl,rfl,rfl⟩ hta (by omega) (by omega) fun st' b1 b2 b3=>⟨b1,b2,b3⟩) ?_ fun _ _ z=>z)
   rintro⟨⟨⟩,st'⟩ s' ⟨rfl,hp,hf,hs⟩
   have hz2:=hp.size_eq
   refine z9 (st:=st') J ha hk hka (by omega) (by rw[hz2];omega) hf fun s' c J'=>h s' _ c J' (BM hi hp (by rw[hz2];exact hs))
theorem E7{f:Value}{kz:List Int}{vs:List Value}(J:mR X pins σ R [(a,seqObj "list" #[] e1),(kS,seqObj "list" #[] 0)] s)(ha:Own X pins a)(hk:Own X pins kS)(hka:kS≠a)(hl:kz.length=vs.length)(h64:vs.length<64)
 (hup:vs.Pairwise fun x y=>numOf x<numOf y)
 (turn:∀(i:Nat) (v:Value) (k:Int),vs[i]?=some v→kz[i]?=some k→∀(own:List (Addr×Obj)) (s:Shared),mR X pins σ R own s→wpAny (model X.prog X.w) A (call f [v]) (fun u s'=>(∃t,u= .int k t)∧mR X pins σ R own s') (fun _ _=>False) s)
 (h:∀s' out c,mR X pins σ R [(a,seqObj "list" out c)] s'→C7 kz vs out.toList→P (.done (.ret .none)) s'):
 wpAny (model X.prog X.w) A (ksk_rest a f false vs.toArray e1 (.ref kS)) P E s:=by
 have hbig:vs.length≤sizeLine:=Nat.le_trans (Nat.le_of_lt h64) (by decide)
 unfold ksk_rest
 refine wpAny_bind (wpAny_rule ?_)
 first
  |rw[List.forIn_toArray]
  |(rw[←Array.forIn_toList];simp only[List.toList_toArray])
  |rw[←Array.forIn_toList]
 refine wpAny_bind (ksk_fold (fun i s'=>∃kA e,mR X pins σ R [(a,seqObj "list" #[] e1),(kS,seqObj "list" kA e)] s'∧IntsAre kA.toList (kz.take i)) vs 0 s ⟨#[],0,J,by simpa using IntsAre.nil⟩ ?st ?en)
 case st=>
  rintro j x s' hx ⟨kA,e,J',hk'⟩
  simp only[Nat.zero_add]at hk'⊢
  have hj:j<vs.length:=(List.getElem?_eq_some_iff.mp hx).1
  have hkj:kz[j]?=some (kz[j]'(by omega)):=List.getElem?_eq_getElem _
  have hz:kA.size≤vs.length:=by
   have:=hk'.length
   rw[Array.length_toList,List.length_take]at this
   omega
  refine wpAny_bind (wpAny_attempt (wpAny_mono (turn j x _ hx hkj _ s' J') (fun v s2 he=>?_) fun _ _ z=>z.elim))
  obtain⟨⟨t,rfl⟩,J2⟩:=he
  obtain⟨H,I,r⟩:=Ar J2
  have k1:=(fF I).1
  have s1:=Heap.SameBut.update s2.heap kS (Obj.mapSeq (·.push (.int (kz[j]'(by omega)) t)))
  have I1:=nR (t':=s2.toks) I s1 (get?_update_seq k1 (·.push (.int (kz[j]'(by omega)) t))) (fun v z=>by cases z) hk.ge (zD hk hka.symm).ne
  refine wpAny_bind (listUpdate_at k1 rfl ?_ (by omega) (Nat.le_trans (Nat.le_of_eq (Array.size_push ..)) (by omega)))
  refine wpAny_pure ⟨rfl,_,_,Dy I1 r,?_⟩
  have ek:kz.take (j+1)=kz.take j++[kz[j]'(by omega)]:=by rw[List.take_add_one,hkj];simp
  rw[ek,Array.toList_push]
  exact ksk_snoc hk'
 case en=>
  rintro s' ⟨kA,e,J',hk'⟩
  rw[show kz.take (0+vs.length)=kz from List.take_of_length_le (by omega)]at hk'
  obtain⟨H,I,r⟩:=Ar J'
  refine wpAny_bind (listItems_at (fF I).1 rfl ?_)
  exact Ib J' ha hk hka hk' hl h64 hup h
theorem CD{f:Addr}{l:Addr}{kz:List Int}{vs:List Value}{H:Hp}{Q:Value→Shared→Prop}(I:Inv X pins σ H s)(r:R H)(hli:s.heap.IsList l vs.toArray)(hl:kz.length=vs.length)(h64:vs.length<64)
 (hup:vs.Pairwise fun x y=>numOf x<numOf y)
 (turn:∀(i:Nat) (v:Value) (k:Int),vs[i]?=some v→kz[i]?=some k→∀(own:List (Addr×Obj)) (s:Shared),mR X pins σ R own s→wpAny (model X.prog X.w) A.in1.in1 (call (.ref f) [v]) (fun u s'=>(∃t,u= .int k t)∧mR X pins σ R own s') (fun _ _=>False) s)
 (h:∀D s' out c,Own X pins D→mR X pins σ R [(D,seqObj "list" out c)] s'→C7 kz vs out.toList→Q (.ref D) s'):
 wpAny (model X.prog X.w) A (call (.builtin "sorted") [.ref l] [(Str.ofString "key",.ref f)]) Q E s:=by
 have hbig:vs.length≤sizeLine:=Nat.le_trans (Nat.le_of_lt h64) (by decide)
 refine call_function_entry_kw kind_sorted plain_sorted entry_sorted (ksk_s1 _ _) ?_
 unfold Builtin.«sorted»
 refine wpAny_bind (m:=checkCount "sorted" 1 1 _) (wpAny_pure ?_)
 refine wpAny_bind (collect_list hli ?_ hbig)
 have I1:=la (o:=seqObj "list" #[] 0) (t':=s.toks) I (fun v z=>by cases z)
 have s1:=Heap.SameBut.update (s.heap.push (seqObj "list" #[] 0)) s.heap.objs.size (Obj.mapSeq (· ++vs.toArray))
 have I2:=nR (t':=s.toks) I1 s1 (get?_update_seq (fF I1).1 (· ++vs.toArray)) (fun v z=>by cases z) (tj I).ge (tj I).ne
 have I3:Inv X pins σ H {s with heap:=(s.heap.push (seqObj "list" #[] 0)).update s.heap.objs.size (Obj.mapSeq (· ++vs.toArray)),toks:=s.toks}:=I2.hO
 refine wpAny_bind (wpAny_newList ?_ hbig)
 generalize hs3:({s with heap:=(s.heap.push (seqObj "list" #[] 0)).update s.heap.objs.size (Obj.mapSeq (· ++vs.toArray))}:Shared)=s3
 have I3':Inv X pins σ H s3:=by rw[←hs3];exact I3
 have oD:=tj I3'
 have I4:=la (o:=seqObj "list" vs.toArray 0) (t':=s3.toks) I3' (fun v z=>by cases z)
 have hD:=(fF I4).1
 refine wpAny_bind (wpAny_holding (wpAny_call_entry_kw slot_list_sort ⟨_,hD,rfl⟩ entry_list_sort ?body (ksk_l1 _ _)))
 case body=>
  show wpAny (model X.prog X.w) A.in1.in1 (Builtin.«list.sort» ⟨[.ref s3.heap.objs.size],[(Str.ofString "key",.ref f)]⟩) _ _ _
  rw[ksk_t1]
  unfold ksk_tree
  refine wpAny_bind (listItems_at hD rfl ?_)
  have s5:=Heap.SameBut.update (s3.heap.push (seqObj "list" vs.toArray 0)) s3.heap.objs.size (Obj.mapSeq fun _=>(#[]:Array Value))
  have I5:=nR (t':=s3.toks) I4 s5 (get?_update_seq hD fun _=> #[]) (fun v z=>by cases z) oD.ge oD.ne
  have hD5:=(fF I5).1
  refine wpAny_bind (listUpdate_at hD rfl ?_ (by rw[List.size_toArray];exact hbig) (Nat.zero_le _))
  refine wpAny_bind (seqEpoch_at hD5 rfl ?_)
  refine wpAny_bind (wpAny_newTuple ?_ (by show vs.length≤_;exact hbig))
  have I6:=(la (o:=seqObj "tuple" vs.toArray 0) (t':=s3.toks) I5 (fun v z=>by cases z)).hO
  refine wpAny_bind (wpAny_newList ?_ (Nat.zero_le _))
  have ok:=tj I6
  have I7:=la (o:=seqObj "list" #[] 0) (t':=s3.toks) I6 (fun v z=>by cases z)
  refine wpAny_holding ?_
  have okp:Own X pins _:=⟨ok.ge,fun q hq=>ok.ne q (by
   rcases List.mem_append.mp hq with z|z
   · exact List.mem_append_left _ z
   · exact List.mem_append_right _ (List.mem_append_left _ z))⟩
  refine E7 (Dy I7 r) oD okp (fun z=>ok.ne (s3.heap.objs.size,_) (List.mem_append_right _ (List.mem_append_right _ (List.mem_singleton.mpr rfl))) z.symm) hl h64 hup turn fun s' out c J' so=>⟨_,rfl,?_⟩
  exact wpAny_pure ⟨_,rfl,h _ s' out c oD J' so⟩
end
end L3
namespace L3
open PySem PySem.Spec L2
open PyProof.Rows hiding St
structure mV(X:Cx)(scope:Scope)(Nc:List Str)(fr:List (Option Nat))(p:Str):Prop where
 sc:bj X scope Nc fr
 D4:∀x∈scope.names,x.2≠ .cell
 co:scope.isCoroutine=false
 gen:scope.isGenerator=false
 p0:Nc[0]?=some p
 f0:fr[0]?=some none
 loc:scope.names.lookup p=some .local
noncomputable abbrev Cz(X:Cx)(scope:Scope)(qual:Str)(f c:Addr)(s:Shared):Env:=PySem.W.envX qual scope s.heap.objs.size f (.ref c) (df X.env.cells scope.names [])
noncomputable def Ds(X:Cx)(scope:Scope)(Nc:List Str)(qual:Str)(f c:Addr)(s:Shared)(H:Hp):Cx:=
 {X with A:=X.A.in1.in1.deeper (Cz X scope qual f c s),N:=Nc,s₀:=s,H₀:=H,env:=Cz X scope qual f c s,outer:=X.stack,stack:=Cz X scope qual f c s::X.stack,ex:=[],fn:=fun _=>false,calm:=true,pn:=[],xe:=fun _ _=>False}
section
variable {X:Cx}{scope:Scope}{Nc:List Str}{fr:List (Option Nat)}{p qual:Str}{f c:Addr}{pins:List (Addr×Obj)}{σ:L2.St}{H:Hp}{s:Shared}
theorem Km(S:mV X scope Nc fr p)(I:Inv X pins σ H s)(hc:X.calm=true):(Ds X scope Nc qual f c s H).Ok where
 mod:=I.ok.mod
 kind:=S.sc.kind
 glob:=rfl
 blt:=rfl
 above:=Nat.le_refl _
 inj:=fun x y a h1 h2=>I.ok.inj x y a (cT _ [] (fun _ _ e=>by cases e) x a h1) (cT _ [] (fun _ _ e=>by cases e) y a h2)
 has:=fun x hx=>by
  have hx':scope.names.lookup x=some .cell∨scope.names.lookup x=some .free:=hx
  rcases hx' with hx|hx
  · exact absurd rfl (S.D4 _ (PySem.mem_of_lookup hx))
  · exact i8 scope.names [] (I.ok.has x (S.sc.free _ (PySem.mem_of_lookup hx) rfl)) (.inl (PySem.mem_of_lookup hx))
 zr:=fun x a hf _=>by cases hf
 hd:=fun _=>I.ok.hd hc
 frames:=Around.frames_deeper (by show X.A.frames=_;exact I.ok.frames)
 BC:= .inr ⟨rfl,rfl⟩
 D1:=fun b hb=>by cases hb
 bs:=I.bs
 qY:=Nat.le_trans I.ok.qY I.sz
 uv:=fun b o e hb=>by cases hb
 uH:=fun b hb=>by cases hb
 kP:=I.stack
 uV:=I.wM
 gt:=I.ok.gt
theorem IA{h':Heap}{t':Nat}{v:V}{u:Value}(S:mV X scope Nc fr p)(I:Inv X pins σ H s)(hc:X.calm=true)(r:RelV v u)(hn:h'.Ns s.heap.objs.size (fun x=>[(p,u)].reverse.lookup x))
 (k:∀b o,s.heap.get? b=some o→h'.get? b=some o):Inv (Ds X scope Nc qual f c s H) [] ((σC fr σ).set 0 (some v)) H {s with heap:=h',toks:=t'} where
 ok:=Km S I hc
 os:=rfl
 bare:=I.bare
 base:=Un.kept k
 loc:=⟨_,hn,fun i x w h1 h2 h3=>by
  by_cases hi:i=0
  · subst hi
    have hp:=S.p0
    have e:p=x:=Option.some.inj (hp.symm.trans h1)
    subst e
    have hl:0<(σC fr σ).length:=by
     have:=(List.getElem?_eq_some_iff.mp h2).1
     rw[List.length_set]at this;exact this
    rw[List.getElem?_set_self hl]at h2
    cases h2
    exact⟨u,r,.inl ⟨S.loc,by simp⟩⟩
  · rw[List.getElem?_set_ne (Ne.symm hi)]at h2
    obtain⟨j,q1,q2⟩:=Br h2
    obtain⟨n1,n2,n3⟩:=S.sc.map i j x h1 q1
    obtain⟨m,hm,hl⟩:=I.loc
    obtain⟨u',r',lk⟩:=hl j x w n1 q2 (n3.elim (fun z=> .inr (.inl z)) fun z=> .inr (.inr z))
    refine⟨u',r',?_⟩
    rcases lk with⟨z,_⟩|⟨_,a,e,ic⟩
    · rcases n3 with y|y<;>(rw[y]at z;cases z)
    · obtain⟨a',e'⟩:=i8 scope.names [] ⟨a,e⟩ (.inl (PySem.mem_of_lookup n2))
      have e2:=cT _ [] (fun _ _ e=>by cases e) x a' e'
      rw[e]at e2;cases e2
      exact .inr ⟨.inr n2,a,e',ic.keeps k⟩⟩
 cell:=fun x a h=>by
  obtain⟨v,q⟩:=I.cell x a (cT _ [] (fun _ _ e=>by cases e) x a h)
  exact⟨v,q.keeps k⟩
 free:=I.aI.fresh (Nat.le_refl _)
 iI:=fun x a h=>I.iI x a (cT _ [] (fun _ _ e=>by cases e) x a h)
 pin:=fun q hq=>by cases hq
 aI:=I.aI.kept k
 len:=by rw[List.length_set];unfold σC;rw[List.length_map];exact S.sc.len
theorem Gh{R:Hp→Prop}{params:Arguments}{body:Expr}{tb:TE}{own:List (Addr×Obj)}{k:Int}{v:V}{u pm ctv:Value}(S:mV X scope Nc fr p)(hc:X.calm=true)(hr:X.A.depth<recursionLimit)
 (hb:∀(s:Shared) (H:Hp),PE (Ds X scope Nc qual f c s H) body tb)
 (hbind:∀(cl:List (Str×Addr)) (pm cd ct v:Value),bindArgs (PySem.W.kla_fn "<lambda>" qual params body scope cl pm cd ct) ⟨[v],[]⟩=pure [(p,v)])
 (r:RelV v u) (hf:(f,PySem.W.kla_obj "<lambda>" qual params body scope (df X.env.cells scope.names []) pm c ctv)∈pins)
 (hcr:∀(H:Hp) (s:Shared),Inv X (pins++own) σ H s→R H→s.heap.CodeRec (.ref c) qual)
 (hq:∀H,R H→tb ((σC fr σ).set 0 (some v)) H fun x H'=>x= .int k∧R H') (J:mR X pins σ R own s):
 wpAny (model X.prog X.w) X.A.in1.in1 (call (.ref f) [u]) (fun u' s'=>(∃t,u'= .int k t)∧mR X pins σ R own s') (fun _ _=>False) s:=by
 obtain⟨H,I,rH⟩:=J
 have ho:=(I.pin _ (List.mem_append_right _ (List.mem_append_left _ hf))).1
 refine wpAny_call (PySem.W.kla_callFunE (fd:=PySem.W.kla_fn "<lambda>" qual params body scope (df X.env.cells scope.names []) pm (.ref c) ctv) (by show X.A.depth<_;exact hr) ho rfl S.co S.gen rfl (hcr H s I rH) ?_)
 rw[hbind]
 refine wpAny_pure (wpAny_newFunctionEnv S.D4 (fun y hy=>by
  have e:y=(p,u):=by simpa using hy
  rw[e];exact S.loc) (fun h₁ hns hsb=>?_) S.sc.kind)
 have hk:∀b o,s.heap.get? b=some o→h₁.get? b=some o:=fun b o e=>hsb.extBut b o (Nat.ne_of_lt (Heap.lt_size e)) (Heap.get?_push_of_some _ e)
 refine⟨I.nolimit.keeps hk,?_⟩
 show codeAny _ X.A.in1.in1 (.expr body (Cz X scope qual f c s)) _ _
 refine PySem.W.kla_codeExpr (wpAny_mono (hb s H [] _ _ H _ (IA S I hc r hns hk) (hq H rH)) (fun w s' he=>?_) fun e s' z=>False.elim z)
 obtain⟨x,H',I',rx,rfl,rH'⟩:=he
 exact⟨rx,H',I.Cp (s':=s') (ch:=[]) I'.os I'.base I'.aI I'.bare (fun b z=>absurd z (by simp)),rH'⟩
theorem set_same{α:Type}:∀ {l:List α} {n:Nat} {x:α},l[n]?=some x→l.set n x=l
 | [],n,x,h=>by simp at h
 |a::l,0,x,h=>by simp at h;subst h;rfl
 |a::l,n+1,x,h=>by
  rw[List.set_cons_succ,set_same (n:=n) (by simpa using h)]
theorem FX{params:Arguments}{body:Expr}{lpos:Pos}{c0 T:Addr}{α:List (Option Addr)}{G F:Hp}{st:af}{n0:Nat}{b:Bool}{E:Value→Shared→Prop}{Q:Value→Shared→Prop}(S:mV X scope Nc fr p)(hcode:X.env.code= .ref c0)(hC:PySem.W.codeHdIn X.K c0 T=true)
 (hdef:defaultsOf params X.env=([],[])) (hql:X.env.qual++"<lambda>"=qual) (I:Inv X pins σ H s) (Sp:cm G F H) (SR:aY α st G) (hn0:st[n0]?=some (.tab T lpos qual b))
 (h:∀(f c:Addr) (ctv pm:Value) (G2 H2:Hp) (s2:Shared),Inv X (pins++[(f,PySem.W.kla_obj "<lambda>" qual params body scope (df X.env.cells scope.names []) pm c ctv)]) σ H2 s2→Step α G α G2→cm G2 F H2→aY α (st.set n0 (.tab T lpos qual true)) G2→
   (some c∉α∧∃o vs t,G2 c=some (.gj o (.own c))∧o.data= .fields vs∧vs[1]?=some (.str qual t))→Q (.ref f) s2):
 wpAny (model X.prog X.w) X.A (eval (.Lambda params body scope lpos) X.env) Q E s:=by
 refine PySem.W.kla_eval hdef ?_
 rw[hql]
 rcases SR.at' n0 _ hn0 with⟨z,_⟩|⟨a,ha,rfl,ps,gP,tr,cs⟩
 · cases z
 have hP:=I.aI a _ (Sp.get gP)
 have hP:s.heap.get? a=some (PySem.W.tabObj ps):=hP
 have hg:s.heap.Ns mainGlobals X.mg:=I.mod.glob.keeps I.bk
 obtain⟨bm,ob,b1,b2,b3,b4,b5,b6⟩:=I.mod.bmain
 have b3':=I.bk _ _ b3
 have hgP:mainGlobals≠a:=fun q=>by
  obtain⟨o,es,ep,e,hd,_⟩:=hg
  rw[q,hP]at e;cases e;cases hd
 have n1:bm≠mainGlobals:=fun q=>by
  obtain⟨o,es,ep,e,hd,_⟩:=hg
  rw[q,e]at b3';cases b3';rw[hd]at b6;cases b6
 have n2:bm≠a:=fun q=>by rw[q,hP]at b3';cases b3';cases b4
 have hB:s.heap.BuiltinsAt X.mg a:=⟨bm,ob,b1,b2,n1,n2,b3',b4,b5,b6⟩
 have hcl:closureFor scope X.env=pure (df X.env.cells scope.names []):=mJ fun x hx hk=>I.ok.has x.1 (S.sc.free x hx hk)
 have C:PySem.W.CodeHd s.heap c0 a:=PySem.W.codeHd_of_K I.gY hC
 rcases cs with⟨rfl,hnf⟩|⟨rfl,c,o,vs,t,q1,q2,q3,q4,q5⟩
 · refine PySem.W.kla_makeFunction hcl I.ok.glob hg hcode C hP tr hnf hgP hB fun c' ctv h' tk hx hge hlt hrec htb=>?_
   obtain⟨c2,oc,vs,t,e2,hoc,hd,hv⟩:=hrec
   cases e2
   have hHc:H c'=none:=I.aI.fresh hge
   have hGc:G c'=none:=(Sp.none hHc).1
   have hHa:H a=some (.kh ps):=Sp.get gP
   have hac:a≠c':=dq hHa hHc
   let ps':=ps++ #[rawInt lpos.line,rawInt lpos.col,.ref c']
   have nb:∀ {b:Addr},H b=none→b≠a:=fun e z=>by rw[z,hHa]at e;cases e
   have I1:Inv X pins σ (upd (upd H c' (.gj oc (.own c'))) a (.kh ps')) {s with heap:=h',gens:=s.gens,drawn:=s.drawn,toks:=tk}:=by
    have old:∀ {b:Addr} {u:HO},H b=some u→b≠a→upd (upd H c' (.gj oc (.own c'))) a (.kh ps') b=some u:=fun e n=>by rw[aQ n,aQ (dq e hHc)];exact e
    refine I.step (ch:=[]) (fun _ z=>nomatch z) (fun b o _ _ _ e n=>hx b o (nb n) e) (fun b o _ _ _ e n=>⟨o.slots,hx b o (nb n) e⟩) (fun b o _ e n=>?_) (fun b o _ e=>?_) (fun b xs e=>?_) (fun b o u e=>?_) (fun b qs e=>?_) (fun m hm=>?_) (fun b u e=>?_) I.bare
    · rw[aQ (nb n),aQ (Nat.ne_of_lt (Nat.lt_of_lt_of_le (Heap.lt_size e) hge))];exact n
    · by_cases hb:b=a
      · exact⟨_,by rw[hb];exact htb⟩
      · exact⟨o,hx b o hb e⟩
    · exact old e fun z=>by rw[z,hHa]at e;cases e
    · exact old e fun z=>by rw[z,hHa]at e;cases e
    · by_cases hb:b=a
      · subst hb
        rw[hHa]at e;cases e
        exact⟨_,a5⟩
      · exact⟨#[],by rw[old e hb];simp⟩
    · obtain⟨o,es,ep,ho,r⟩:=hm
      exact⟨o,es,ep,hx _ o (nb I.free) ho,r⟩
    · by_cases hb:b=a
      · subst hb;rw[a5]at e;cases e;exact htb
      · rw[aQ hb]at e
        by_cases hbc:b=c'
        · subst hbc;rw[a5]at e;cases e;exact⟨hoc,_,hoc⟩
        · rw[aQ hbc]at e
          refine(I.aI b u e).i4 (fun d w hd q=>hx d w ?_ q) (fun d q=>old q fun z=>by rw[z,hHa]at q;cases q) fun d xs q=>old q fun z=>by rw[z,hHa]at q;cases q
          rcases hd with rfl|hd
          · exact hb
          · intro z;rw[z,hHa]at hd;cases hd
   have I2:=la (o:=PySem.W.kla_obj "<lambda>" qual params body scope (df X.env.cells scope.names []) ((X.mg "__name__").getD .none) c' ctv) (t':=tk) I1 (fun v z=>by cases z)
   have gP':upd G c' (.gj oc (.own c')) a=some (.kh ps):=by rw[aQ hac];exact gP
   refine h _ c' ctv _ (upd (upd G c' (.gj oc (.own c'))) a (.kh ps')) _ _ I2 ((Step.laid hGc).trans (Step.write (List.mem_of_getElem? ha))) ((Sp.laid hHc).write gP') ((SR.laid hGc).write ha ⟨rfl,ps',a5,?_,.inr ⟨rfl,c',oc,vs,t,?_,SR.kl hGc,?_,hd,hv⟩⟩) ⟨SR.kl hGc,oc,vs,t,?_,hd,hv⟩
   · show TriplesOk (ps++ #[rawInt lpos.line,rawInt lpos.col,.ref c']).toList
     rw[Array.toList_append]
     exact TriplesOk_snoc _ _ _ _ tr
   · show codeAmong lpos (ps++ #[rawInt lpos.line,rawInt lpos.col,.ref c']).toList=_
     rw[Array.toList_append]
     exact codeAmong_snoc _ tr hnf
   · rw[aQ hac.symm,a5]
   · rw[aQ hac.symm,a5]
 · refine PySem.W.kla_makeFunctionHit hcl I.ok.glob hg hcode C hP tr q1 hB fun ctv h' tk hk hsz=>?_
   have I1:=I.kept (t':=tk) hk
   have I2:=la (o:=PySem.W.kla_obj "<lambda>" qual params body scope (df X.env.cells scope.names []) ((X.mg "__name__").getD .none) c ctv) (t':=tk) I1 (fun v z=>by cases z)
   refine h _ c ctv _ G H _ I2 Step.refl Sp (by rw[set_same hn0];exact SR) ⟨q2,o,vs,t,q3,q4,q5⟩
end
noncomputable def slt(p q:Int×Int):Prop:=p.1<q.1∨(p.1=q.1∧p.2<q.2)
noncomputable def yY(n0:Nat)(T:Addr)(lpos:Pos)(qual:Str)(fr:List (Option Nat))(tb te:DE):DE:=fun σ st K=>te σ st fun d st1=>∃(ns ks:List Int) (b:Bool),d= .lst (ns.map .int)∧ns.length<64∧ns.Pairwise (· < ·)∧ks.length=ns.length∧
 st1[n0]?=some (.tab T lpos qual b)∧(∀(i:Nat) (n k:Int),ns[i]?=some n→ks[i]?=some k→tb ((gR fr σ).set 0 (some (.int n))) (st1.set n0 (.tab T lpos qual true)) fun v st2=>v= .int k∧st2=st1.set n0 (.tab T lpos qual true))∧
 ∀os:List (Int×Int),os.Perm (ks.zip ns)→os.Pairwise slt→K (.lst (os.map fun p=> .int p.2)) (st1.set n0 (.tab T lpos qual true))
theorem za{α:List (Option Addr)}{H:Hp}:∀ {ns:List Int} {vs:List V},aJ α H (ns.map D.int) vs→vs=ns.map V.int
 | [],vs,h=>by unfold aJ at h;exact h
 |n::ns,vs,h=>by
  unfold aJ at h
  obtain⟨v,r,rfl,h1,h2⟩:=h
  unfold Rep at h1
  rw[h1,za h2];rfl
theorem Aa{α:List (Option Addr)}{H:Hp}:∀(ns:List Int),aJ α H (ns.map D.int) (ns.map V.int)
 | []=>by unfold aJ;rfl
 |n::ns=>by unfold aJ;exact⟨_,_,rfl,by unfold Rep;rfl,Aa ns⟩
theorem zl:∀ {ns:List Int} {us:List Value},Vals (ns.map V.int) us→IntsAre us ns
 | [],_,.nil=> .nil
 |n::ns,_,.cons ⟨t,rfl⟩ h=> .cons n t (zl h)
section
variable {X:Cx}{scope:Scope}{Nc:List Str}{fr:List (Option Nat)}{p x qual:Str}{params:Arguments}{e body:Expr}{te tb:DE}{lpos kpos pos ppos:Pos}{c0 T:Addr}{n0:Nat}
theorem Jd(S:mV X scope Nc fr p)(hc:X.calm=true)(hr:cQ 2 X.A)(hcode:X.env.code= .ref c0)(hC:PySem.W.codeHdIn X.K c0 T=true)(hdef:defaultsOf params X.env=([],[]))(hql:X.env.qual++"<lambda>"=qual)
 (hbind:∀(cl:List (Str×Addr)) (pm cd ct v:Value),bindArgs (PySem.W.kla_fn "<lambda>" qual params body scope cl pm cd ct) ⟨[v],[]⟩=pure [(p,v)])
 (hb:∀(f c:Addr) (s:Shared) (H:Hp),PE (Ds X scope Nc qual f c s H) body (LE tb)) (ha:PA X [e] (LA (ae te aj)))
 (hg:Gl X "sorted") (hm:X.mg "sorted"=none) (hv:bootBuiltins "sorted"=some (.builtin "sorted"))
 (he:backTo pos (starEach [e] X.env)=(false,eval e X.env)::backTo pos (starEach [] X.env):=by rfl) (hpl:(backTo pos (starEach [e] X.env)).any (·.1)=false:=by rfl):
 PE X (.Call (.Name "sorted" ppos) [e] [⟨some "key",.Lambda params body scope lpos,kpos⟩] pos) (LE (yY n0 T lpos qual fr tb te)):=by
 intro pins s σ H Q I h
 obtain⟨α,σd,st,K,G,F,Sp,RS,SR,t,k⟩:=h
 refine wpAny_Call_Name_kw (l8 I hg hm hv ?_)
 refine callWith_kw ?_ he hpl
 let K1:DK:=fun d st1=>∃(ns ks:List Int) (b:Bool),d= .lst (ns.map .int)∧ns.length<64∧ns.Pairwise (· < ·)∧ks.length=ns.length∧
  st1[n0]?=some (.tab T lpos qual b)∧(∀(i:Nat) (n k:Int),ns[i]?=some n→ks[i]?=some k→tb ((gR fr σd).set 0 (some (.int n))) (st1.set n0 (.tab T lpos qual true)) fun v st2=>v= .int k∧st2=st1.set n0 (.tab T lpos qual true))∧
  ∀os:List (Int×Int),os.Perm (ks.zip ns)→os.Pairwise slt→K (.lst (os.map fun p=> .int p.2)) (st1.set n0 (.tab T lpos qual true))
 refine bZ (ha pos pins s σ H (fun vs H1=>∃d v st1 α1 G1,vs=[v]∧K1 d st1∧Step α G α1 G1∧cm G1 F H1∧aY α1 st1 G1∧Rep α1 G1 d v) I
  ⟨α,σd,st,fun ds st1=>match ds with| [d]=>K1 d st1|_=>False,G,F,Sp,RS,SR,t,fun ds st1 q α1 G1 H1 vs s1 P1 S1 r1=>?_⟩) fun us s1 ⟨vs,H1,I1,rv,d,v,st1,α1,G1,hvs,kd,s1',P1,S1,r1⟩=>?_
 · match ds,q,r1 with
   | [d],q,r1=>
     unfold aJ at r1
     obtain⟨v,r,rfl,h1,h2⟩:=r1
     unfold aJ at h2
     subst h2
     exact⟨d,v,st1,α1,G1,rfl,q,s1,P1,S1,h1⟩
 subst hvs
 obtain⟨ns,ks,b,rfl,h64,hup,hlen,hn0,hkey,hK⟩:=kd
 show wpAny _ _ (evalAll ((do let v ←eval (.Lambda params body scope lpos) X.env;standAt pos;pure v)::[])) _ _ s1
 refine wpAny_evalAll_cons (wpAny_bind (FX S hcode hC hdef hql I1 P1 S1 hn0 fun f c ctv pm G2 H2 s2 I2 st2 P2 S2 ⟨hc1,o,vs,tq,hc2,hc3,hc4⟩=>wpAny_bind (wpAny_standAt (wpAny_pure (wpAny_evalAll_nil ?_)))))
 have r2:=r1.step st2
 unfold Rep at r2
 obtain⟨l,xs,rfl,hl1,hl2,hl3⟩:=r2
 have exs:=za hl3
 subst exs
 cases rv with
 |cons ru rn=>
  cases rn
  cases ru
  have hrd:Rd H2 l (.lst (ns.map V.int)):=by
   rcases hl2 with z|⟨w,z⟩
   · exact .inl (P2.get z)
   · exact .inr ⟨w,P2.get z⟩
  obtain⟨_,au,nn,vv,hobj⟩:=hrd.ok I2.aI
  have hints:=zl vv
  have hlen2:=hints.length
  have key:∀(H':Hp),(∃α' G',Step α1 G2 α' G'∧cm G' F H'∧aY α' (st1.set n0 (.tab T lpos qual true)) G')→H' c=some (.gj o (.own c)):=fun H' ⟨α',G',q1,q2,q3⟩=>q2.get (q1.ext c _ hc1 hc2)
  show wpAny _ _ (call (.builtin "sorted") [.ref l] [(Str.ofString "key",.ref f)]) _ _ _
  refine CD (X:=X) (pins:=pins++[(f,PySem.W.kla_obj "<lambda>" qual params body scope (df X.env.cells scope.names []) pm c ctv)]) (R:=fun H'=>∃α' G',Step α1 G2 α' G'∧cm G' F H'∧aY α' (st1.set n0 (.tab T lpos qual true)) G') (kz:=ks) (vs:=au)
   I2 ⟨α1,G2,Step.refl,P2,S2⟩ ⟨_,hobj,rfl,nn,rfl⟩ (by omega) (by omega) ?_ (fun i u kk hu hk own s' J=>?_) fun D s' out cc oD J so=>?_
  · rw[←List.pairwise_map,hints.nums];exact hup
  · have hi:i<ns.length:=by
     have:=(List.getElem?_eq_some_iff.mp hu).1
     omega
    obtain⟨tt,ht⟩:=hints.get i ns[i] (List.getElem?_eq_getElem hi)
    have ht:some u=some (Value.int ns[i] tt):=by rw[←hu];exact ht
    cases ht
    refine Gh (v:= .int ns[i]) (u:= .int ns[i] tt) S hc (by have:=hr.dp;omega) (hb f c) hbind ⟨tt,rfl⟩ (List.mem_append_right _ (List.mem_singleton.mpr rfl)) (fun H' s'' J' r'=>?_) (fun H' r'=>?_) J
    · have q:=J'.aI c _ (key H' r')
      exact⟨c,o,vs,tq,rfl,q.1,hc3,hc4⟩
    · obtain⟨α',G',q1,q2,q3⟩:=r'
      refine⟨α',(gR fr σd).set 0 (some (.int ns[i])),_,_,G',F,q2,?_,q3,hkey i ns[i] kk (List.getElem?_eq_getElem hi) hk,fun d' st' hd α'' G'' H'' v' s'' P'' S'' r''=>?_⟩
      · exact((RS.step ((s1'.trans st2).trans q1)).comp).set 0 (by unfold Rep;rfl)
      · obtain⟨rfl,rfl⟩:=hd
        unfold Rep at r''
        exact⟨r'',α'',G'',q1.trans s'',P'',S''⟩
  · obtain⟨H',I',α',G',q1,q2,q3⟩:=J
    obtain⟨ps,hp,ho,hs⟩:=so
    have hps:∀q∈ps,∃t,q.2= .int (numOf q.2) t:=fun q hq=>by
     have h1:=hp.mem_iff.mp hq
     have h2:q.2∈au:=(List.of_mem_zip (show(q.1,q.2)∈ks.zip au from h1)).2
     obtain⟨n,t,e⟩:=hints.all _ h2
     exact⟨t,by rw[e];rfl⟩
    have hos:(ps.map fun q=>(q.1,numOf q.2)).Perm (ks.zip ns):=by
     have h1:=hp.map fun q:Int×Value=>(q.1,numOf q.2)
     have e:(ks.zip au).map (fun q:Int×Value=>(q.1,numOf q.2))=ks.zip ns:=by
      rw[←hints.nums,List.zip_map_right]
      exact List.map_congr_left fun⟨a,b⟩ _=>rfl
     rw[e]at h1;exact h1
    have hpw:(ps.map fun q=>(q.1,numOf q.2)).Pairwise slt:=by rw[List.pairwise_map];exact hs
    have kk:=hK _ hos hpw
    rw[List.map_map]at kk
    have hD0:=fF I'
    have vout:Vals ((ps.map fun q=>numOf q.2).map V.int) out.toList:=by
     rw[ho]
     clear hos hpw kk hs hp ho
     induction ps with
     |nil=>exact .nil
     |cons q r ih=>
      obtain⟨t,e⟩:=hps q (List.mem_cons_self ..)
      exact .cons ⟨t,e⟩ (ih fun z hz=>hps z (List.mem_cons_of_mem _ hz))
    have hlo:(ps.map fun q=>numOf q.2).length≤sizeLine:=by
     rw[List.length_map,hp.length_eq,List.length_zip]
     exact Nat.le_trans (Nat.min_le_left _ _) (Nat.le_trans (show ks.length≤64 by omega) (by decide))
    have I3:=DX (u:= .lst ((ps.map fun q=>numOf q.2).map V.int)) I' oD.ge oD.ne ⟨by rw[List.length_map];exact hlo,out.toList,cc,vout,hD0.1⟩
    have hG:=(q2.none hD0.2.1).1
    refine⟨.ref D,_,I3.hO,rfl,k _ _ kk α' _ _ _ ((s1'.trans st2).trans (q1.trans (Step.laid hG))) (q2.laid hD0.2.1) (q3.laid hG) ?_⟩
    unfold Rep
    refine⟨D,_,rfl,q3.kl hG,.inl a5,?_⟩
    have e:List.map ((fun p:Int×Int=>L3.D.int p.snd)∘fun q:Int×Value=>(q.fst,numOf q.snd)) ps=(ps.map fun q=>numOf q.2).map L3.D.int:=by rw[List.map_map];rfl
    rw[e]
    exact Aa _
end
end L3
namespace L3
open PySem L2
open PySem.Spec hiding items?
open PyProof.Rows hiding St
noncomputable def Fq(sc:Scope)(N gl:List Str):Bool:=
 N.all (fun x=>(sc.names.lookup x==some .local||sc.names.lookup x==some .cell)&&x != "__debug__"&&x != "__classdict__")&&gl.all (fun x=>sc.names.lookup x==some .globalImplicit&&x != "__debug__")
structure VS(sc:Scope)(N gl:List Str):Prop where
 ok:Fq sc N gl=true
theorem VS.at_{sc:Scope}{N gl:List Str}(V:VS sc N gl){i:Nat}{x:Str}(h:N[i]?=some x):Loc sc x∧(x==("__debug__":Str))=false∧(x==("__classdict__":Str))=false:=by
 have o:=V.ok
 unfold Fq at o
 have:=List.all_eq_true.mp (Bool.and_eq_true_iff.mp o).1 x (List.mem_of_getElem? h)
 simp only[Bool.and_eq_true,Bool.or_eq_true,beq_iff_eq,bne_iff_ne,ne_eq]at this
 exact⟨this.1.1,beq_false_of_ne this.1.2,beq_false_of_ne this.2⟩
theorem VS.Nw{sc:Scope}{N gl:List Str}(V:VS sc N gl){i:Nat}{x:Str}(h:gl[i]?=some x):sc.names.lookup x=some .globalImplicit∧(x==("__debug__":Str))=false:=by
 have o:=V.ok
 unfold Fq at o
 have:=List.all_eq_true.mp (Bool.and_eq_true_iff.mp o).2 x (List.mem_of_getElem? h)
 simp only[Bool.and_eq_true,beq_iff_eq,bne_iff_ne,ne_eq]at this
 exact⟨this.1,beq_false_of_ne this.2⟩
section
variable {X:Cx}{sc:Scope}{N gl:List Str}{x:Str}{pos:Pos}
theorem VS.nm(V:VS X.env.scope X.N gl)(i:Nat)(h:X.N[i]?=some x:=by rfl):JE X (.Name x pos) (ab i):=
 let q:=V.at_ h
 DG q.2.1 q.2.2 (q.1.elim .inl fun z=> .inr (.inl z)) h
theorem VS.l(V:VS sc N gl)(i:Nat)(h:N[i]?=some x:=by rfl):Loc sc x:=(V.at_ h).1
theorem VS.g(V:VS sc N gl)(i:Nat)(h:gl[i]?=some x:=by rfl):sc.names.lookup x=some .globalImplicit:=(V.Nw h).1
theorem VS.d(V:VS sc N gl)(i:Nat)(h:gl[i]?=some x:=by rfl):(x==("__debug__":Str))=false:=(V.Nw h).2
theorem cF{n:Nat}(hN:X.N[n]?=some x:=by rfl)(hd:((x==("__debug__":Str))||(x==("__classdict__":Str)))=false:=by decide+kernel)
 (hv:yI X.env.scope x:=by first|exact Or.inl rfl|exact Or.inr (Or.inl rfl)|exact Or.inr (Or.inr rfl)):JE X (.Name x pos) (ab n):=
 DG (Bool.or_eq_false_iff.mp hd).1 (Bool.or_eq_false_iff.mp hd).2 hv hN
@[irreducible] noncomputable def pH:cX:=tY (fun _ j=>j≠0) fun i j=> .int (i.fdiv j)
theorem Bf{k:Nat}(hr:cQ k X.A)(hs:X.stack=X.env::X.outer)(hgen:X.env.scope.isGenerator=false)(hco:X.env.scope.isCoroutine=false):bR X (binaryOp .FloorDiv) (LR pH):=by
 unfold pH
 refine ky (g':=fun i j=> .int (i.fdiv j)) (fun _ _ _ _=>by unfold Rep;rfl) ?_
 intro pins s σ H x y v u Q I rx ry h
 obtain⟨i,j,rfl,rfl,hc,q⟩:=h
 obtain⟨t,rfl⟩:=rx
 obtain⟨t',rfl⟩:=ry
 refine floordiv_int hc ⟨.int (i.fdiv j),H,I.tok _,⟨_,rfl⟩,q⟩ (.inr (PySem.PylongRoom.of I.nolimit ?_ ?_))
 · have:=hr.dp
   show X.A.depth+100<_
   omega
 · exact PySem.SeerAt.of (env:=X.env) (l:=X.outer) (I.mod.seer.keeps I.bk) I.ok.gt (by rw[I.ok.frames,hs]) hgen hco I.ok.blt I.ok.glob
theorem zd{st:af}{K:DK}{i j:Int}(h0:j≠0)(k:K (.int (i.fdiv j)) st):pH (.int i) (.int j) st K:=by unfold pH;exact⟨h0,k⟩
theorem mV.look{scope:Scope}{Nc:List Str}{fr:List (Option Nat)}{p:Str}(S:bj X scope Nc fr)(h:(scope.names.all (fun x=>x.2 != .cell)&&(!scope.isCoroutine&& !scope.isGenerator)&&(scope.names.lookup p==some .local))=true:=by decide+kernel)
 (p0:Nc[0]?=some p:=by rfl) (f0:fr[0]?=some none:=by rfl):mV X scope Nc fr p:=by
 simp only[Bool.and_eq_true,Bool.not_eq_true',beq_iff_eq]at h
 exact⟨S,fun x hx=>by simpa using List.all_eq_true.mp h.1.1 x hx,h.1.2.1,h.1.2.2,p0,f0,h.2⟩
theorem Hq{scope:Scope}{Nc:List Str}{fr:List (Option Nat)}{p qual:Str}{params:Arguments}{e body:Expr}{te tb:DE}{lpos kpos pos ppos:Pos}{c0 T:Addr}{n0 k:Nat}(S:mV X scope Nc fr p)(hc:X.calm=true)(hr:cQ k X.A)(hcode:X.env.code= .ref c0)(hC:PySem.W.codeHdIn X.K c0 T=true)
 (hb:∀(f c:Addr) (s:Shared) (H:Hp),JE (Ds X scope Nc qual f c s H) body tb) (he:JE X e te) (hg:X.env.kindOf "sorted"=some .globalImplicit) (hm:X.mg "sorted"=none)
 (hdef:defaultsOf params X.env=([],[]):=by rfl) (hql:X.env.qual++"<lambda>"=qual:=by rfl)
 (hbind:∀(cl:List (Str×Addr)) (pm cd ct v:Value),bindArgs (PySem.W.kla_fn "<lambda>" qual params body scope cl pm cd ct) ⟨[v],[]⟩=pure [(p,v)]:=by(intros;rfl)) (hk:2≤k:=by decide)
 (he1:starEach [e] X.env=(false,eval e X.env)::starEach [] X.env:=by rfl):
 JE X (.Call (.Name "sorted" ppos) [e] [⟨some "key",.Lambda params body scope lpos,kpos⟩] pos) (yY n0 T lpos qual fr tb te):=by
 unfold JE at he hb⊢
 refine Jd S hc (hr.mono hk) hcode hC hdef hql hbind hb (nB he qU he1) hg hm rfl ?_ ?_
 · rw[he1];rfl
 · rw[he1];rfl
end
structure Jp(K:PySem.W.Frag)(x qual:Str)(st:Stmt)(f:Addr)(fd:FuncData)(c:Addr):Prop where
 ex:∃(oc:Value) (od:Option Addr) (kV doc pm:Value) (an:Option Addr) (ct:Value) (osl:Array (Option Value)),
  fd=PySem.W.fnOf x qual (ka st) (gQ st) (ag st) .none kV doc pm an (.ref c) ct∧K.lookup f=some ⟨oc,od,.func fd,osl⟩∧PySem.W.codeIn K (.ref c) qual=true
theorem KQ{P:Program}{w:World}{K:PySem.W.Frag}{mg:Str→Option Value}{base:Heap}{x qual:Str}{st:Stmt}{f c:Addr}{fd:FuncData}{N ps:List Str}{k:Nat}{sp:cC}{t:DS}(F:Jp K x qual st f fd c)(S:aT N ps (ag st))
 (hbody:∀(A:Around) (outer:List Env) (s:Shared) (H:Hp) (E:XK),cQ k (A.deeper (envOfC qual (ag st) s.heap.objs.size f (.ref c)))→JB (qu cD P w K mg base N qual (ag st) f (.ref c) A outer s H E).vD (gQ st) t)
 (hsp:∀ds st K,sp ds st K→ds.length=ps.length∧t {nx:=fun _ st'=>K .aA st',rt:=K} (a6 N ds) st):bD P w K mg base cD (k+1) f fd ps (cG sp):=by
 obtain⟨oc,od,kV,doc,pm,an,ct,osl,rfl,lk,hcd⟩:=F.ex
 unfold JB at hbody
 refine GS lk hcd S (fun vs H Q E h=>?_) fun A outer s H vs Q E hr h=>?_
 · obtain⟨α,ds,st,K,G,F,P,R,S,q,k⟩:=h
   rw[←R.length];exact(hsp ds st K q).1
 · obtain⟨α,ds,st,K,G,F',P,R,SR,q,k⟩:=h
   refine⟨_,(hbody A outer s H E hr).vD,α,a6 N ds,st,_,G,F',P,dO.start R,SR,(hsp ds st K q).2,?_,k,?_,?_⟩
   · intro σd' st' kk α' G' H' σ' s' P' R' S'
     exact k .aA st' kk α' G' H' .aA s' P' S' (by unfold Rep;rfl)
   · intro σd' st' kk
     exact kk.elim
   · intro σd' st' kk
     exact kk.elim
noncomputable def D6(tl:List (Addr×Pos×Str)):cC:=fun ds st K=>∃ns:List Int,ds=[.lst (ns.map .int)]∧ns.length≤63∧st=tl.map (fun q=> .tab q.1 q.2.1 q.2.2 false)∧∀st',K (.bl true) st'
noncomputable def D3(K:PySem.W.Frag)(ts:List (Addr×Addr)):Sp:=fun vs H Q _=>∃(a:Addr) (ns:List Int),vs=[.ref a]∧Entry K ts a ns H∧ns.length≤63∧∀H',Q (.bl true) H'
theorem Er{K:PySem.W.Frag}{ts:List (Addr×Addr)}{tl:List (Addr×Pos×Str)}(nl:DF K=true)(hts:ts.map (·.2)=tl.map (·.1))(nd:(tl.map (·.1)).Nodup){vs:List V}{H:Hp}{Q:VK}{E:XK}(h:D3 K ts vs H Q E):cG (D6 tl) vs H Q E:=by
 obtain⟨a,ns,rfl,hE,hl,q⟩:=h
 have tabs:∀q∈tl,H q.1=some (.kh #[])∧q.1≠a:=fun q hq=>by
  have h1:q.1∈ts.map (·.2):=by rw[hts];exact List.mem_map_of_mem hq
  obtain⟨t,ht,e⟩:=List.mem_map.mp h1
  rw[←e];exact hE.tab t ht
 have at_:∀(i:Nat) (x:Addr),(tl.map fun q=>some q.1)[i]?=some (some x)→∃q,tl[i]?=some q∧q.1=x:=fun i x e=>by
  rw[List.getElem?_map]at e
  cases z:tl[i]? with
  |none=>rw[z]at e;cases e
  |some w=>rw[z]at e;simp at e;exact⟨w,rfl,e⟩
 have nota:some a∉tl.map fun q=>some q.1:=fun z=>by
  obtain⟨w,hw,e⟩:=List.mem_map.mp z
  exact(tabs w hw).2 (Option.some.inj e)
 rcases hE.lst with hS|⟨o,au,n,e,hc,_⟩
 · refine⟨tl.map fun q=>some q.1,[.lst (ns.map .int)],tl.map (fun q=> .tab q.1 q.2.1 q.2.2 false),fun d _=>d= .bl true,H,fun _=>none,⟨fun b=>by cases H b<;>rfl,fun _ _ _=>rfl⟩,?_,⟨by simp,fun i j x e1 e2=>?_,fun n c e=>?_⟩,⟨ns,rfl,hl,rfl,fun _=>rfl⟩,?_⟩
   · unfold aJ
     refine⟨.ref a,[],rfl,?_,by unfold aJ;rfl⟩
     unfold Rep
     exact⟨a,ns.map V.int,rfl,nota,hS,xp ns⟩
   · obtain⟨p,hp,e3⟩:=at_ i x e1
     obtain⟨r,hr,e4⟩:=at_ j x e2
     have k1:(tl.map (·.1))[i]?=some x:=by rw[List.getElem?_map,hp,←e3];rfl
     have k2:(tl.map (·.1))[j]?=some x:=by rw[List.getElem?_map,hr,←e4];rfl
     have hi:=(List.getElem?_eq_some_iff.mp k1).1
     exact(List.getElem?_inj hi nd).mp (k1.trans k2.symm)
   · rw[List.getElem?_map]at e
     cases z:tl[n]? with
     |none=>rw[z]at e;cases e
     |some w=>
      rw[z]at e
      have e':Cell.tab w.1 w.2.1 w.2.2 false=c:=Option.some.inj e
      subst e'
      refine .inr ⟨w.1,by rw[List.getElem?_map,z];rfl,rfl,#[],(tabs w (List.mem_of_getElem? z)).1,trivial,.inl ⟨rfl,rfl⟩⟩
   · rintro d st' rfl α' G' H' v _ _ _ r
     unfold Rep at r
     subst r
     exact q H'
 · exact absurd hc (yf nl e)
end L3
namespace L3
open PySem L2
open PySem.Spec hiding items?
open PyProof.Rows hiding St
section
variable {K:PySem.W.Frag}{x qual p1 p2 p3 p4 p5:Str}{st:Stmt}{f:Addr}{fd:FuncData}
noncomputable abbrev rX(x qual:Str)(st:Stmt)(kV doc pm:Value)(an:Option Addr)(cdv ct:Value):FuncData:=PySem.W.fnOf x qual (ka st) (gQ st) (ag st) .none kV doc pm an cdv ct
theorem gc{α:Type}{n:Nat}{us:List α}(h:us.length=n+1):∃a r,us=a::r∧r.length=n:=by
 cases us with
 |nil=>cases h
 |cons a r=>exact⟨a,r,rfl,Nat.succ.inj h⟩
theorem sZ{α:Type}{us:List α}(h:us.length=0):us=[]:=List.length_eq_zero_iff.mp h
theorem O9(F:nO K x qual st f fd)(h:∀kV doc pm an cdv ct a,bindArgs (rX x qual st kV doc pm an cdv ct) ⟨[a],[]⟩=pure [(p1,a)]):Binds K fd [p1] []:=
 F.binds fun kV doc pm an cdv ct us hl=>by
  obtain⟨a,r1,rfl,h1⟩:=gc hl
  cases sZ h1
  exact h kV doc pm an cdv ct a
theorem NH(F:nO K x qual st f fd)(h:∀kV doc pm an cdv ct a b,bindArgs (rX x qual st kV doc pm an cdv ct) ⟨[a,b],[]⟩=pure [(p1,a),(p2,b)]):Binds K fd [p1,p2] []:=
 F.binds fun kV doc pm an cdv ct us hl=>by
  obtain⟨a,r1,rfl,h1⟩:=gc hl
  obtain⟨b,r2,rfl,h2⟩:=gc h1
  cases sZ h2
  exact h kV doc pm an cdv ct a b
theorem NL(F:nO K x qual st f fd)(h:∀kV doc pm an cdv ct a b c,bindArgs (rX x qual st kV doc pm an cdv ct) ⟨[a,b,c],[]⟩=pure [(p1,a),(p2,b),(p3,c)]):Binds K fd [p1,p2,p3] []:=
 F.binds fun kV doc pm an cdv ct us hl=>by
  obtain⟨a,r1,rfl,h1⟩:=gc hl
  obtain⟨b,r2,rfl,h2⟩:=gc h1
  obtain⟨c,r3,rfl,h3⟩:=gc h2
  cases sZ h3
  exact h kV doc pm an cdv ct a b c
theorem NC(F:nO K x qual st f fd)(h:∀kV doc pm an cdv ct a b c d,bindArgs (rX x qual st kV doc pm an cdv ct) ⟨[a,b,c,d],[]⟩=pure [(p1,a),(p2,b),(p3,c),(p4,d)]):Binds K fd [p1,p2,p3,p4] []:=
 F.binds fun kV doc pm an cdv ct us hl=>by
  obtain⟨a,r1,rfl,h1⟩:=gc hl
  obtain⟨b,r2,rfl,h2⟩:=gc h1
  obtain⟨c,r3,rfl,h3⟩:=gc h2
  obtain⟨d,r4,rfl,h4⟩:=gc h3
  cases sZ h4
  exact h kV doc pm an cdv ct a b c d
end
end L3
namespace L3
open PySem L2
open PySem.Spec hiding items?
open PyProof.Rows hiding St
section
variable {X:Cx}
end
mutual
theorem A9{α:List (Option Addr)}{G:Hp}:∀(n:Nat) {d:D} {v:V},pl n d=true→Rep α G d v→Rep [] G d v
 |_,.aA,_,_,h=>by unfold Rep at h⊢;exact h
 |_,.bl _,_,_,h=>by unfold Rep at h⊢;exact h
 |_,.int _,_,_,h=>by unfold Rep at h⊢;exact h
 |_,.str _,_,_,h=>by unfold Rep at h⊢;exact h
 |_,.ty _,_,p,_=>by unfold pl at p;cases p
 |_,.ref _,_,p,_=>by unfold pl at p;cases p
 |0,.lst _,_,p,_=>by unfold pl at p;cases p
 |0,.tup _,_,p,_=>by unfold pl at p;cases p
 |n+1,.lst xs,_,p,h=>by
  unfold pl at p
  unfold Rep at h⊢
  obtain⟨a,vs,e,_,r,q⟩:=h
  exact⟨a,vs,e,by simp,r,qz n p q⟩
 |n+1,.tup xs,_,p,h=>by
  unfold pl at p
  unfold Rep at h⊢
  obtain⟨a,vs,e,_,r,q⟩:=h
  exact⟨a,vs,e,by simp,r,qz n p q⟩
theorem qz{α:List (Option Addr)}{G:Hp}:∀(n:Nat) {ds:List D} {vs:List V},ds.all (pl n)=true→aJ α G ds vs→aJ [] G ds vs
 |_,[],_,_,h=>by unfold aJ at h⊢;exact h
 |n,d::ds,_,p,h=>by
  rw[List.all_cons,Bool.and_eq_true]at p
  unfold aJ at h⊢
  obtain⟨v,r,e,h1,h2⟩:=h
  exact⟨v,r,e,A9 n p.1 h1,qz n p.2 h2⟩
end
noncomputable def pM(st:af):List Nat→List (List D)→Prop
 | [],[]=>True
 |n::ns,r::rs=>st[n]?=some (.lst r)∧pM st ns rs
 |_,_=>False
theorem yG{α:List (Option Addr)}{G:Hp}{st:af}(S:aY α st G):∀ {ns:List Nat} {rs:List (List D)} {vs:List V},pM st ns rs→(rs.map D.lst).all (pl 39)=true→aJ α G (ns.map D.ref) vs→aJ [] G (rs.map D.lst) vs
 | [],[],_,_,_,h=>by
   rw[List.map_nil]at h⊢
   unfold aJ at h⊢;exact h
 |n::ns,r::rs,_,hr,p,h=>by
  rw[List.map_cons]at h p⊢
  rw[List.all_cons,Bool.and_eq_true]at p
  unfold aJ at h⊢
  obtain⟨v,vr,e,h1,h2⟩:=h
  refine⟨v,vr,e,?_,yG S hr.2 p.2 h2⟩
  obtain⟨a,ea,ws,g1,g2⟩:=S.fv hr.1
  have:=dU ea h1
  subst this
  have p1:=p.1
  unfold pl at p1
  unfold Rep
  exact⟨a,ws,rfl,by simp,.inl g1,qz 38 p1 g2⟩
end L3
namespace L3
open PySem L2
open PySem.Spec hiding items?
open PyProof.Rows hiding St
section
variable {X:Cx}
end
end L3
namespace L3
open PySem L2
open PySem.Spec hiding items?
open PyProof.Rows hiding St
section
variable {X:Cx}
end
end L3
namespace L3
open PySem L2
open PySem.Spec hiding items?
open PyProof.Rows hiding St
section
variable {X:Cx}
end
end L3
namespace L3
open PySem L2
open PySem.Spec hiding items?
open PyProof.Rows hiding St
section
variable {X:Cx}
noncomputable def vD(X:Cx):Cx:={X with xe:=fun _ _=>False}
end
end L3
namespace L3
open PySem L2
open PySem.Spec hiding items?
open PyProof.Rows hiding St
section
variable {X:Cx}
end
variable {st:af}{K:D→af→Prop}{i j:Int}
end L3
namespace L3
open PySem L2
open PySem.Spec hiding items?
open PyProof.Rows hiding St
section
variable {X:Cx}{pos:Pos}
noncomputable def JQ(n:Nat)(t:vG):TG:=fun v σ H Q=>∃a xs,v= .ref a∧Rd H a (.lst xs)∧xs.length=n∧t xs σ H Q
theorem J5{es:List Expr}{k:Nat}{t:vG}{n:Nat}(hc:X.calm=true)(h:Al X es t)
 (hn:(assignEach es X.env).length=n:=by rfl) (hst:(assignEach es X.env).findIdx? (·.1)=none:=by rfl):PG X (.Tuple es k pos) (JQ n t):=by
 intro pins s σ H v u Q I r hw
 obtain⟨a,xs,e1,hq,hl,hw⟩:=hw
 subst e1
 cases r
 obtain⟨hz,au,n',rv,hle,ho⟩:=L3.Inv.wV I hq
 have il:s.heap.IsList a au.toArray:=⟨_,ho,rfl,n',rfl⟩
 rw[assign_Tuple]
 refine wpAny_bind (wpAny_standAt ?_)
 unfold unpack
 rw[hn,hst,show n=au.toArray.size by simp[←hl,hle]]
 refine wpAny_bind (wpAny_holding (PySem.W.kun_itemsOf (I.ok.hd hc) il fun h' hx=>?_))
 have I1:Inv X pins σ H {s with heap:=h'}:=I.kept (t':=s.toks) fun b o e=>hx b o (Nat.ne_of_lt (Heap.lt_size e)) e
 exact h pins _ σ H xs _ Q I1 (by simpa using rv) hw
end
end L3
namespace L3
open PySem L2
structure ClsAt(K:PySem.W.Frag)(mg:Str→Option Value)(x:Str)(C:Addr):Prop where
 cl:nH K C
 mg:mg x=some (.ref C)
 O0:PySem.W.makesIn K C=true
 kp:PySem.W.keepIn K (.ref C)=true
structure MethAt(K:PySem.W.Frag)(C:Addr)(m qual:Str)(st:Stmt)(ps:List Str)(f:Addr)(fd:FuncData):Prop where
 fn:nO K m qual st f fd
 me:Meth K C m f
 bd:Binds K fd ps []
end L3
namespace Hd
open PySem PySem.W L2 L3
open PySem.Spec hiding items?
open PyProof.Rows hiding St
section
variable {K:Frag}{mg:Str→Option Value}{h:Heap}{x q:Str}{st:Stmt}{f c C:Addr}{pm:Value}{p1 p2 p3 p4 p5 p6:Str}
noncomputable abbrev Ed(K:Frag)(x:Str)(st:Stmt)(f:Addr)(pm:Value)(c:Addr):Prop:=(nsIn K mainGlobals x,K.lookup f,codeIn K (.ref c) x,keepIn K (.ref f))=(some (some (.ref f)),some (fq st x x pm c),true,true)
noncomputable abbrev Em(K:Frag)(C:Addr)(x q:Str)(st:Stmt)(f:Addr)(pm:Value)(c:Addr):Prop:=(findIn K (.ref C) x,isFn K (.ref f),K.lookup f,codeIn K (.ref c) q,keepIn K (.ref f))=(some (some (.ref f)),true,some (fq st x q pm c),true,true)
theorem Ed.fn(e:Ed K x st f pm c):nO K x x st f (fd st x x pm c)∧nsIn K mainGlobals x=some (some (.ref f)):=by
 obtain⟨e1,e2,e3,e4⟩:_∧_∧_∧_:=by simpa only[Prod.mk.injEq]using e
 exact⟨Dp (st:=st) e2 e3 e4,e1⟩
theorem Em.fn(e:Em K C x q st f pm c):nO K x q st f (fd st x q pm c)∧Meth K C x f:=by
 obtain⟨e1,e2,e3,e4,e5⟩:_∧_∧_∧_∧_:=by simpa only[Prod.mk.injEq]using e
 exact⟨Dp (st:=st) e3 e4 e5,e1,e2,e5⟩
theorem mQ(X:K.In h)(G:h.Ns mainGlobals mg)(e:Ed K x st f pm c)(b:∀kV doc pm an cdv ct a,bindArgs (rX x x st kV doc pm an cdv ct) ⟨[a],[]⟩=pure [(p1,a)]):bL K mg x x st [p1] f (fd st x x pm c):=⟨e.fn.1,mg_of X G e.fn.2,O9 e.fn.1 b⟩
theorem mw(X:K.In h)(G:h.Ns mainGlobals mg)(e:Ed K x st f pm c)(b:∀kV doc pm an cdv ct a1 a2,bindArgs (rX x x st kV doc pm an cdv ct) ⟨[a1,a2],[]⟩=pure [(p1,a1),(p2,a2)]):bL K mg x x st [p1,p2] f (fd st x x pm c):=⟨e.fn.1,mg_of X G e.fn.2,NH e.fn.1 b⟩
theorem xO(X:K.In h)(G:h.Ns mainGlobals mg)(e:Ed K x st f pm c)(b:∀kV doc pm an cdv ct a1 a2 a3,bindArgs (rX x x st kV doc pm an cdv ct) ⟨[a1,a2,a3],[]⟩=pure [(p1,a1),(p2,a2),(p3,a3)]):bL K mg x x st [p1,p2,p3] f (fd st x x pm c):=⟨e.fn.1,mg_of X G e.fn.2,NL e.fn.1 b⟩
theorem OM(X:K.In h)(G:h.Ns mainGlobals mg)(e:Ed K x st f pm c)(b:∀kV doc pm an cdv ct a1 a2 a3 a4,bindArgs (rX x x st kV doc pm an cdv ct) ⟨[a1,a2,a3,a4],[]⟩=pure [(p1,a1),(p2,a2),(p3,a3),(p4,a4)]):bL K mg x x st [p1,p2,p3,p4] f (fd st x x pm c):=⟨e.fn.1,mg_of X G e.fn.2,NC e.fn.1 b⟩
theorem NP(e:Em K C x q st f pm c)(b:∀kV doc pm an cdv ct a1 a2,bindArgs (rX x q st kV doc pm an cdv ct) ⟨[a1,a2],[]⟩=pure [(p1,a1),(p2,a2)]):MethAt K C x q st [p1,p2] f (fd st x q pm c):=⟨e.fn.1,e.fn.2,NH e.fn.1 b⟩
theorem GL(e:Em K C x q st f pm c)(b:∀kV doc pm an cdv ct a1 a2 a3,bindArgs (rX x q st kV doc pm an cdv ct) ⟨[a1,a2,a3],[]⟩=pure [(p1,a1),(p2,a2),(p3,a3)]):MethAt K C x q st [p1,p2,p3] f (fd st x q pm c):=⟨e.fn.1,e.fn.2,NL e.fn.1 b⟩
theorem O4(e:Em K C x q st f pm c)(b:∀kV doc pm an cdv ct a1 a2 a3 a4,bindArgs (rX x q st kV doc pm an cdv ct) ⟨[a1,a2,a3,a4],[]⟩=pure [(p1,a1),(p2,a2),(p3,a3),(p4,a4)]):MethAt K C x q st [p1,p2,p3,p4] f (fd st x q pm c):=⟨e.fn.1,e.fn.2,NC e.fn.1 b⟩
theorem fc(e:(K.lookup f,codeIn K (.ref c) q)=(some (fq st x q pm c),true)):Jp K x q st f (fd st x q pm c) c:=by
 obtain⟨e1,e2⟩:_∧_:=by simpa only[Prod.mk.injEq]using e
 exact⟨_,_,_,_,_,_,_,_,rfl,e1,e2⟩
theorem na{a:Str}(e:findIn K (.ref C) a=some none):fT K C a:=e
end
end Hd
namespace L3
open PySem L2
open PySem.Spec hiding items?
open PyProof.Rows hiding St
section
variable {X:Cx}{pos:Pos}
noncomputable def NR(g1 g2:TG):TG:=fun v σ H Q=>g1 v σ H Q∨g2 v σ H Q
theorem M6{tg:Expr}{g1 g2:TG}(h1:PG X tg g1)(h2:PG X tg g2):PG X tg (NR g1 g2):=by
 intro pins s σ H v u Q I r hw
 rcases hw with hw|hw
 · exact h1 pins s σ H v u Q I r hw
 · exact h2 pins s σ H v u Q I r hw
noncomputable def uh(i j k:Nat):ve:=fun d σ st K=>∃x y z,items? st d=some [x,y,z]∧K (((σ.set i (some x)).set j (some y)).set k (some z)) st
theorem EN{tg:Expr}{i j k:Nat}(h:PG X tg (NR (JQ 3 (iL (fu i) (iL (fu j) (iL (fu k) wD)))) (C0 X.K 3 (iL (fu i) (iL (fu j) (iL (fu k) wD)))))):PG X tg (xR (uh i j k)):=PG.imp h fun v σ H Q ⟨α,σd,st,d,K,G,F,P,R,S,r,⟨x,y,z,e,q⟩,kk⟩=>by
 obtain⟨p,vs,rfl,rs,hq⟩:=ma S r e
 obtain⟨v1,v2,v3,rfl,r1,r2,r3⟩:=GX rs rfl
 have fin:=kk.here P q (((R.set i r1).set j r2).set k r3) S
 rcases hq with hq|hq
 · exact .inl ⟨p,_,rfl,g6 P hq,rfl,v1,_,rfl,v2,_,rfl,v3,_,rfl,rfl,fin⟩
 · exact .inr ⟨p,_,rfl,.of (P.get hq),rfl,v1,_,rfl,v2,_,rfl,v3,_,rfl,rfl,fin⟩
theorem Fw{i j k n:Nat}{x y z:Str}{px py pz tp:Pos}{e:Expr}{te:DE}(he:JE X e te)(hc:X.calm=true)(hN:X.N.Nodup)(hx:Loc X.env.scope x)(hf:X.fn x=true∨X.env.scope.names.lookup x=some .local)(hy:Loc X.env.scope y)(hg:X.fn y=true∨X.env.scope.names.lookup y=some .local)(hz:Loc X.env.scope z)(hh:X.fn z=true∨X.env.scope.names.lookup z=some .local)
 (hi:X.N[i]?=some x:=by rfl) (hj:X.N[j]?=some y:=by rfl) (hk:X.N[k]?=some z:=by rfl)
 (hs:swapsWithSole [.Tuple [.Name x px,.Name y py,.Name z pz] n tp] e pos.line X.env=pure false:=by rfl) (hw:swappedStores [.Tuple [.Name x px,.Name y py,.Name z pz] n tp] e X.env=pure none:=by rfl) (h1:(assignEach [.Tuple [.Name x px,.Name y py,.Name z pz] n tp] X.env).map (·.2)=[assign (.Tuple [.Name x px,.Name y py,.Name z pz] n tp) X.env]:=by rfl):JS X (.Assign [.Tuple [.Name x px,.Name y py,.Name z pz] n tp] e pos) (vd (uh i j k) te):=by
 unfold JS
 unfold JE at he
 have g:Al X [.Name x px,.Name y py,.Name z pz] _:=gf (jf hN hi hx hf) (gf (jf hN hj hy hg) (gf (jf hN hk hz hh) si))
 exact Bq (rl he (EN (M6 (J5 hc g) (vw hc g))) hs hw h1)
end
@[irreducible] noncomputable def zX:cX:=fun x y st K=>∃(n:Nat) (ns:List Nat) (rs:List (List D)),x= .ref n∧st[n]?=some (.lst (ns.map .ref))∧pM st ns rs∧(rs.map D.lst).all (pl 39)=true∧pl 40 y=true∧K (.bl (cy (.lst (rs.map .lst)) y)) st
theorem Mi{X:Cx}{k:Nat}(hr:cQ k X.A):bR X (compareOp .Eq) (LR zX):=fun pins s σ H x y v u Q I rx ry ⟨α,d,e,st,K,G,F',P,r1,r2,S,q,k⟩=>by
 have hu:=hr.units
 unfold zX at q
 obtain⟨n,ns,rs,rfl,hn,h1,h2,h3,q⟩:=q
 have r1':Rep [] G (.lst (rs.map .lst)) x:=by
  obtain⟨a,ea,vs,g1,g2⟩:=S.fv hn
  have:=dU ea r1
  subst this
  unfold Rep
  exact⟨a,vs,rfl,by simp,.inl g1,yG S h1 h2 g2⟩
 exact(yx I 40 X.A _ e x y v u (by unfold pl;exact h2) h3 (r1'.mono P.same) ((A9 40 h3 r2).mono P.same) rx ry (by omega)).1 _ _ _ _ ⟨.bl _,H,I,rfl,k.here P q S (by unfold Rep;rfl)⟩
theorem Kn{st:af}{K:DK}{n:Nat}{ns:List Nat}{rs:List (List D)}{y:D}(h0:st[n]?=some (.lst (ns.map .ref)))(h1:pM st ns rs)(h2:(rs.map D.lst).all (pl 39)=true)(h3:pl 40 y=true)(k:K (.bl (cy (.lst (rs.map .lst)) y)) st):zX (.ref n) y st K:=by
 unfold zX;exact⟨n,ns,rs,rfl,h0,h1,h2,h3,k⟩
end L3
namespace Mx
noncomputable def S:Nat→(Nat→Int)→Int
 |0,_=>0
 |n+1,f=>S n f+f n
theorem de{n:Nat}{f g:Nat→Int}(h:∀i,i<n→f i=g i):S n f=S n g:=by
 induction n with
 |zero=>rfl
 |succ n ih=>unfold S;rw[ih fun i hi=>h i (by omega),h n (by omega)]
theorem J9{n:Nat}{f:Nat→Int}(h:∀i,i<n→f i=0):S n f=0:=by
 induction n with
 |zero=>rfl
 |succ n ih=>unfold S;rw[ih fun i hi=>h i (by omega),h n (by omega)];rfl
theorem yw(n:Nat)(f g:Nat→Int):S n (fun i=>f i+g i)=S n f+S n g:=by
 induction n with
 |zero=>rfl
 |succ n ih=>unfold S;rw[ih];dsimp only;omega
theorem Co(n:Nat)(c:Int)(f:Nat→Int):S n (fun i=>c*f i)=c*S n f:=by
 induction n with
 |zero=>unfold S;rw[Int.mul_zero]
 |succ n ih=>unfold S;rw[ih,Int.mul_add]
theorem Md(n:Nat)(f:Nat→Int):S n (fun i=> -f i)= -S n f:=by
 induction n with
 |zero=>rfl
 |succ n ih=>unfold S;rw[ih];dsimp only;omega
theorem yv{n:Nat}{k:Nat}(hk:k<n){f:Nat→Int}(h:∀i,i<n→i≠k→f i=0):S n f=f k:=by
 induction n with
 |zero=>omega
 |succ n ih=>
  unfold S
  by_cases e:k=n
  · subst e
    rw[J9 fun i hi=>h i (by omega) (by omega),Int.zero_add]
  · rw[ih (by omega) fun i hi hn=>h i (by omega) hn,h n (by omega) (by omega),Int.add_zero]
theorem KS(n:Nat)(f:Nat→Int):S (n+1) f=f 0+S n fun i=>f (i+1):=by
 induction n with
 |zero=>unfold S S;omega
 |succ n ih=>
  have:S (n+1+1) f=S (n+1) f+f (n+1):=rfl
  rw[this,ih]
  have:S (n+1) (fun i=>f (i+1))=S n (fun i=>f (i+1))+f (n+1):=rfl
  rw[this]
  omega
noncomputable def dl(i j:Nat):Int:=if i=j then 1 else 0
theorem e_(i:Nat):dl i i=1:=if_pos rfl
theorem fo{i j:Nat}(h:i≠j):dl i j=0:=if_neg h
theorem Dn{n k:Nat}(hk:k<n)(f:Nat→Int):S n (fun i=>dl k i*f i)=f k:=by
 rw[yv hk (fun i _ h=>by rw[fo (Ne.symm h),Int.zero_mul]),e_,Int.one_mul]
theorem An{n k:Nat}(hk:k<n)(f:Nat→Int):S n (fun i=>f i*dl i k)=f k:=by
 rw[yv hk (fun i _ h=>by rw[fo h,Int.mul_zero]),e_,Int.mul_one]
noncomputable abbrev Row:=List Int
noncomputable abbrev Rows:=List (List Int)
noncomputable def g(A:Rows)(i j:Nat):Int:=(A.getD i []).getD j 0
structure cu(m n:Nat)(A:Rows):Prop where
 len:A.length=m
 gW:∀r∈A,r.length=n
theorem aS{α:Type}{l:List α}{i:Nat}{d:α}(h:i<l.length):l.getD i d=l[i]:=by
 rw[List.getD_eq_getElem?_getD,List.getElem?_eq_getElem h];rfl
theorem nr{α:Type}{l:List α}{i:Nat}{d:α}(h:l.length≤i):l.getD i d=d:=by
 rw[List.getD_eq_getElem?_getD,List.getElem?_eq_none h];rfl
theorem HR{a b:Row}{n:Nat}(ha:a.length=n)(hb:b.length=n)(h:∀j,j<n→a.getD j 0=b.getD j 0):a=b:=by
 refine List.ext_getElem (by omega) fun i h1 h2=>?_
 have:=h i (by omega)
 rwa [aS h1,aS h2]at this
theorem cu.row{m n:Nat}{A:Rows}(h:cu m n A){i:Nat}(hi:i<m):(A.getD i []).length=n:=by
 have hl:=h.len
 rw[aS (by omega)]
 exact h.gW _ (List.getElem_mem _)
theorem cu.ext{m n:Nat}{A B:Rows}(ha:cu m n A)(hb:cu m n B)(h:∀i j,i<m→j<n→g A i j=g B i j):A=B:=by
 have h1:=ha.len
 have h2:=hb.len
 refine List.ext_getElem (by omega) fun i hi hj=>?_
 have e1:=ha.row (i:=i) (by omega)
 have e2:=hb.row (i:=i) (by omega)
 have:=HR e1 e2 fun j hj=>h i j (by omega) hj
 rwa [aS hi,aS hj]at this
noncomputable def fH(r:Row)(t:Int)(s:Row):Row:=List.zipWith (fun a b=>a+t*b) r s
theorem nU{r s:Row}{t:Int}(h:r.length=s.length):(fH r t s).length=r.length:=by unfold fH;simp[h]
theorem BB{r s:Row}{t:Int}(h:r.length=s.length)(j:Nat):(fH r t s).getD j 0=r.getD j 0+t*s.getD j 0:=by
 unfold fH
 by_cases hj:j<r.length
 · rw[aS (by simp;omega),aS hj,aS (by omega)];simp
 · rw[nr (by simp;omega),nr (by omega),nr (by omega)];simp
noncomputable def dG:Row→Rows→Row→Row
 |w::ws,r::rs,acc=>dG ws rs (fH acc w r)
 |_,_,acc=>acc
theorem xw{n:Nat}:∀ {ws:Row} {rs:Rows} {acc:Row},acc.length=n→(∀r∈rs,r.length=n)→(dG ws rs acc).length=n
 | [],_,acc,h,_=>by unfold dG;exact h
 |_::_,[],acc,h,_=>by unfold dG;exact h
 |w::ws,r::rs,acc,h,hr=>by
  unfold dG
  refine xw ?_ fun r hr'=>hr r (List.mem_cons_of_mem _ hr')
  rw[nU (by rw[h,hr r List.mem_cons_self]),h]
theorem zw{n:Nat}:∀ {ws:Row} {rs:Rows} {acc:Row} (j:Nat),acc.length=n→(∀r∈rs,r.length=n)→ws.length=rs.length→(dG ws rs acc).getD j 0=acc.getD j 0+S rs.length fun k=>ws.getD k 0*g rs k j
 | [],[],acc,j,h,_,_=>by unfold dG;show _=_+(0:Int);rw[Int.add_zero]
 | [],_::_,acc,j,h,_,hl=>by cases hl
 |_::_,[],acc,j,h,_,hl=>by cases hl
 |w::ws,r::rs,acc,j,h,hr,hl=>by
  have e1:acc.length=r.length:=by rw[h,hr r List.mem_cons_self]
  unfold dG
  rw[zw j (by rw[nU e1,h]) (fun r hr'=>hr r (List.mem_cons_of_mem _ hr')) (by simpa using hl),BB e1,List.length_cons,KS]
  have:(fun k=>(w::ws).getD (k+1) 0*g (r::rs) (k+1) j)=fun k=>ws.getD k 0*g rs k j:=by
   funext k;unfold g;simp
  rw[this]
  unfold g
  simp
  omega
noncomputable def mulM(A B:Rows)(n:Nat):Rows:=A.map fun w=>dG w B (List.replicate n 0)
theorem dU(n j:Nat):(List.replicate n (0:Int)).getD j 0=0:=by
 by_cases h:j<n
 · rw[aS (by simpa using h)];simp
 · rw[nr (by simp;omega)]
theorem vW{m p n:Nat}{A B:Rows}(ha:cu m p A)(hb:cu p n B):cu m n (mulM A B n):=by
 refine⟨by unfold mulM;rw[List.length_map];exact ha.len,fun r hr=>?_⟩
 unfold mulM at hr
 obtain⟨w,_,rfl⟩:=List.mem_map.mp hr
 exact xw (by simp) hb.gW
theorem map_getD{α:Type}{f:Row→List α}{A:Rows}{i:Nat}(h:i<A.length):(A.map f).getD i []=f (A.getD i []):=by
 rw[aS (by simpa using h),aS h];simp
theorem Bp{m p n:Nat}{A B:Rows}(ha:cu m p A)(hb:cu p n B){i:Nat}(hi:i<m)(j:Nat):g (mulM A B n) i j=S p fun k=>g A i k*g B k j:=by
 have hl:=ha.len
 show((mulM A B n).getD i []).getD j 0=_
 unfold mulM
 rw[map_getD (by omega),zw (n:=n) j (by simp) hb.gW (by rw[ha.row hi,hb.len]),dU,Int.zero_add,hb.len]
 rfl
noncomputable def fQ(n i:Nat):Row:=(List.range n).map fun k=>dl k i
noncomputable def units(n:Nat):Rows:=(List.range n).map fun i=>fQ n i
theorem range_getD{α:Type}{f:Nat→α}{n i:Nat}{d:α}(h:i<n):((List.range n).map f).getD i d=f i:=by
 rw[aS (by simpa using h)];simp
theorem qb(n:Nat):cu n n (units n):=⟨by simp[units],fun r hr=>by unfold units at hr;obtain⟨i,_,rfl⟩:=List.mem_map.mp hr;simp[fQ]⟩
theorem j5{n i j:Nat}(hi:i<n)(hj:j<n):g (units n) i j=dl i j:=by
 unfold g units fQ
 rw[range_getD hi,range_getD hj]
 unfold dl
 by_cases h:i=j
 · subst h;rfl
 · rw[if_neg (Ne.symm h),if_neg h]
noncomputable def qy(A:Rows)(j:Nat):Row:=A.map fun r=>r.getD j 0
noncomputable def dZ(A:Rows)(n:Nat):Rows:=(List.range n).map fun j=>qy A j
theorem vH{m n:Nat}{A:Rows}(ha:cu m n A):cu n m (dZ A n):=⟨by simp[dZ],fun r hr=>by
 unfold dZ at hr
 obtain⟨j,_,rfl⟩:=List.mem_map.mp hr
 unfold qy
 rw[List.length_map,ha.len]⟩
theorem Im{A:Rows}{i:Nat}(j:Nat)(h:i<A.length):(qy A j).getD i 0=g A i j:=by
 unfold qy g
 rw[aS (by simpa using h),aS h];simp
theorem rS{m n:Nat}{A:Rows}(ha:cu m n A){i j:Nat}(hi:i<m)(hj:j<n):g (dZ A n) j i=g A i j:=by
 show((dZ A n).getD j []).getD i 0=_
 unfold dZ
 rw[range_getD hj,Im j (by rw[ha.len];exact hi)]
noncomputable def KZ:Row→Row→Int
 |a::as,b::bs=>a*b+KZ as bs
 |_,_=>0
end Mx
namespace Mx
theorem Bu(i j:Nat):dl i j=dl j i:=by
 unfold dl
 by_cases h:i=j
 · rw[if_pos h,if_pos h.symm]
 · rw[if_neg h,if_neg (Ne.symm h)]
noncomputable def sw(i j k:Nat):Nat:=if k=i then j else if k=j then i else k
theorem N7{n i j:Nat}(hi:i<n)(hj:j<n)(hij:i≠j)(f:Nat→Int):S n (fun k=>f (sw i j k))=S n f:=by
 have:S n (fun k=>f (sw i j k))=S n fun k=>f k+(f j-f i)*dl k i+(f i-f j)*dl k j:=de fun k _=>by
  unfold sw
  by_cases h1:k=i
  · subst h1;rw[if_pos rfl,e_,fo hij];omega
  · rw[if_neg h1,fo h1]
    by_cases h2:k=j
    · subst h2;rw[if_pos rfl,e_];omega
    · rw[if_neg h2,fo h2];omega
 rw[this,yw,yw,An (f:=fun _=>f j-f i) hi,An (f:=fun _=>f i-f j) hj]
 omega
end Mx
namespace Mx
noncomputable abbrev Fn:=Nat→Nat→Int
noncomputable def sk(j c:Nat):Nat:=if c<j then c else c+1
noncomputable def sg(j:Nat):Int:=if j%2=0 then 1 else-1
noncomputable def D:Nat→Fn→Int
 |0,_=>1
 |n+1,M=>S (n+1) fun j=>sg j*M 0 j*D n fun r c=>M (r+1) (sk j c)
noncomputable def upd(M:Fn)(i:Nat)(x:Nat→Int):Fn:=fun r c=>if r=i then x c else M r c
theorem aQ{M:Fn}{i r:Nat}{x:Nat→Int}(h:r≠i)(c:Nat):upd M i x r c=M r c:=if_neg h
noncomputable def un(j c:Nat):Nat:=if c<j then c else c-1
noncomputable def tr(M:Fn):Fn:=fun r c=>M c r
end Mx
namespace Mx
noncomputable def gx(R:Fn)(p:Nat)(x:Nat→Int)(j:Nat):Int:=D (p+1) fun r c=>if r<p then R r (if c<p then c else j)else x (if c<p then c else j)
noncomputable def bt(R:Fn)(p:Nat)(x:Nat→Int)(k:Nat):Int:=D (p+1) (upd (fun c r=>if r<p then R r c else x c) p (dl k))
noncomputable def cl(p j1 j2 c:Nat):Nat:=if c<p then c else if c=p then j1 else j2
end Mx
namespace Mx
end Mx
namespace Mx
noncomputable def lam(G:Fn)(i j:Nat):Int:=gx G j (G i) j
noncomputable def NV(A:Rows):Fn:=fun i j=>KZ (A.getD i []) (A.getD j [])
end Mx
namespace Mx
noncomputable def MX(G:Fn)(i:Nat):Row:=(List.range (i+1)).map fun j=>lam G i j
noncomputable def Jv(G:Fn)(n:Nat):Rows:=(List.range n).map (MX G)
end Mx
namespace Mx
noncomputable def RA(A:Rows)(N:Nat):Fn:=fun i j=>if j<N then NV A i j else(A.getD i []).getD (j-N) 0
noncomputable def ev(A:Rows)(N i k c:Nat):Int:=gx (RA A N) k (RA A N i) (N+c)
theorem CZ(n:Nat)(a b:Int)(f g:Nat→Int):S n (fun c=>a*f c-b*g c)=a*S n f-b*S n g:=by
 induction n with
 |zero=>show(0:Int)=a*0-b*0;omega
 |succ n ih=>
  show S n (fun c=>a*f c-b*g c)+(a*f n-b*g n)=a*(S n f+f n)-b*(S n g+g n)
  rw[ih,Int.mul_add,Int.mul_add];omega
section
variable {A:Rows}{N w:Nat}
end
end Mx
namespace Mx
end Mx
namespace Mx
noncomputable def O7(M:Fn)(k j:Nat)(q:Int):Fn:=fun a b=>if a=k then M a b-q*M j b else M a b
noncomputable def OQ(M:Fn)(k j:Nat)(q:Int):Fn:=fun a b=>if b=k then M a b-q*M a j else M a b
noncomputable def tk(G:Fn)(k j:Nat)(q:Int):Fn:=OQ (O7 G k j q) k j q
end Mx
namespace Mx
section
variable {G:Fn}{t:Nat}(sym:∀i j,G i j=G j i)
include sym
end
end Mx
namespace Mx
section
variable {A:Rows}{N w:Nat}
theorem cH(hA:cu N w A){i:Nat}(hi:i<N):(A.getD i []).length=w:=hA.gW _ (by have:=hA.len;rw[aS (by omega)];exact List.getElem_mem _)
end
end Mx
namespace Mx
noncomputable def bw(A:Rows)(k:Nat)(q:Int)(j:Nat):Rows:=A.set k (fH (A.getD k []) (-q) (A.getD j []))
noncomputable def bO(A:Rows)(k o:Nat):Rows:=(A.set k (A.getD o [])).set o (A.getD k [])
theorem k9{A:Rows}{k i:Nat}{r:Row}(hk:k<A.length):(A.set k r).getD i []=if i=k then r else A.getD i []:=by
 rw[List.getD_eq_getElem?_getD,List.getElem?_set]
 by_cases h:k=i
 · rw[if_pos h,if_pos (by omega),if_pos h.symm];rfl
 · rw[if_neg h,if_neg (Ne.symm h),List.getD_eq_getElem?_getD]
theorem DC{A:Rows}{k j:Nat}{q:Int}:(bw A k q j).length=A.length:=by unfold bw;rw[List.length_set]
theorem nL{A:Rows}{N w k j:Nat}{q:Int}(hA:cu N w A)(hk:k<N)(hj:j<N):cu N w (bw A k q j):=by
 refine⟨DC.trans hA.len,fun r hr=>?_⟩
 unfold bw at hr
 rcases List.mem_or_eq_of_mem_set hr with h|rfl
 · exact hA.gW r h
 · rw[nU (by rw[cH hA hk,cH hA hj]),cH hA hk]
end Mx
namespace Mx
structure Tn(A0 A U C:Rows)(N w:Nat):Prop where
 isA:cu N w A
 dH:cu N N U
 eZ:cu N N C
 ua:∀i c,i<N→c<w→g A i c=S N fun k=>g U i k*g A0 k c
 ub:∀i j,i<N→j<N→S N (fun k=>g U i k*g C j k)=dl i j
 bu:∀i j,i<N→j<N→S N (fun k=>g C k i*g U k j)=dl i j
theorem dS{A:Rows}{N w k j:Nat}{q:Int}(hA:cu N w A)(hk:k<N)(hj:j<N)(i c:Nat):g (bw A k q j) i c=if i=k then g A k c-q*g A j c else g A i c:=by
 unfold g bw
 have hl:=hA.len
 rw[k9 (by omega)]
 by_cases h:i=k
 · rw[if_pos h,if_pos h,BB (by rw[cH hA hk,cH hA hj]),Int.neg_mul];omega
 · rw[if_neg h,if_neg h]
theorem vn(n:Nat)(a b:Int)(f h:Nat→Int):S n (fun c=>a*f c+b*h c)=a*S n f+b*S n h:=by
 rw[yw,Co,Co]
theorem Tn.take{A0 A U C:Rows}{N w k j:Nat}{q:Int}(T:Tn A0 A U C N w)(hk:k<N)(hj:j<N)(hkj:j≠k):Tn A0 (bw A k q j) (bw U k q j) (bw C j (-q) k) N w where
 isA:=nL T.isA hk hj
 dH:=nL T.dH hk hj
 eZ:=nL T.eZ hj hk
 ua:=fun i c hi hc=>by
  rw[dS T.isA hk hj]
  have e:S N (fun m=>g (bw U k q j) i m*g A0 m c)=S N fun m=>(if i=k then g U k m-q*g U j m else g U i m)*g A0 m c:=de fun m _=>by rw[dS T.dH hk hj]
  rw[e]
  by_cases h:i=k
  · simp only[if_pos h]
    rw[T.ua k c hk hc,T.ua j c hj hc]
    have e2:S N (fun m=>(g U k m-q*g U j m)*g A0 m c)=S N fun m=>1*(g U k m*g A0 m c)-q*(g U j m*g A0 m c):=de fun m _=>by grind
    rw[e2,CZ];omega
  · simp only[if_neg h]
    exact T.ua i c hi hc
 ub:=fun i l hi hl=>by
  have e:S N (fun m=>g (bw U k q j) i m*g (bw C j (-q) k) l m)=S N fun m=>(if i=k then g U k m-q*g U j m else g U i m)*(if l=j then g C j m- -q*g C k m else g C l m):=de fun m _=>by rw[dS T.dH hk hj,dS T.eZ hj hk]
  rw[e]
  have djk:dl j k=0:=fo hkj
  by_cases h:i=k
  · by_cases h2:l=j
    · simp only[if_pos h,if_pos h2]
      have e2:S N (fun m=>(g U k m-q*g U j m)*(g C j m- -q*g C k m))=S N fun m=>1*(1*(g U k m*g C j m)+q*(g U k m*g C k m))-q*(1*(g U j m*g C j m)+q*(g U j m*g C k m)):=de fun m _=>by grind
      rw[e2,CZ,vn,vn,T.ub k j hk hj,T.ub k k hk hk,T.ub j j hj hj,T.ub j k hj hk,h,h2,e_,e_,djk,Bu k j,djk]
      omega
    · simp only[if_pos h,if_neg h2]
      have e2:S N (fun m=>(g U k m-q*g U j m)*g C l m)=S N fun m=>1*(g U k m*g C l m)-q*(g U j m*g C l m):=de fun m _=>by grind
      rw[e2,CZ,T.ub k l hk hl,T.ub j l hj hl,h,fo (Ne.symm h2)]
      omega
  · by_cases h2:l=j
    · simp only[if_neg h,if_pos h2]
      have e2:S N (fun m=>g U i m*(g C j m- -q*g C k m))=S N fun m=>1*(g U i m*g C j m)+q*(g U i m*g C k m):=de fun m _=>by grind
      rw[e2,vn,T.ub i j hi hj,T.ub i k hi hk,h2,fo h]
      omega
    · simp only[if_neg h,if_neg h2]
      exact T.ub i l hi hl
 bu:=fun i l hi hl=>by
  have e:S N (fun m=>g (bw C j (-q) k) m i*g (bw U k q j) m l)=S N fun m=>g C m i*g U m l+((q*(g C k i*g U j l))*dl m j+(-(q*(g C k i*g U j l)))*dl m k):=de fun m _=>by
   rw[dS T.dH hk hj,dS T.eZ hj hk]
   by_cases h1:m=j
   · have h2:m≠k:=by omega
     rw[if_pos h1,if_neg h2,h1,e_,fo hkj];grind
   · rw[if_neg h1,fo h1]
     by_cases h2:m=k
     · rw[if_pos h2,h2,e_];grind
     · rw[if_neg h2,fo h2];grind
  rw[e,yw,vn,T.bu i l hi hl]
  have e1:S N (fun c=>dl c j)=1:=by
   rw[yv hj fun i _ h=>fo h,e_]
  have e2:S N (fun c=>dl c k)=1:=by
   rw[yv hk fun i _ h=>fo h,e_]
  rw[e1,e2];omega
end Mx
namespace Mx
theorem yW{A:Rows}{k o i:Nat}(hk:k<A.length)(ho:o<A.length):(bO A k o).getD i []=A.getD (sw k o i) []:=by
 unfold bO
 rw[k9 (by rw[List.length_set];exact ho),k9 hk]
 unfold sw
 by_cases h1:i=k
 · rw[if_pos h1,if_pos h1]
   by_cases h2:i=o
   · rw[if_pos h2,←h1,←h2]
   · rw[if_neg h2]
 · rw[if_neg h1,if_neg h1]
   by_cases h2:i=o
   · rw[if_pos h2,if_pos h2]
   · rw[if_neg h2,if_neg h2]
theorem uG{A:Rows}{N w k o:Nat}(hA:cu N w A)(hk:k<N)(ho:o<N):cu N w (bO A k o):=by
 refine⟨by unfold bO;rw[List.length_set,List.length_set];exact hA.len,fun r hr=>?_⟩
 unfold bO at hr
 rcases List.mem_or_eq_of_mem_set hr with h|rfl
 · rcases List.mem_or_eq_of_mem_set h with h|rfl
   · exact hA.gW r h
   · exact cH hA ho
 · exact cH hA hk
theorem kg{A:Rows}{N w k o:Nat}(hA:cu N w A)(hk:k<N)(ho:o<N)(i c:Nat):g (bO A k o) i c=g A (sw k o i) c:=by
 unfold g
 rw[yW (by have:=hA.len;omega) (by have:=hA.len;omega)]
theorem qZ{k o N i:Nat}(hk:k<N)(ho:o<N)(hi:i<N):sw k o i<N:=by unfold sw;split<;>(try split)<;>assumption
theorem Et(k o x:Nat):sw k o (sw k o x)=x:=by
 unfold sw
 by_cases h1:x=k
 · subst h1
   rw[if_pos rfl]
   by_cases h2:o=x
   · rw[if_pos h2];exact h2
   · rw[if_neg h2,if_pos rfl]
 · rw[if_neg h1]
   by_cases h2:x=o
   · subst h2;rw[if_pos rfl,if_pos rfl]
   · rw[if_neg h2,if_neg h1,if_neg h2]
theorem Ma{k o a b:Nat}:dl (sw k o a) (sw k o b)=dl a b:=by
 by_cases h:a=b
 · rw[h,e_,e_]
 · rw[fo h,fo fun z=>h (by rw[←Et k o a,←Et k o b,z])]
theorem IH(k x:Nat):sw k k x=x:=by
 unfold sw
 by_cases h:x=k
 · rw[if_pos h,h]
 · rw[if_neg h,if_neg h]
theorem Nm{n i j:Nat}(hi:i<n)(hj:j<n)(f:Nat→Int):S n (fun k=>f (sw i j k))=S n f:=by
 by_cases h:i=j
 · subst h;exact de fun k _=>by rw[IH]
 · exact N7 hi hj h f
theorem Tn.GQ{A0 A U C:Rows}{N w k o:Nat}(T:Tn A0 A U C N w)(hk:k<N)(ho:o<N):Tn A0 (bO A k o) (bO U k o) (bO C k o) N w where
 isA:=uG T.isA hk ho
 dH:=uG T.dH hk ho
 eZ:=uG T.eZ hk ho
 ua:=fun i c hi hc=>by
  rw[kg T.isA hk ho,T.ua _ c (qZ hk ho hi) hc]
  exact de fun m _=>by rw[kg T.dH hk ho]
 ub:=fun i j hi hj=>by
  rw[←Ma (k:=k) (o:=o),←T.ub _ _ (qZ hk ho hi) (qZ hk ho hj)]
  exact de fun m _=>by rw[kg T.dH hk ho,kg T.eZ hk ho]
 bu:=fun i j hi hj=>by
  rw[←T.bu i j hi hj,←Nm hk ho fun m=>g C m i*g U m j]
  exact de fun m _=>by rw[kg T.dH hk ho,kg T.eZ hk ho]
noncomputable def gv(A:Rows)(k:Nat):Rows:=A.set k ((A.getD k []).map fun x=> -x)
theorem z_{A:Rows}{N w k:Nat}(hA:cu N w A)(hk:k<N):cu N w (gv A k):=by
 refine⟨by unfold gv;rw[List.length_set];exact hA.len,fun r hr=>?_⟩
 unfold gv at hr
 rcases List.mem_or_eq_of_mem_set hr with h|rfl
 · exact hA.gW r h
 · rw[List.length_map];exact cH hA hk
theorem FF(r:Row)(c:Nat):(r.map fun x=> -x).getD c 0= -r.getD c 0:=by
 rw[List.getD_eq_getElem?_getD,List.getD_eq_getElem?_getD,List.getElem?_map]
 cases r[c]?<;>rfl
theorem kH{A:Rows}{N w k:Nat}(hA:cu N w A)(hk:k<N)(i c:Nat):g (gv A k) i c=if i=k then-g A k c else g A i c:=by
 unfold g gv
 rw[k9 (by have:=hA.len;omega)]
 by_cases h:i=k
 · rw[if_pos h,if_pos h,FF]
 · rw[if_neg h,if_neg h]
theorem Tn.neg{A0 A U C:Rows}{N w k:Nat}(T:Tn A0 A U C N w)(hk:k<N):Tn A0 (gv A k) (gv U k) (gv C k) N w where
 isA:=z_ T.isA hk
 dH:=z_ T.dH hk
 eZ:=z_ T.eZ hk
 ua:=fun i c hi hc=>by
  rw[kH T.isA hk]
  by_cases h:i=k
  · rw[if_pos h,T.ua k c hk hc,←Md]
    exact de fun m _=>by rw[kH T.dH hk,if_pos h,Int.neg_mul]
  · rw[if_neg h,T.ua i c hi hc]
    exact de fun m _=>by rw[kH T.dH hk,if_neg h]
 ub:=fun i j hi hj=>by
  have e:S N (fun m=>g (gv U k) i m*g (gv C k) j m)=S N fun m=>(if i=k then-1 else 1)*(if j=k then-1 else 1)*(g U i m*g C j m):=de fun m _=>by
   rw[kH T.dH hk,kH T.eZ hk]
   by_cases h1:i=k<;>by_cases h2:j=k<;>simp only[h1,h2,if_true,if_false]<;>grind
  rw[e,Co,T.ub i j hi hj]
  by_cases h1:i=k
  · by_cases h2:j=k
    · simp[h1,h2]
    · rw[fo (by omega)];simp
  · by_cases h2:j=k
    · rw[fo (by omega)];simp
    · simp[h1,h2]
 bu:=fun i j hi hj=>by
  rw[←T.bu i j hi hj]
  exact de fun m _=>by
   rw[kH T.dH hk,kH T.eZ hk]
   by_cases h:m=k
   · subst h;rw[if_pos rfl,if_pos rfl];grind
   · rw[if_neg h,if_neg h]
structure mM(A:Rows)(N top p:Nat)(L:List Nat):Prop where
 mem:∀k,k∈L↔top≤k∧k<N∧g A k p≠0
 ord:L.Pairwise fun i j=>(g A i p).natAbs<(g A j p).natAbs∨((g A i p).natAbs=(g A j p).natAbs∧i<j)
structure B3 where
 A:Rows
 U:Rows
 C:Rows
noncomputable def qn(x y:Int):Int:=(2*x+y).fdiv (2*y)
noncomputable def kF(b:B3)(p k j:Nat):B3:=⟨bw b.A k (qn (g b.A k p) (g b.A j p)) j,bw b.U k (qn (g b.A k p) (g b.A j p)) j,bw b.C j (-(qn (g b.A k p) (g b.A j p))) k⟩
noncomputable def GI(N top p:Nat)(b c:B3):Prop:=∃(L:List Nat) (k j:Nat),mM b.A N top p (L++[j,k])∧c=kF b p k j
inductive jx(N top p:Nat):B3→B3→Prop
 |refl (b:B3):jx N top p b b
 |head {b c d:B3} (h:GI N top p b c) (t:jx N top p c d):jx N top p b d
theorem jx.tail{N top p:Nat}{b c d:B3}(h:jx N top p b c)(t:GI N top p c d):jx N top p b d:=by
 induction h with
 |refl b=>exact .head t (.refl _)
 |head x _ ih=>exact .head x (ih t)
noncomputable def jE(X:Rows)(N top m:Nat):Prop:=∀i c,top≤i→i<N→(g X i c).natAbs≤m
noncomputable def PR(f:Nat→Nat):Nat→Nat
 |0=>1
 |n+1=>PR f n*f n
theorem Ep{f:Nat→Nat}(h:∀i,1≤f i):∀n,1≤PR f n
 |0=>Nat.le_refl _
 |n+1=>Nat.mul_le_mul (Ep h n) (h n)
theorem zj{f f':Nat→Nat}:∀ {n:Nat},(∀i,i<n→f i=f' i)→PR f n=PR f' n
 |0,_=>rfl
 |n+1,h=>by
  show PR f n*f n=PR f' n*f' n
  rw[zj fun i hi=>h i (Nat.lt_succ_of_lt hi),h n (Nat.lt_succ_self n)]
theorem Eb{f f':Nat→Nat}{k:Nat}:∀ {n:Nat},k<n→(∀i,i≠k→f i=f' i)→PR f n*f' k=PR f' n*f k
 |0,hk,_=>absurd hk (Nat.not_lt_zero _)
 |n+1,hk,h=>by
  show PR f n*f n*f' k=PR f' n*f' n*f k
  by_cases e:k=n
  · subst e
    rw[zj (n:=k) fun i hi=>h i (Nat.ne_of_lt hi),Nat.mul_assoc,Nat.mul_comm (f k),Nat.mul_assoc]
  · have:=Eb (n:=n) (by omega) h
    rw[h n (Ne.symm e),Nat.mul_right_comm,this,Nat.mul_right_comm]
theorem Hm{f:Nat→Nat}{m top:Nat}(hm:1≤m):∀ {n:Nat},(∀i,i<n→i<top→f i≤1)→(∀i,i<n→f i≤m)→PR f n≤m^(n-top)
 |0,_,_=>by simp[PR]
 |n+1,h1,h2=>by
  have ih:=Hm hm (n:=n) (fun i hi=>h1 i (Nat.lt_succ_of_lt hi)) fun i hi=>h2 i (Nat.lt_succ_of_lt hi)
  show PR f n*f n≤_
  by_cases ht:n<top
  · have z:n+1-top=n-top:=by omega
    rw[z]
    exact Nat.le_trans (Nat.mul_le_mul ih (h1 n (Nat.lt_succ_self n) ht)) (by rw[Nat.mul_one];exact Nat.le_refl _)
  · have z:n+1-top=(n-top)+1:=by omega
    rw[z,Nat.pow_succ]
    exact Nat.mul_le_mul ih (h2 n (Nat.lt_succ_self n))
noncomputable def wt(A:Rows)(top p i:Nat):Nat:=if top≤i∧g A i p≠0 then 2*(g A i p).natAbs else 1
theorem EH(A:Rows)(top p i:Nat):1≤wt A top p i:=by
 unfold wt
 split<;>omega
theorem BL{x y:Int}(hy:y≠0):2*(x-qn x y*y).natAbs≤y.natAbs:=by
 unfold qn
 have h1:=Int.mul_fdiv_add_fmod (2*x+y) (2*y)
 have h2:(2*x+y).fmod (2*y)=2*x+y-2*y*(2*x+y).fdiv (2*y):=by omega
 generalize(2*x+y).fdiv (2*y)=q at*
 have e:2*(x-q*y)=(2*x+y).fmod (2*y)-y:=by rw[h2];grind
 rcases Int.lt_or_gt_of_ne hy with h|h
 · have a0:=Int.neg_fmod_neg (2*x+y) (2*y)
   have a1:=Int.fmod_nonneg_of_pos (-(2*x+y)) (show 0< -(2*y) by omega)
   have a2:=Int.fmod_lt_of_pos (-(2*x+y)) (show 0< -(2*y) by omega)
   omega
 · have a1:=Int.fmod_nonneg_of_pos (2*x+y) (show 0<2*y by omega)
   have a2:=Int.fmod_lt_of_pos (2*x+y) (show 0<2*y by omega)
   omega
theorem Ij{x y:Int}(hy:y≠0)(hxy:y.natAbs≤x.natAbs):(1+(qn x y).natAbs)*(if x-qn x y*y≠0 then 2*(x-qn x y*y).natAbs else 1)≤2*x.natAbs:=by
 have h2:=BL (x:=x) hy
 generalize qn x y=q at*
 generalize hr:x-q*y=r at*
 have hx:x=q*y+r:=by omega
 have hq:(q*y).natAbs=q.natAbs*y.natAbs:=Int.natAbs_mul ..
 by_cases h0:r=0
 · rw[if_neg (fun z=>z h0),Nat.mul_one]
   subst h0
   have hxa:x.natAbs=q.natAbs*y.natAbs:=by rw[←hq,hx];simp
   have hy1:1≤y.natAbs:=by omega
   have hq1:1≤q.natAbs:=by
    rcases Nat.eq_zero_or_pos q.natAbs with z|z
    · rw[z,Nat.zero_mul]at hxa;omega
    · exact z
   have:q.natAbs≤q.natAbs*y.natAbs:=Nat.le_mul_of_pos_right _ hy1
   omega
 · rw[if_pos h0]
   have hr1:1≤r.natAbs:=by omega
   have key:(1+q.natAbs)*r.natAbs≤x.natAbs:=by
    rcases Nat.lt_or_ge q.natAbs 2 with hlt|hge
    · rcases Nat.lt_or_ge q.natAbs 1 with h|h
      · have z:q.natAbs=0:=by omega
        have zq:q=0:=by omega
        subst zq
        simp at hx
        subst hx
        simp
      · have z:q.natAbs=1:=by omega
        rw[z]at hq⊢
        have:(q*y).natAbs=y.natAbs:=by omega
        have h3:x.natAbs=y.natAbs+r.natAbs∨x.natAbs+r.natAbs=y.natAbs∨x.natAbs+y.natAbs=r.natAbs:=by omega
        omega
    · have h3:(q*y).natAbs≤x.natAbs+r.natAbs:=by omega
      rw[hq]at h3
      have h4:q.natAbs*(2*r.natAbs)≤q.natAbs*y.natAbs:=Nat.mul_le_mul_left _ h2
      have h5:2*r.natAbs≤q.natAbs*r.natAbs:=Nat.mul_le_mul_right _ hge
      have h6:q.natAbs*(2*r.natAbs)=q.natAbs*r.natAbs+q.natAbs*r.natAbs:=by rw[Nat.mul_left_comm];omega
      rw[Nat.add_mul,Nat.one_mul]
      omega
   have:(1+q.natAbs)*(2*r.natAbs)=2*((1+q.natAbs)*r.natAbs):=by rw[Nat.mul_left_comm]
   omega
structure tW(A0:Rows)(N w top p m:Nat)(b0 b:B3)(gr:Nat):Prop where
 tn:Tn A0 b.A b.U b.C N w
 up:∀i,i<top→b.A.getD i []=b0.A.getD i []∧b.U.getD i []=b0.U.getD i []∧b.C.getD i []=b0.C.getD i []
 lA:jE b.A N top (m*gr)
 lU:jE b.U N top (m*gr)
 lC:jE b.C N top (m*gr)
 zs:∀i c,top≤i→i<N→c<p→g b.A i c=0
 NQ:gr*PR (wt b.A top p) N≤PR (wt b0.A top p) N
 pos:1≤gr
 Ng:b=b0∨∃j,top≤j∧j<N∧g b.A j p≠0
theorem uy{X:Rows}{N w top k j m gr:Nat}{q:Int}(hX:cu N w X)(hk:k<N)(hj:j<N)(hkt:top≤k)(hjt:top≤j)(h:jE X N top (m*gr)):jE (bw X k q j) N top (m*(gr*(1+q.natAbs))):=fun i c hi hN=>by
 rw[dS hX hk hj]
 have e:m*(gr*(1+q.natAbs))=m*gr+q.natAbs*(m*gr):=by rw[←Nat.mul_assoc,Nat.mul_add,Nat.mul_one,Nat.mul_comm (m*gr) q.natAbs]
 rw[e]
 by_cases hik:i=k
 · rw[if_pos hik]
   have h1:=h k c hkt hk
   have h2:=h j c hjt hj
   have h3:(q*g X j c).natAbs≤q.natAbs*(m*gr):=by rw[Int.natAbs_mul];exact Nat.mul_le_mul_left _ h2
   omega
 · rw[if_neg hik]
   have:=h i c hi hN
   omega
theorem j6{X:Rows}{k j i:Nat}{q:Int}(hk:k<X.length)(h:i≠k):(bw X k q j).getD i []=X.getD i []:=by
 unfold bw
 rw[k9 hk,if_neg h]
theorem tW.step{A0:Rows}{N w top p m gr:Nat}{b0 b:B3}{L:List Nat}{k j:Nat}(G:tW A0 N w top p m b0 b gr)(hp:p<w)(hL:mM b.A N top p (L++[j,k])):
 tW A0 N w top p m b0 (kF b p k j) (gr*(1+(qn (g b.A k p) (g b.A j p)).natAbs))∧(g (kF b p k j).A k p).natAbs<(g b.A k p).natAbs∧(∀i,i≠k→g (kF b p k j).A i p=g b.A i p)∧top≤k∧k<N∧top≤j∧j<N∧j≠k∧g b.A j p≠0:=by
 obtain⟨hk1,hk2,hk3⟩:=(hL.mem k).mp (by simp)
 obtain⟨hj1,hj2,hj3⟩:=(hL.mem j).mp (by simp)
 have hord:=hL.ord
 rw[List.pairwise_append]at hord
 have o2:=(List.pairwise_cons.mp hord.2.1).1 k (by simp)
 have hjk:j≠k:=by intro z;subst z;omega
 have hle:(g b.A j p).natAbs≤(g b.A k p).natAbs:=by omega
 have gk:g (kF b p k j).A k p=g b.A k p-qn (g b.A k p) (g b.A j p)*g b.A j p:=by
  show g (bw b.A k _ j) k p=_
  rw[dS G.tn.isA hk2 hj2,if_pos rfl]
 have gi:∀i,i≠k→g (kF b p k j).A i p=g b.A i p:=fun i hi=>by
  show g (bw b.A k _ j) i p=_
  rw[dS G.tn.isA hk2 hj2,if_neg hi]
 have hrest:=BL (x:=g b.A k p) hj3
 have hgrow:=Ij (x:=g b.A k p) hj3 hle
 refine⟨⟨G.tn.take hk2 hj2 hjk,fun i hi=>?_,uy G.tn.isA hk2 hj2 hk1 hj1 G.lA,uy G.tn.dH hk2 hj2 hk1 hj1 G.lU,?_,fun i c hi hN hc=>?_,?_,?_,.inr ⟨j,hj1,hj2,by rw[gi j hjk];exact hj3⟩⟩,?_,gi,hk1,hk2,hj1,hj2,hjk,hj3⟩
 · obtain⟨a1,a2,a3⟩:=G.up i hi
   refine⟨(j6 (by rw[G.tn.isA.len];exact hk2) (by omega)).trans a1,(j6 (by rw[G.tn.dH.len];exact hk2) (by omega)).trans a2,(j6 (by rw[G.tn.eZ.len];exact hj2) (by omega)).trans a3⟩
 · have:=uy (q:= -(qn (g b.A k p) (g b.A j p))) G.tn.eZ hj2 hk2 hj1 hk1 G.lC
   rw[Int.natAbs_neg]at this
   exact this
 · show g (bw b.A k _ j) i c=0
   rw[dS G.tn.isA hk2 hj2]
   by_cases h:i=k
   · rw[if_pos h,G.zs k c hk1 hk2 hc,G.zs j c hj1 hj2 hc,Int.mul_zero];rfl
   · rw[if_neg h];exact G.zs i c hi hN hc
 · have e:=Eb (f:=wt (kF b p k j).A top p) (f':=wt b.A top p) (k:=k) hk2 fun i hi=>by unfold wt;rw[gi i hi]
   have w1:wt b.A top p k=2*(g b.A k p).natAbs:=by unfold wt;rw[if_pos ⟨hk1,hk3⟩]
   have w2:(1+(qn (g b.A k p) (g b.A j p)).natAbs)*wt (kF b p k j).A top p k≤wt b.A top p k:=by
    rw[w1]
    unfold wt
    rw[gk]
    by_cases h0:g b.A k p-qn (g b.A k p) (g b.A j p)*g b.A j p=0
    · rw[if_neg (fun z=>z.2 h0)]
      rw[if_neg (fun z=>z h0)]at hgrow
      exact hgrow
    · rw[if_pos ⟨hk1,h0⟩]
      rw[if_pos h0]at hgrow
      exact hgrow
   have hw:0<wt b.A top p k:=EH _ _ _ _
   refine Nat.le_of_mul_le_mul_right (c:=wt b.A top p k) ?_ hw
   have s1:gr*(1+(qn (g b.A k p) (g b.A j p)).natAbs)*PR (wt (kF b p k j).A top p) N*wt b.A top p k=gr*PR (wt b.A top p) N*((1+(qn (g b.A k p) (g b.A j p)).natAbs)*wt (kF b p k j).A top p k):=by
    rw[Nat.mul_assoc _ (PR _ N),e]
    simp only[Nat.mul_assoc,Nat.mul_left_comm]
   rw[s1]
   exact Nat.mul_le_mul G.NQ w2
 · exact Nat.mul_pos G.pos (by omega)
 · rw[gk];omega
end Mx
namespace Mx
theorem tW.low{A0:Rows}{N w top p e gr:Nat}{b0 b:B3}(G:tW A0 N w top p (2^e) b0 b gr)(h0:jE b0.A N top (2^e)):2^e*gr≤2^((N-top+1)*(e+1)):=by
 have h1:gr≤PR (wt b0.A top p) N:=Nat.le_trans (Nat.le_mul_of_pos_right _ (Ep (EH _ _ _) N)) G.NQ
 have h2:PR (wt b0.A top p) N≤(2^(e+1))^(N-top):=Hm Nat.one_le_two_pow (fun i _ ht=>by unfold wt;rw[if_neg (by omega)];exact Nat.le_refl _) fun i hi=>by
  unfold wt
  split
  · rename_i h
    have:=h0 i p h.1 hi
    rw[Nat.pow_succ];omega
  · exact Nat.one_le_two_pow
 refine Nat.le_trans (Nat.mul_le_mul_left _ (Nat.le_trans h1 h2)) ?_
 rw[←Nat.pow_mul,←Nat.pow_add]
 refine Nat.pow_le_pow_right (by decide) ?_
 have e1:(N-top+1)*(e+1)=(e+1)*(N-top)+(e+1):=by rw[Nat.add_mul,Nat.one_mul,Nat.mul_comm]
 rw[e1]
 omega
structure mP(A0:Rows)(N w:Nat)(b:B3)(top p:Nat)(ld:Nat→Nat)(e u:Nat):Prop where
 tn:Tn A0 b.A b.U b.C N w
 le:top≤N
 lo:jE b.A N top (2^e)∧jE b.U N top (2^e)∧jE b.C N top (2^e)
 hi:∀i c,i<top→(g b.A i c).natAbs≤2^u∧(g b.U i c).natAbs≤2^u∧(g b.C i c).natAbs≤2^u
 zs:∀i c,top≤i→i<N→c<p→g b.A i c=0
 lead:∀i,i<top→ld i<p∧0<g b.A i (ld i)∧∀c,c<ld i→g b.A i c=0
 mono:∀i j,i<j→j<top→ld i<ld j
 red:∀i j,i<j→j<top→0≤g b.A i (ld j)∧g b.A i (ld j)<g b.A j (ld j)
theorem mP.OZ{A0:Rows}{N w top p e u:Nat}{b:B3}{ld:Nat→Nat}(S:mP A0 N w b top p ld e u):tW A0 N w top p (2^e) b b 1:=
 ⟨S.tn,fun _ _=>⟨rfl,rfl,rfl⟩,by rw[Nat.mul_one];exact S.lo.1,by rw[Nat.mul_one];exact S.lo.2.1,by rw[Nat.mul_one];exact S.lo.2.2,S.zs,by rw[Nat.one_mul];exact Nat.le_refl _,Nat.le_refl _,.inl rfl⟩
theorem mP.skip{A0:Rows}{N w top p e u:Nat}{b:B3}{ld:Nat→Nat}(S:mP A0 N w b top p ld e u)(h:mM b.A N top p []):mP A0 N w b top (p+1) ld e u:=
 ⟨S.tn,S.le,S.lo,S.hi,fun i c h1 h2 h3=>by
  by_cases hc:c=p
  · subst hc
    exact Classical.byContradiction fun z=>absurd ((h.mem i).mpr ⟨h1,h2,z⟩) (by simp)
  · exact S.zs i c h1 h2 (by omega),fun i hi=>⟨Nat.lt_succ_of_lt (S.lead i hi).1,(S.lead i hi).2⟩,S.mono,S.red⟩
noncomputable def setB(b:B3)(p top r:Nat):B3:=
 if g (bO b.A top r) top p<0 then⟨gv (bO b.A top r) top,gv (bO b.U top r) top,gv (bO b.C top r) top⟩else⟨bO b.A top r,bO b.U top r,bO b.C top r⟩
theorem uk{X:Rows}{N w top r m:Nat}(hX:cu N w X)(ht:top<N)(hr:r<N)(hrt:top≤r)(h:jE X N top m):jE (bO X top r) N top m:=fun i c hi hN=>by
 rw[kg hX ht hr]
 refine h _ c ?_ (qZ ht hr hN)
 unfold sw
 split
 · exact hrt
 · split
   · exact Nat.le_refl _
   · exact hi
theorem yT{X:Rows}{N w top m:Nat}(hX:cu N w X)(ht:top<N)(h:jE X N top m):jE (gv X top) N top m:=fun i c hi hN=>by
 rw[kH hX ht]
 split
 · rw[Int.natAbs_neg];exact h top c (Nat.le_refl _) ht
 · exact h i c hi hN
theorem uO{X:Rows}{N w top r i:Nat}(hX:cu N w X)(ht:top<N)(hr:r<N)(hrt:top≤r)(hi:i<top):(bO X top r).getD i []=X.getD i []:=by
 rw[yW (by have:=hX.len;omega) (by have:=hX.len;omega)]
 unfold sw
 rw[if_neg (by omega),if_neg (by omega)]
theorem ze{X:Rows}{N w top i:Nat}(hX:cu N w X)(ht:top<N)(hi:i<top):(gv X top).getD i []=X.getD i []:=by
 unfold gv
 rw[k9 (by have:=hX.len;omega),if_neg (by omega)]
structure wc(A0:Rows)(N w top p m:Nat)(b0 b:B3):Prop where
 tn:Tn A0 b.A b.U b.C N w
 up:∀i,i<top→b.A.getD i []=b0.A.getD i []∧b.U.getD i []=b0.U.getD i []∧b.C.getD i []=b0.C.getD i []
 lo:jE b.A N top m∧jE b.U N top m∧jE b.C N top m
 zs:∀i c,top≤i→i<N→c<p→g b.A i c=0
 tp:0<g b.A top p
 z1:∀i,top<i→i<N→g b.A i p=0
theorem tW.set{A0:Rows}{N w top p m gr r:Nat}{b0 b:B3}(G:tW A0 N w top p m b0 b gr)(hL:mM b.A N top p [r]):wc A0 N w top p (m*gr) b0 (setB b p top r)∧top≤r∧r<N:=by
 obtain⟨hr1,hr2,hr3⟩:=(hL.mem r).mp (by simp)
 have ht:top<N:=by omega
 have z:∀i,top≤i→i<N→i≠r→g b.A i p=0:=fun i h1 h2 h3=>Classical.byContradiction fun y=>h3 (by simpa using(hL.mem i).mpr ⟨h1,h2,y⟩)
 have swg:∀i c,g (bO b.A top r) i c=g b.A (sw top r i) c:=fun i c=>kg G.tn.isA ht hr2 i c
 have gt:g (bO b.A top r) top p=g b.A r p:=by rw[swg];unfold sw;rw[if_pos rfl]
 have T1:=G.tn.GQ ht hr2
 have z1:∀i,top<i→i<N→g (bO b.A top r) i p=0:=fun i h1 h2=>by
  rw[swg]
  unfold sw
  rw[if_neg (by omega)]
  by_cases h:i=r
  · rw[if_pos h];exact z top (Nat.le_refl _) ht (by omega)
  · rw[if_neg h];exact z i (by omega) h2 h
 have zs:∀i c,top≤i→i<N→c<p→g (bO b.A top r) i c=0:=fun i c h1 h2 h3=>by
  rw[swg]
  refine G.zs _ c ?_ (qZ ht hr2 h2) h3
  unfold sw
  split
  · exact hr1
  · split
    · exact Nat.le_refl _
    · exact h1
 have up:∀i,i<top→(bO b.A top r).getD i []=b0.A.getD i []∧(bO b.U top r).getD i []=b0.U.getD i []∧(bO b.C top r).getD i []=b0.C.getD i []:=fun i hi=>by
  obtain⟨a1,a2,a3⟩:=G.up i hi
  exact⟨(uO G.tn.isA ht hr2 hr1 hi).trans a1,(uO G.tn.dH ht hr2 hr1 hi).trans a2,(uO G.tn.eZ ht hr2 hr1 hi).trans a3⟩
 have lo:=And.intro (uk G.tn.isA ht hr2 hr1 G.lA) (And.intro (uk G.tn.dH ht hr2 hr1 G.lU) (uk G.tn.eZ ht hr2 hr1 G.lC))
 refine⟨?_,hr1,hr2⟩
 unfold setB
 by_cases hs:g (bO b.A top r) top p<0
 · rw[if_pos hs]
   refine⟨T1.neg ht,fun i hi=>?_,⟨yT T1.isA ht lo.1,yT T1.dH ht lo.2.1,yT T1.eZ ht lo.2.2⟩,fun i c h1 h2 h3=>?_,?_,fun i h1 h2=>?_⟩
   · obtain⟨a1,a2,a3⟩:=up i hi
     exact⟨(ze T1.isA ht hi).trans a1,(ze T1.dH ht hi).trans a2,(ze T1.eZ ht hi).trans a3⟩
   · show g (gv (bO b.A top r) top) i c=0
     rw[kH T1.isA ht]
     split
     · rw[zs top c (Nat.le_refl _) ht h3];rfl
     · exact zs i c h1 h2 h3
   · show 0<g (gv (bO b.A top r) top) top p
     rw[kH T1.isA ht,if_pos rfl];omega
   · show g (gv (bO b.A top r) top) i p=0
     rw[kH T1.isA ht,if_neg (by omega)];exact z1 i h1 h2
 · rw[if_neg hs]
   exact⟨T1,up,lo,zs,by show 0<g (bO b.A top r) top p;rw[gt]at hs⊢;omega,z1⟩
noncomputable def mL(p top:Nat):Nat→B3→B3
 |0,b=>b
 |k+1,b=>
  let c:=mL p top k b
  ⟨bw c.A k ((g c.A k p).fdiv (g c.A top p)) top,bw c.U k ((g c.A k p).fdiv (g c.A top p)) top,bw c.C top (-((g c.A k p).fdiv (g c.A top p))) k⟩
structure qr(A0:Rows)(N w top p e u:Nat)(b:B3)(k:Nat)(c:B3):Prop where
 tn:Tn A0 c.A c.U c.C N w
 rA:∀i,k≤i→c.A.getD i []=b.A.getD i []∧c.U.getD i []=b.U.getD i []
 rC:∀i,i≠top→c.C.getD i []=b.C.getD i []
 ah:∀i q,i<k→q<p→g c.A i q=g b.A i q
 rd:∀i,i<k→0≤g c.A i p∧g c.A i p<g c.A top p
 sz:∀i q,i<k→(g c.A i q).natAbs≤2^(u+e+1)∧(g c.U i q).natAbs≤2^(u+e+1)
 sC:∀q,(g c.C top q).natAbs≤2^e+k*2^(u+u)
theorem Ac(a:Int){b:Int}(hb:0<b):(a.fdiv b).natAbs≤a.natAbs:=by
 have h1:=Int.mul_fdiv_add_fmod a b
 have h2:=Int.fmod_nonneg_of_pos a hb
 have h3:=Int.fmod_lt_of_pos a hb
 generalize a.fdiv b=q at*
 rcases Int.lt_trichotomy q 0 with h|h|h
 · have h4:0≤(b-1)*(-q-1):=Int.mul_nonneg (by omega) (by omega)
   have e:(b-1)*(-q-1)= -(b*q)-b+q+1:=by grind
   omega
 · subst h;simp
 · have:q≤b*q:=by
    have:0≤(b-1)*q:=Int.mul_nonneg (by omega) (by omega)
    grind
   omega
theorem qr.step{A0:Rows}{N w top p e u k:Nat}{b c:B3}(I:qr A0 N w top p e u b k c)(hk:k<top)(ht:top<N)(hp:p<w)(htp:0<g b.A top p)(hz:∀q,q<p→g b.A top q=0)
 (hlo:∀q,(g b.A top q).natAbs≤2^e∧(g b.U top q).natAbs≤2^e) (hhi:∀i q,i<top→(g b.A i q).natAbs≤2^u∧(g b.U i q).natAbs≤2^u∧(g b.C i q).natAbs≤2^u):
 qr A0 N w top p e u b (k+1) ⟨bw c.A k ((g c.A k p).fdiv (g c.A top p)) top,bw c.U k ((g c.A k p).fdiv (g c.A top p)) top,bw c.C top (-((g c.A k p).fdiv (g c.A top p))) k⟩:=by
 have hkN:k<N:=by omega
 have gA:∀i q,k≤i→g c.A i q=g b.A i q:=fun i q hi=>by unfold g;rw[(I.rA i hi).1]
 have gU:∀i q,k≤i→g c.U i q=g b.U i q:=fun i q hi=>by unfold g;rw[(I.rA i hi).2]
 have gC:∀i q,i≠top→g c.C i q=g b.C i q:=fun i q hi=>by unfold g;rw[I.rC i hi]
 have qe:((g c.A k p).fdiv (g c.A top p)).natAbs≤2^u:=by
  rw[gA k p (Nat.le_refl _),gA top p (by omega)]
  exact Nat.le_trans (Ac _ htp) (hhi k p hk).1
 have hq:∀x:Int,x.natAbs≤2^e→((g c.A k p).fdiv (g c.A top p)*x).natAbs≤2^(u+e):=fun x hx=>by
  rw[Int.natAbs_mul,Nat.pow_add];exact Nat.mul_le_mul qe hx
 have le1:2^u≤2^(u+e):=Nat.pow_le_pow_right (by decide) (by omega)
 refine⟨I.tn.take hkN ht (by omega),fun i hi=>?_,fun i hi=>?_,fun i q hi hqp=>?_,fun i hi=>?_,fun i q hi=>?_,fun q=>?_⟩
 · exact⟨(j6 (by rw[I.tn.isA.len];exact hkN) (by omega)).trans (I.rA i (by omega)).1,(j6 (by rw[I.tn.dH.len];exact hkN) (by omega)).trans (I.rA i (by omega)).2⟩
 · exact(j6 (by rw[I.tn.eZ.len];exact ht) hi).trans (I.rC i hi)
 · show g (bw c.A k _ top) i q=_
   rw[dS I.tn.isA hkN ht]
   split
   · rename_i h
     rw[gA top q (by omega),hz q hqp,Int.mul_zero,gA k q (Nat.le_refl _),h];omega
   · exact I.ah i q (by omega) hqp
 · show 0≤g (bw c.A k _ top) i p∧g (bw c.A k _ top) i p<g (bw c.A k _ top) top p
   rw[dS I.tn.isA hkN ht,dS I.tn.isA hkN ht,if_neg (show¬top=k by omega)]
   split
   · have h1:=Int.mul_fdiv_add_fmod (g c.A k p) (g c.A top p)
     have htp':0<g c.A top p:=by rw[gA top p (by omega)];exact htp
     have h2:=Int.fmod_nonneg_of_pos (g c.A k p) htp'
     have h3:=Int.fmod_lt_of_pos (g c.A k p) htp'
     rw[Int.mul_comm]at h1
     omega
   · exact I.rd i (by omega)
 · show(g (bw c.A k _ top) i q).natAbs≤_∧(g (bw c.U k _ top) i q).natAbs≤_
   rw[dS I.tn.isA hkN ht,dS I.tn.dH hkN ht]
   split
   · have a1:=hq (g c.A top q) (by rw[gA top q (by omega)];exact(hlo q).1)
     have a2:=hq (g c.U top q) (by rw[gU top q (by omega)];exact(hlo q).2)
     rw[gA k q (Nat.le_refl _),gU k q (Nat.le_refl _)]
     have b1:=(hhi k q hk).1
     have b2:=(hhi k q hk).2.1
     rw[Nat.pow_succ]
     omega
   · exact I.sz i q (by omega)
 · show(g (bw c.C top _ k) top q).natAbs≤_
   rw[dS I.tn.eZ ht hkN,if_pos rfl,gC k q (by omega),Int.neg_mul]
   have a1:=I.sC q
   have a2:((g c.A k p).fdiv (g c.A top p)*g b.C k q).natAbs≤2^(u+u):=by
    rw[Int.natAbs_mul,Nat.pow_add];exact Nat.mul_le_mul qe (hhi k q hk).2.2
   rw[Nat.add_mul,Nat.one_mul]
   omega
theorem qr.start{A0:Rows}{N w top p e u:Nat}{b:B3}(T:Tn A0 b.A b.U b.C N w)(h:∀q,(g b.C top q).natAbs≤2^e):qr A0 N w top p e u b 0 b:=
 ⟨T,fun _ _=>⟨rfl,rfl⟩,fun _ _=>rfl,fun _ _ h=>absurd h (Nat.not_lt_zero _),fun _ h=>absurd h (Nat.not_lt_zero _),fun _ _ h=>absurd h (Nat.not_lt_zero _),fun q=>by rw[Nat.zero_mul];exact h q⟩
theorem wc.next{A0:Rows}{N w top p e u e' u':Nat}{b0 b c:B3}{ld:Nat→Nat}(S:mP A0 N w b0 top p ld e u)(s:wc A0 N w top p (2^e') b0 b)(ht:top<N)(I:qr A0 N w top p e' u b top c)(hN:N≤8)
 (h1:u+e'+1≤u') (h2:u+u+4≤u'):mP A0 N w c (top+1) (p+1) (fun i=>if i=top then p else ld i) e' u':=by
 have hup:∀i q,i<top→g b.A i q=g b0.A i q:=fun i q hi=>by unfold g;rw[(s.up i hi).1]
 have hA:∀i q,top≤i→g c.A i q=g b.A i q:=fun i q hi=>by unfold g;rw[(I.rA i hi).1]
 have hU:∀i q,top≤i→g c.U i q=g b.U i q:=fun i q hi=>by unfold g;rw[(I.rA i hi).2]
 have hC:∀i q,i≠top→g c.C i q=g b.C i q:=fun i q hi=>by unfold g;rw[I.rC i hi]
 have le:∀ {a x:Nat},a≤2^x→x≤u'→a≤2^u':=fun h hx=>Nat.le_trans h (Nat.pow_le_pow_right (by decide) hx)
 refine⟨I.tn,ht,⟨fun i q hi hN=>?_,fun i q hi hN=>?_,fun i q hi hN=>?_⟩,fun i q hi=>?_,fun i q hi hN hq=>?_,fun i hi=>?_,fun i j hij hj=>?_,fun i j hij hj=>?_⟩
 · rw[hA i q (by omega)];exact s.lo.1 i q (by omega) hN
 · rw[hU i q (by omega)];exact s.lo.2.1 i q (by omega) hN
 · rw[hC i q (by omega)];exact s.lo.2.2 i q (by omega) hN
 · by_cases h:i=top
   · subst h
     refine⟨?_,?_,?_⟩
     · rw[hA i q (Nat.le_refl _)];exact le (s.lo.1 i q (Nat.le_refl _) ht) (by omega)
     · rw[hU i q (Nat.le_refl _)];exact le (s.lo.2.1 i q (Nat.le_refl _) ht) (by omega)
     · have h3:=I.sC q
       have h4:i*2^(u+u)≤2^(u+u+3):=by rw[Nat.pow_add _ _ 3,Nat.mul_comm];exact Nat.mul_le_mul_left _ (by omega)
       have h5:2^(u+u+3)*2≤2^u':=by rw[←Nat.pow_succ];exact Nat.pow_le_pow_right (by decide) h2
       have h6:2^e'*2≤2^u':=by rw[←Nat.pow_succ];exact Nat.pow_le_pow_right (by decide) (by omega)
       omega
   · have hi':i<top:=by omega
     refine⟨le (I.sz i q hi').1 h1,le (I.sz i q hi').2 h1,?_⟩
     rw[hC i q h]
     have:g b.C i q=g b0.C i q:=by unfold g;rw[(s.up i hi').2.2]
     rw[this]
     exact le (S.hi i q hi').2.2 (by omega)
 · rw[hA i q (by omega)]
   by_cases h:q=p
   · rw[h];exact s.z1 i (by omega) hN
   · exact s.zs i q (by omega) hN (by omega)
 · by_cases h:i=top
   · subst h
     rw[if_pos rfl]
     refine⟨Nat.lt_succ_self p,?_,fun q hq=>?_⟩
     · rw[hA i p (Nat.le_refl _)];exact s.tp
     · rw[hA i q (Nat.le_refl _)];exact s.zs i q (Nat.le_refl _) ht hq
   · have hi':i<top:=by omega
     rw[if_neg h]
     obtain⟨a1,a2,a3⟩:=S.lead i hi'
     refine⟨Nat.lt_succ_of_lt a1,?_,fun q hq=>?_⟩
     · rw[I.ah i _ hi' a1,hup i _ hi'];exact a2
     · rw[I.ah i _ hi' (Nat.lt_trans hq a1),hup i _ hi'];exact a3 q hq
 · by_cases h:j=top
   · rw[if_pos h,if_neg (by omega)];exact(S.lead i (by omega)).1
   · rw[if_neg h,if_neg (by omega)];exact S.mono i j hij (by omega)
 · by_cases h:j=top
   · subst h
     rw[if_pos rfl]
     exact I.rd i hij
   · have hj':j<top:=by omega
     rw[if_neg h]
     have:=S.red i j hij hj'
     have hl:=(S.lead j hj').1
     rw[I.ah i _ (by omega) hl,I.ah j _ hj' hl,hup i _ (by omega),hup j _ hj']
     exact this
theorem Tn.start{A:Rows}{N w:Nat}(hA:cu N w A):Tn A A (units N) (units N) N w where
 isA:=hA
 dH:=qb N
 eZ:=qb N
 ua:=fun i c hi hc=>by
  rw[←Dn hi fun k=>g A k c]
  exact de fun m hm=>by rw[j5 hi hm]
 ub:=fun i j hi hj=>by
  rw[Bu i j,←Dn hi fun k=>dl j k]
  · exact de fun m hm=>by rw[j5 hi hm,j5 hj hm]
 bu:=fun i j hi hj=>by
  rw[←An hi fun k=>dl k j]
  exact de fun m hm=>by rw[j5 hm hi,j5 hm hj,Int.mul_comm]
theorem mP.start{A:Rows}{N w e:Nat}(hA:cu N w A)(h:jE A N 0 (2^e)):mP A N w ⟨A,units N,units N⟩ 0 0 (fun _=>0) e 0:=by
 have hu:jE (units N) N 0 (2^e):=fun i c _ hi=>by
  by_cases hc:c<N
  · rw[j5 hi hc]
    unfold dl
    split
    · exact Nat.one_le_two_pow
    · exact Nat.zero_le _
  · unfold g
    rw[nr (l:=(units N).getD i []) (by rw[cH (qb N) hi];omega)]
    exact Nat.zero_le _
 exact⟨Tn.start hA,Nat.zero_le _,⟨h,hu,hu⟩,fun _ _ h=>absurd h (Nat.not_lt_zero _),fun _ _ _ _ h=>absurd h (Nat.not_lt_zero _),fun _ h=>absurd h (Nat.not_lt_zero _),fun _ _ _ h=>absurd h (Nat.not_lt_zero _),fun _ _ _ h=>absurd h (Nat.not_lt_zero _)⟩
end Mx
namespace Mx
noncomputable def SU(f:Nat→Nat):Nat→Nat
 |0=>0
 |n+1=>SU f n+f n
theorem GN{f f':Nat→Nat}:∀ {n:Nat},(∀i,i<n→f' i≤f i)→SU f' n≤SU f n
 |0,_=>Nat.le_refl _
 |n+1,h=>Nat.add_le_add (GN fun i hi=>h i (Nat.lt_succ_of_lt hi)) (h n (Nat.lt_succ_self n))
theorem GK{f f':Nat→Nat}{k:Nat}(hlt:f' k<f k):∀ {n:Nat},k<n→(∀i,i<n→f' i≤f i)→SU f' n<SU f n
 |0,hk,_=>absurd hk (Nat.not_lt_zero _)
 |n+1,hk,h=>by
  by_cases e:k=n
  · subst e
    exact Nat.add_lt_add_of_le_of_lt (GN fun i hi=>h i (Nat.lt_succ_of_lt hi)) hlt
  · exact Nat.add_lt_add_of_lt_of_le (GK hlt (by omega) fun i hi=>h i (Nat.lt_succ_of_lt hi)) (h n (Nat.lt_succ_self n))
noncomputable def mu(A:Rows)(N p:Nat):Nat:=SU (fun i=>(g A i p).natAbs) N
inductive Lp(N p:Nat):Nat→B3→Nat→B3→Prop
 |none {top:Nat} {b:B3} (h:mM b.A N top p []):Lp N p top b top b
 |one {top r:Nat} {b c:B3} (h:jx N top p b c) (l:mM c.A N top p [r]):Lp N p top b (top+1) (mL p top top (setB c p top r))
inductive wj(A:Rows)(N:Nat):Nat→Nat→B3→Prop
 |start:wj A N 0 0 ⟨A,units N,units N⟩
 |next {p t t':Nat} {b b':B3} (h:wj A N p t b) (c:Lp N p t b t' b'):wj A N (p+1) t' b'
noncomputable def Ez(N e0:Nat):Nat→Nat
 |0=>e0
 |t+1=>(N-t+1)*(Ez N e0 t+1)
noncomputable def Vz(N e0:Nat):Nat→Nat
 |0=>0
 |t+1=>Vz N e0 t+Vz N e0 t+Ez N e0 (t+1)+5
theorem Ld:∀N,N<9→∀t,t<N+1→Ez N 48 t≤50000000∧Vz N 48 t≤60000000:=by decide+kernel
end Mx
namespace Prog
open PySem L2 L3
open PySem.Spec hiding items?
open PyProof.Rows hiding St
theorem jd{i j:Int}(h1: -(2^64)<i)(h2:i<2^64):IntMulOk i j:= .of_left (intBits_le_64 h1 h2)
theorem sE{i j:Int}(h1: -(2^64)<j)(h2:j<2^64):IntMulOk i j:= .of_right (intBits_le_64 h1 h2)
noncomputable def Any(st:af)(d:D):Prop:=∃t,eP st d=some t
structure Thing(st:af)(d:D):Prop where
 any:Any st d
 au:∀xs,items? st d=some xs→(∀x∈xs,Any st x)∧xs.length≤sizeLine
noncomputable def isInt:D→Bool
 | .int _=>true
 |_=>false
theorem zG{st:af}{d:D}{t:String}(h:eP st d=some t):(t=="int")=isInt d:=by
 cases d<;>unfold eP at h<;>first|(cases h;done)|(cases h;rfl)|(simp only at h;split at h<;>first|(cases h;rfl)|cases h)
theorem xI{st:af}{d:D}{t:String}(h:eP st d=some t):(t=="list"||t=="tuple")=(items? st d).isSome:=by
 cases d<;>unfold eP at h<;>first|(cases h;done)|(cases h;rfl)|(simp only at h;split at h<;>first|(cases h;rename_i q;rw[az q];rfl)|cases h)
noncomputable def dX(st:af)(d:D)(m:Int):Bool:=match items? st d with
 |some xs=>decide ((xs.length:Int)=m)&&xs.all isInt
 |none=>false
theorem uf{tg:e7}{te:DE}{ok:af→Prop}{σc:bM}{st:af}{K:List D→af→Prop}{g:D→D}(aI:ok st):∀(xs acc:List D),(∀x∈xs,∀K',K' (g x) st→∃σ2,tg x σc=some σ2∧te σ2 st K')→K (acc++xs.map g) st→cP tg bW te ok σc xs acc st K
 | [],acc,_,h=>by unfold cP;exact⟨aI,by simpa using h⟩
 |x::xs,acc,hx,h=>by
  unfold cP
  obtain⟨σ2,e,q⟩:=hx x List.mem_cons_self (fun y st2=>cP tg bW te ok σc xs (acc++[y]) st2 K) (uf aI xs (acc++[g x]) (fun y hy=>hx y (List.mem_cons_of_mem _ hy)) (by simpa using h))
  exact⟨aI,σ2,e,q⟩
theorem oi{f:D→Bool}:∀xs:List D,jy (xs.map fun x=>D.bl (f x))=some (xs.map f)
 | []=>rfl
 |x::xs=>by simp[jy,oi xs]
noncomputable abbrev aB(r:List Int):List D:=r.map D.int
noncomputable abbrev cw(r:List Int):D:= .tup (aB r)
noncomputable abbrev a7(r:List Int):D:= .lst (aB r)
noncomputable abbrev aL(A:List (List Int)):D:= .tup (A.map cw)
noncomputable abbrev mS(A:List (List Int)):D:= .lst (A.map a7)
noncomputable def br(st:af):List D→List (List Int)→Prop
 | [],[]=>True
 |d::ds,r::rs=>items? st d=some (aB r)∧br st ds rs
 |_,_=>False
structure cV(st:af)(d:D)(A:List (List Int)):Prop where
 ex:∃ds,items? st d=some ds∧br st ds A
theorem br.len{st:af}:∀ {ds:List D} {A:List (List Int)},br st ds A→ds.length=A.length
 | [],[],_=>rfl
 |_::_,_::_,h=>by simp[br.len h.2]
theorem br.tup{st:af}:∀ {A:List (List Int)},br st (A.map cw) A
 | []=>trivial
 |_::_=>⟨rfl,br.tup⟩
theorem br.lst{st:af}:∀ {A:List (List Int)},br st (A.map a7) A
 | []=>trivial
 |_::_=>⟨rfl,br.lst⟩
theorem br.get{st:af}:∀ {ds:List D} {A:List (List Int)} {i:Nat} {d:D},br st ds A→ds[i]?=some d→∃r,A[i]?=some r∧items? st d=some (aB r)
 |_::_,r::_,0,_,h,e=>by simp at e;subst e;exact⟨r,rfl,h.1⟩
 |_::_,_::_,i+1,d,h,e=>by
  obtain⟨r,e1,e2⟩:=br.get (i:=i) (d:=d) h.2 (by simpa using e)
  exact⟨r,by simpa using e1,e2⟩
theorem jq{st:af}{A:List (List Int)}:cV st (aL A) A:=⟨_,rfl,br.tup⟩
theorem sM{st:af}{A:List (List Int)}:cV st (mS A) A:=⟨_,rfl,br.lst⟩
structure Ext(st st':af):Prop where
 len:st.length≤st'.length
 same:∀m,m<st.length→st'[m]?=st[m]?
theorem Ext.trans{st st1 st2:af}(a:Ext st st1)(b:Ext st1 st2):Ext st st2:=⟨Nat.le_trans a.len b.len,fun m h=>(b.same m (Nat.lt_of_lt_of_le h a.len)).trans (a.same m h)⟩
theorem Ext.push{st:af}{c:List Cell}:Ext st (st++c):=⟨by simp,fun m h=>List.getElem?_append_left h⟩
theorem fR{r:List Int}{k:Nat}(h:k<r.length):dQ (aB r) (k:Int)=some (.int (r.getD k 0)):=by
 refine gz ?_
 rw[List.getElem?_map,List.getElem?_eq_getElem h,Mx.aS h];rfl
theorem getD_mem{r:List Int}{k:Nat}(h:k<r.length):r.getD k 0∈r:=by rw[Mx.aS h];exact List.getElem_mem _
theorem br.at{st:af}{ds:List D}{A:List (List Int)}{k:Nat}(h:br st ds A)(hk:k<A.length):∃d,dQ ds (k:Int)=some d∧items? st d=some (aB (A.getD k [])):=by
 have hl:=h.len
 have e:ds[k]?=some ds[k]:=List.getElem?_eq_getElem (by omega)
 obtain⟨r,er,hr⟩:=h.get e
 refine⟨ds[k],gz e,?_⟩
 rw[Mx.aS hk]
 rw[List.getElem?_eq_getElem hk]at er
 cases er
 exact hr
theorem ints_app{r:List Int}{x:Int}:aB r++[D.int x]=aB (r++[x]):=by simp[aB]
theorem Fe{A:List (List Int)}{r:List Int}:A.map cw++[cw r]=(A++[r]).map cw:=by simp
theorem qf{r s:List Int}{d:D}(h:d∈g7 (aB r) (aB s)):∃a b,a∈r∧b∈s∧d= .tup [.int a,.int b]:=by
 obtain⟨n,hn,e⟩:=List.mem_iff_getElem.mp h
 have e':(g7 (aB r) (aB s))[n]?=some d:=by rw[List.getElem?_eq_getElem hn,e]
 obtain⟨x,y,ex,ey,rfl⟩:=uN e'
 rw[List.getElem?_map]at ex ey
 cases q1:r[n]? with
 |none=>rw[q1]at ex;cases ex
 |some a=>
  cases q2:s[n]? with
  |none=>rw[q2]at ey;cases ey
  |some b=>
   rw[q1]at ex
   rw[q2]at ey
   cases ex
   cases ey
   exact⟨a,b,List.mem_of_getElem? q1,List.mem_of_getElem? q2,rfl⟩
theorem nN(n:Nat):(List.replicate n [D.int 0]).flatten=aB (List.replicate n 0):=by
 induction n with
 |zero=>rfl
 |succ n ih=>rw[List.replicate_succ,List.flatten_cons,ih];rfl
theorem xH:∀r:List Int,(aB r).map (fun x=>match x with| .int i=>i|_=>0)=r
 | []=>rfl
 |a::r=>by rw[aB,List.map_cons,List.map_cons,xH r]
theorem pU{d:D}{ds:List D}:dQ (d::ds) 0=some d:=gz (j:=0) rfl
noncomputable def intsOf(st:af)(d:D):List Int:=match items? st d with
 |some xs=>xs.map fun x=>match x with| .int i=>i|_=>0
 |none=>[]
theorem oO{st:af}{d:D}{r:List Int}(h:items? st d=some (aB r)):intsOf st d=r:=by
 unfold intsOf
 rw[h]
 exact xH r
theorem xm{x y:D}{xs ys:List D}:g7 (x::xs) (y::ys)= .tup [x,y]::g7 xs ys:=rfl
theorem vU{n:Nat}{r:List Int}:(aB r).all (pl n)=true:=by
 refine List.all_eq_true.mpr fun d hd=>?_
 obtain⟨i,_,rfl⟩:=List.mem_map.mp hd
 cases n<;>rfl
theorem Fu{n:Nat}{A:List (List Int)}:pl (n+2) (mS A)=true:=by
 unfold pl
 refine List.all_eq_true.mpr fun d hd=>?_
 obtain⟨r,_,rfl⟩:=List.mem_map.mp hd
 unfold pl
 exact vU
def aF:Addr:=194
noncomputable abbrev iz(b:Bool):Cell:=Cell.tab 174 ⟨97,32,97,66⟩ "Bench.live_rows.<locals>.<lambda>" b
noncomputable abbrev Jv:List (Addr×Pos×Str):=[(174,⟨97,32,97,66⟩,"Bench.live_rows.<locals>.<lambda>")]
noncomputable def oY:cC:=fun ds st K=>∃d,ds=[d]∧Any st d∧K (.bl (isInt d)) st
noncomputable def lP:List Str:=["thing"]
noncomputable def AA:DS:=(ba (lT (bF ix (ae (ab 0) (ae (dC (.ty "int")) aj))) (sT (aM (bF ix (ae (ab 0) (ae (dC (.ty "bool")) aj)))))))
theorem zS:∀ds st K,oY ds st K→ds.length=1∧AA {nx:=fun _ st'=>K .aA st',rt:=K} (a6 lP ds) st:=by
 rintro ds st K ⟨d,rfl,⟨t,ht⟩,k⟩
 refine⟨rfl,?_⟩
 rw[←zG ht]at k
 have hm:=lj ht
 refine kO ht (by decide) ?_
 simp only[j8,List.mem_cons,List.not_mem_nil,or_false]at hm
 rcases hm with rfl|rfl|rfl|rfl|rfl|rfl
 · exact k
 · refine dc (kO ht (by decide) ?_)
   exact k
 · refine dc (kO ht (by decide) ?_)
   exact k
 · exact k
 · exact k
 · exact k
noncomputable def jB:cC:=fun ds st K=>∃d,ds=[d]∧Any st d∧K (.bl (items? st d).isSome) st
noncomputable def lD:List Str:=["thing"]
noncomputable def AD:DS:=(ba (bF ix (ae (ab 0) (ae (iy (ae (dC (.ty "list")) (ae (dC (.ty "tuple")) aj))) aj))))
theorem zQ:∀ds st K,jB ds st K→ds.length=1∧AD {nx:=fun _ st'=>K .aA st',rt:=K} (a6 lD ds) st:=by
 rintro ds st K ⟨d,rfl,⟨t,ht⟩,k⟩
 refine⟨rfl,?_⟩
 rw[←xI ht]at k
 have hm:=lj ht
 refine⟨Nat.le_of_ble_eq_true rfl,Iu ht rfl (by decide) ?_⟩
 simp only[j8,List.mem_cons,List.not_mem_nil,or_false]at hm
 rcases hm with rfl|rfl|rfl|rfl|rfl|rfl<;>exact k
noncomputable def je:cC:=fun ds st K=>∃d m,ds=[d,.int m]∧Any st d∧K (.bl (match items? st d with|some xs=>decide ((xs.length:Int)=m)|none=>false)) st
noncomputable def jn:List Str:=["thing","many"]
noncomputable def wX:DS:=(ba (lT (aG jB (ae (ab 0) aj)) (aw eL (bF cS (ae (ab 0) aj)) (ab 1))))
theorem vf:∀ds st K,je ds st K→ds.length=2∧wX {nx:=fun _ st'=>K .aA st',rt:=K} (a6 jn ds) st:=by
 rintro ds st K ⟨d,m,rfl,ha,k⟩
 refine⟨rfl,?_⟩
 cases e:items? st d with
 |none=>
  rw[e]at k
  exact⟨d,rfl,ha,by rw[e];exact k⟩
 |some xs=>
  rw[e]at k
  refine⟨d,rfl,ha,?_⟩
  rw[e]
  refine dc (cv e (zH ?_))
  exact k
noncomputable def jK:cC:=fun ds st K=>∃d m,ds=[d,.int m]∧Thing st d∧K (.bl (dX st d m)) st
noncomputable def jR:List Str:=["thing","many"]
noncomputable def x9:DS:=(ba (lT (aG je (ae (ab 0) (ae (ab 1) aj))) (bF oX (ae (cM (cZ (ab 0)) [none] (bB 0) bW (aG oY (ae (ab 0) aj))) aj))))
theorem wR:∀ds st K,jK ds st K→ds.length=2∧x9 {nx:=fun _ st'=>K .aA st',rt:=K} (a6 jR ds) st:=by
 rintro ds st K ⟨d,m,rfl,ha,k⟩
 refine⟨rfl,?_⟩
 refine⟨d,m,rfl,ha.any,?_⟩
 unfold dX at k
 cases e:items? st d with
 |none=>rw[e]at k;exact k
 |some xs=>
  rw[e]at k
  obtain⟨h1,h2⟩:=ha.au xs e
  by_cases hl:(xs.length:Int)=m
  · simp only[hl,decide_true,Bool.true_and]at k⊢
    rw[if_pos trivial]
    refine hW e fun ok aI=>?_
    refine⟨h2,uf (g:=fun x=> .bl (isInt x)) aI xs [] (fun x hx K' q=>⟨_,rfl,⟨x,rfl,h1 x hx,q⟩⟩) ?_⟩
    refine vj (oi xs) ?_
    simpa using k
  · simp only[hl,decide_false,Bool.false_and]at k⊢
    exact k
noncomputable def mv:cC:=fun ds st K=>∃(d:D) (A:List (List Int)),ds=[d]∧cV st d A∧A.length≤1000∧K (aL A) st
noncomputable def ou:List Str:=["rows"]
noncomputable def DU:DS:=(ba (bF dB (ae (cM (cZ (ab 0)) [none] (bB 0) bW (bF dB (ae (ab 0) aj))) aj)))
theorem ju{tg:e7}{te:DE}{ok:af→Prop}{σc:bM}{st:af}{K:List D→af→Prop}{ds:List D}{A:List (List Int)}(f:List Int→D)(aI:ok st)(hr:br st ds A)(hx:∀d r,r∈A→items? st d=some (aB r)→∀K',K' (f r) st→∃σ2,tg d σc=some σ2∧te σ2 st K')(k:K (A.map f) st):cP tg bW te ok σc ds [] st K:=by
 refine gd (fun rest acc st'=>∃(A1 A2:List (List Int)),st=st'∧A1++A2=A∧br st rest A2∧acc=A1.map f) ?_ ?_ _ _ _ ⟨[],A,rfl,rfl,hr,rfl⟩
 · rintro acc st' ⟨A1,A2,rfl,he,h,rfl⟩
   match A2,h with
   | [],_=>
     rw[List.append_nil]at he
     subst he
     exact⟨aI,k⟩
 · rintro d rest acc st' ⟨A1,A2,rfl,he,h,rfl⟩ next
   match A2,h with
   |r::A2,h=>
    obtain⟨σ2,e2,q⟩:=hx d r (by rw[←he];simp) h.1 (fun y st2=>cP tg bW te ok σc rest (A1.map f++[y]) st2 K) (next _ _ ⟨A1++[r],A2,rfl,by rw[←he];simp,h.2,by simp⟩)
    exact⟨aI,σ2,e2,q⟩
theorem Cq:∀ds st K,mv ds st K→ds.length=1∧DU {nx:=fun _ st'=>K .aA st',rt:=K} (a6 ou ds) st:=by
 rintro ds st K ⟨d,A,rfl,⟨da,hd,ra⟩,hl,k⟩
 refine⟨rfl,?_⟩
 refine hW hd fun ok aI=>⟨bH (by rw[ra.len];exact hl),?_⟩
 refine ju cw aI ra (fun e r hr he K' q=>⟨_,rfl,dg he q⟩) ?_
 exact dg rfl k
noncomputable def nz:cC:=fun ds st K=>∃x y t r s,ds=[x,.int t,y]∧items? st x=some (aB r)∧items? st y=some (aB s)∧r.length≤1000∧(∀b∈s,IntMulOk t b)∧K (a7 (Mx.fH r t s)) st
noncomputable def sQ:List Str:=["row","times","other"]
noncomputable def Iv:DS:=(ba (cM (rk (ae (ab 0) (ae (ab 2) aj))) [none,none,some 1] (iJ 0 1) bW (aw dE (ab 0) (aw dm (ab 2) (ab 1)))))
theorem oh{t:Int}:∀(r s:List Int),(g7 (aB r) (aB s)).map (fun d=>match d with| .tup [.int a,.int b]=> .int (a+t*b)|_=> .aA)=aB (Mx.fH r t s)
 | [],_=>rfl
 |_::_,[]=>rfl
 |a::r,b::s=>by
  have:=oh (t:=t) r s
  unfold g7 Mx.fH at this⊢
  simp only[aB,List.map_cons,List.zip_cons_cons,List.zipWith_cons_cons]at this⊢
  rw[this]
theorem FA:∀ds st K,nz ds st K→ds.length=3∧Iv {nx:=fun _ st'=>K .aA st',rt:=K} (a6 sQ ds) st:=by
 rintro ds st K ⟨x,y,t,r,s,rfl,hx,hy,hl,hm,k⟩
 refine⟨rfl,?_⟩
 refine pw hx hy fun ok aI=>⟨bH (by rw[nJ];simp;omega),?_⟩
 refine comp_map (g:=fun d=>match d with| .tup [.int a,.int b]=> .int (a+t*b)|_=> .aA) (aI st hx hy) _ (fun d hd K' q=>?_) ?_
 · obtain⟨a,b,ha,hb,rfl⟩:=qf hd
   exact⟨_,rfl,fI (hm b hb) (d8 q)⟩
 · rw[oh];exact k
noncomputable def uF:cC:=fun ds st K=>∃(x y:D) (n:Nat) (ws:List Int) (A:List (List Int)),ds=[x,y,.int n]∧items? st x=some (aB ws)∧cV st y A∧(∀r∈A,r.length=n)∧n≤1000∧(∀w∈ws,∀r∈A,∀b∈r,IntMulOk w b)∧K (cw (Mx.dG ws A (List.replicate n 0))) st
noncomputable def qt:List Str:=["weights","rows","wide","total","weight","row"]
noncomputable def Fj:DS:=(aE (bz 3 (aw dm (jv (ae (dC (.int 0)) aj)) (ab 2)))
 (aE (i9 (rk (ae (ab 0) (ae (ab 1) aj))) (iJ 4 5) (bz 3 (aG nz (ae (ab 3) (ae (ab 4) (ae (ab 5) aj))))))
 (ba (bF dB (ae (ab 3) aj)))))
theorem Dz:∀ds st K,uF ds st K→ds.length=3∧Fj {nx:=fun _ st'=>K .aA st',rt:=K} (a6 qt ds) st:=by
 rintro ds st K ⟨x,y,n,ws,A,rfl,hx,⟨dr,hy,hr⟩,hw,hn,hm,k⟩
 refine⟨rfl,?_⟩
 refine xD (Nat.le_of_ble_eq_true rfl) (sN ⟨by omega,by omega,bH (by simp;omega)⟩ ?_)
 rw[Int.toNat_natCast,nN]
 refine pw hx hy fun ok aI=>?_
 refine ji (fun rest σ st'=>∃(v4 v5:Option D) (ws':List Int) (ds':List D) (A':List (List Int)) (acc:List Int),st=st'∧rest=g7 (aB ws') ds'∧br st ds' A'∧σ=[some x,some y,some (.int n),some (a7 acc),v4,v5]∧acc.length=n∧(∀r∈A',r∈A)∧(∀w∈ws',w∈ws)∧Mx.dG ws' A' acc=Mx.dG ws A (List.replicate n 0)) ?_ ?_ _ _ _
  ⟨none,none,ws,dr,A,List.replicate n 0,rfl,rfl,hr,rfl,by simp,fun _ h=>h,fun _ h=>h,rfl⟩
 · rintro σ st1 ⟨v4,v5,ws',ds',A',acc,rfl,he,hr',rfl,hl,_,_,hs⟩
   refine⟨aI _ hx hy,dg rfl ?_⟩
   have:Mx.dG ws' A' acc=acc:=by
    match ws',ds',A',hr',he with
    | [],_,_,_,_=>unfold Mx.dG;rfl
    |_::_,[],[],_,_=>unfold Mx.dG;rfl
    |_::_,_::_,_::_,_,he=>cases he
   rw[this]at hs
   rw[hs];exact k
 · rintro d rest σ st1 ⟨v4,v5,ws',ds',A',acc,rfl,he,hr',rfl,hl,ha,hw',hs⟩ next
   match ws',ds',A',hr',he with
   |w::ws',e::ds',r::A',hr',he=>
    simp only[aB,List.map_cons,xm,List.cons.injEq]at he
    obtain⟨rfl,rfl⟩:=he
    refine⟨aI _ hx hy,_,rfl,?_⟩
    have hrl:=hw r (ha r List.mem_cons_self)
    refine⟨_,_,_,acc,r,rfl,rfl,hr'.1,by omega,fun b hb=>hm w (hw' w List.mem_cons_self) r (ha r List.mem_cons_self) b hb,?_⟩
    refine next _ _ ⟨_,_,ws',ds',A',Mx.fH acc w r,rfl,rfl,hr'.2,rfl,by rw[Mx.nU (by omega)];exact hl,fun q hq=>ha q (List.mem_cons_of_mem _ hq),fun q hq=>hw' q (List.mem_cons_of_mem _ hq),?_⟩
    rw[←hs];rfl
   | [],_,_,_,he=>cases he
   |_::_,[],[],_,he=>cases he
noncomputable def oS:cC:=fun ds st K=>∃(x y:D) (n:Nat) (A B:List (List Int)),ds=[x,y]∧cV st x A∧cV st y B∧B≠ []∧(∀r∈B,r.length=n)∧n≤1000∧A.length≤1000∧(∀w∈A,∀c∈w,∀r∈B,∀b∈r,IntMulOk c b)∧K (aL (Mx.mulM A B n)) st
noncomputable def oo:List Str:=["one","other","wide"]
noncomputable def EY:DS:=(aE (bz 2 (bF cS (ae (aw bp (ab 1) (dC (.int 0))) aj)))
 (ba (bF dB (ae (cM (cZ (ab 0)) [none,some 1,some 2] (bB 0) bW (aG uF (ae (ab 0) (ae (ab 1) (ae (ab 2) aj))))) aj))))
theorem zc{st:af}{n:Nat}{B:List (List Int)}{f:D→D}:∀ {ds:List D} {A:List (List Int)},br st ds A→(∀d r,items? st d=some (aB r)→f d=cw (Mx.dG r B (List.replicate n 0)))→ds.map f=(Mx.mulM A B n).map cw
 | [],[],_,_=>rfl
 |d::ds,r::A,h,hf=>by
  rw[List.map_cons,hf d r h.1,zc h.2 hf];rfl
theorem CY:∀ds st K,oS ds st K→ds.length=2∧EY {nx:=fun _ st'=>K .aA st',rt:=K} (a6 oo ds) st:=by
 rintro ds st K ⟨x,y,n,A,B,rfl,⟨da,hx,ra⟩,hy,hB,hw,hn,hl,hm,k⟩
 refine⟨rfl,?_⟩
 obtain⟨db,ey,rb⟩:=hy.ex
 match B,db,rb,hB,hw,hm,hy,k,ey with
 |r0::B,d0::db,rb,_,hw,hm,hy,k,ey=>
  have h0:r0.length=n:=hw r0 List.mem_cons_self
  refine aH ey pU (cv rb.1 ?_)
  rw[List.length_map,h0]
  refine hW hx fun ok aI=>⟨bH (by rw[ra.len];exact hl),?_⟩
  refine comp_map (g:=fun d=>cw (Mx.dG (intsOf st d) (r0::B) (List.replicate n 0))) aI da (fun d hd K' q=>?_) ?_
  · obtain⟨i,hi,ed⟩:=List.mem_iff_getElem.mp hd
    obtain⟨r,er,hr⟩:=ra.get (i:=i) (d:=d) (by rw[List.getElem?_eq_getElem hi,ed])
    refine⟨_,rfl,d,y,n,r,r0::B,rfl,hr,hy,hw,hn,fun c hc=>hm r (List.mem_of_getElem? er) c hc,?_⟩
    rw[oO hr]at q
    exact q
  · refine dg rfl ?_
    rw[zc ra (n:=n) (B:=r0::B) fun d r h=>by rw[oO h]]
    exact k
 |_::_,[],rb,_,_,_,_,_,_=>exact rb.elim
noncomputable def uC:cC:=fun ds st K=>∃(d:D) (A:List (List Int)) (j:Nat),ds=[d,.int j]∧cV st d A∧(∀r∈A,j<r.length)∧A.length≤1000∧K (cw (Mx.qy A j)) st
noncomputable def qo:List Str:=["rows","place"]
noncomputable def F4:DS:=(ba (bF dB (ae (cM (cZ (ab 0)) [none,some 1] (bB 0) bW (aw bp (ab 0) (ab 1))) aj)))
theorem DV{tg:e7}{te:DE}{ok:af→Prop}{σc:bM}{st:af}{K:List D→af→Prop}{ds:List D}{A:List (List Int)}(f:List Int→D)(aI:ok st)(hr:br st ds A)(hx:∀d r,r∈A→items? st d=some (aB r)→∀K',K' (f r) st→∃σ2,tg d σc=some σ2∧te σ2 st K')(k:K (A.map f) st):cP tg bW te ok σc ds [] st K:=by
 refine gd (fun rest acc st'=>∃(A1 A2:List (List Int)),st=st'∧A1++A2=A∧br st rest A2∧acc=A1.map f) ?_ ?_ _ _ _ ⟨[],A,rfl,rfl,hr,rfl⟩
 · rintro acc st' ⟨A1,A2,rfl,he,h,rfl⟩
   match A2,h with
   | [],_=>
     rw[List.append_nil]at he
     subst he
     exact⟨aI,k⟩
 · rintro d rest acc st' ⟨A1,A2,rfl,he,h,rfl⟩ next
   match A2,h with
   |r::A2,h=>
    obtain⟨σ2,e2,q⟩:=hx d r (by rw[←he];simp) h.1 (fun y st2=>cP tg bW te ok σc rest (A1.map f++[y]) st2 K) (next _ _ ⟨A1++[r],A2,rfl,by rw[←he];simp,h.2,by simp⟩)
    exact⟨aI,σ2,e2,q⟩
theorem De(A:List (List Int))(j:Nat):A.map (fun r=>D.int (r.getD j 0))=aB (Mx.qy A j):=by unfold Mx.qy aB;rw[List.map_map];rfl
theorem D0:∀ds st K,uC ds st K→ds.length=2∧F4 {nx:=fun _ st'=>K .aA st',rt:=K} (a6 qo ds) st:=by
 rintro ds st K ⟨d,A,j,rfl,⟨da,hd,ra⟩,hj,hl,k⟩
 refine⟨rfl,?_⟩
 refine hW hd fun ok aI=>⟨bH (by rw[ra.len];exact hl),?_⟩
 refine DV (fun r=> .int (r.getD j 0)) aI ra (fun e r hr he K' q=>⟨_,rfl,aH he (fR (hj r hr)) q⟩) ?_
 rw[De]
 exact dg rfl k
noncomputable def mG:cC:=fun ds st K=>∃(d:D) (A:List (List Int)) (n:Nat),ds=[d,.int n]∧cV st d A∧(∀r∈A,r.length=n)∧A.length≤1000∧n≤1000∧K (aL (Mx.dZ A n)) st
noncomputable def jO:List Str:=["rows","wide"]
noncomputable def yg:DS:=(ba (bF dB (ae (cM (eA (ae (ab 1) aj)) [none,some 0] (bB 0) bW (aG uC (ae (ab 1) (ae (ab 0) aj)))) aj)))
theorem Fv(A:List (List Int))(n:Nat):(List.range n).map (fun j=>cw (Mx.qy A j))=(Mx.dZ A n).map cw:=by unfold Mx.dZ;rw[List.map_map];rfl
theorem wo:∀ds st K,mG ds st K→ds.length=2∧yg {nx:=fun _ st'=>K .aA st',rt:=K} (a6 jO ds) st:=by
 rintro ds st K ⟨d,A,n,rfl,hd,hw,hl,hn,k⟩
 refine⟨rfl,?_⟩
 refine fB ⟨by omega,by omega⟩ ⟨bH (by rw[fw];omega),?_⟩
 rw[Int.toNat_natCast]
 refine kr (fun j=>cw (Mx.qy A j)) n (fun i hi K' q=>⟨_,rfl,d,A,i,rfl,hd,fun r hr=>by rw[hw r hr];exact hi,hl,q⟩) ?_
 rw[Fv]
 exact dg rfl k
noncomputable def qA:cC:=fun ds st K=>∃(n i:Nat),ds=[.int n,.int i]∧n≤1000∧K (cw (Mx.fQ n i)) st
noncomputable def ni:List Str:=["n","place"]
noncomputable def Cn:DS:=(ba (bF dB (ae (cM (eA (ae (ab 0) aj)) [none,some 1] (bB 0) bW (K6 (aM (aw eL (ab 0) (ab 1))) (dC (.int 1)) (dC (.int 0)))) aj)))
theorem AF:∀ds st K,qA ds st K→ds.length=2∧Cn {nx:=fun _ st'=>K .aA st',rt:=K} (a6 ni ds) st:=by
 rintro ds st K ⟨n,i,rfl,hn,k⟩
 refine⟨rfl,?_⟩
 refine fB ⟨by omega,by omega⟩ ⟨bH (by rw[fw];omega),?_⟩
 rw[Int.toNat_natCast]
 refine kr (fun j=> .int (Mx.dl j i)) n (fun j hj K' q=>⟨_,rfl,?_⟩) ?_
 · refine eq2 (fun h=>dc ?_) fun h=>?_
   · have:j=i:=by omega
     subst this
     rw[Mx.e_]at q;exact q
   · rw[Mx.fo (by omega)]at q;exact q
 · have:(List.range n).map (fun j=>D.int (Mx.dl j i))=aB (Mx.fQ n i):=by unfold Mx.fQ aB;rw[List.map_map];rfl
   rw[this]
   exact dg rfl k
noncomputable def jF:cC:=fun ds st K=>∃(n:Nat),ds=[.int n]∧n≤1000∧K (aL (Mx.units n)) st
noncomputable def lO:List Str:=["n"]
noncomputable def AB:DS:=(ba (bF dB (ae (cM (eA (ae (ab 0) aj)) [none,some 0] (bB 0) bW (aG qA (ae (ab 1) (ae (ab 0) aj)))) aj)))
theorem yV:∀ds st K,jF ds st K→ds.length=1∧AB {nx:=fun _ st'=>K .aA st',rt:=K} (a6 lO ds) st:=by
 rintro ds st K ⟨n,rfl,hn,k⟩
 refine⟨rfl,?_⟩
 refine fB ⟨by omega,by omega⟩ ⟨bH (by rw[fw];omega),?_⟩
 rw[Int.toNat_natCast]
 refine kr (fun i=>cw (Mx.fQ n i)) n (fun i hi K' q=>⟨_,rfl,n,i,rfl,hn,q⟩) ?_
 have:(List.range n).map (fun i=>cw (Mx.fQ n i))=(Mx.units n).map cw:=by unfold Mx.units;rw[List.map_map];rfl
 rw[this]
 exact dg rfl k
theorem Bb{w m:Nat}:(List.replicate m [D.tup (List.replicate w [D.int 0]).flatten]).flatten=(List.replicate m (List.replicate w (0:Int))).map cw:=by
 rw[nN]
 induction m with
 |zero=>rfl
 |succ m ih=>rw[List.replicate_succ,List.replicate_succ,List.flatten_cons,List.map_cons,ih];rfl
noncomputable def kU(m w:Nat):List (List Int):=List.replicate m (List.replicate w 0)
noncomputable def mK:cC:=fun ds st K=>∃(i:Int) (w:Nat),ds=[.int i,.int w]∧ -1000≤i∧i≤1000∧w≤1000∧K (aL (kU i.toNat w)) st
noncomputable def jI:List Str:=["many","wide"]
noncomputable def yk:DS:=(ba (aw dm (iy (ae (aw dm (iy (ae (dC (.int 0)) aj)) (ab 1)) aj)) (ab 0)))
theorem wK:∀ds st K,mK ds st K→ds.length=2∧yk {nx:=fun _ st'=>K .aA st',rt:=K} (a6 jI ds) st:=by
 rintro ds st K ⟨i,w,rfl,h1,h2,hw,k⟩
 refine⟨rfl,?_⟩
 refine xD (Nat.le_of_ble_eq_true rfl) (su ⟨by omega,by omega,bH (by simp;omega)⟩ ?_)
 rw[Int.toNat_natCast]
 refine xD (Nat.le_of_ble_eq_true rfl) (su ⟨by omega,by omega,bH (by simp;omega)⟩ ?_)
 rw[Bb]
 exact k
structure jD(st:af)(d:D):Prop where
 any:Any st d
 au:∀xs,items? st d=some xs→(∀x∈xs,Thing st x)∧xs.length≤sizeLine
noncomputable def mz(n:Nat)(m:D):Bool:=match m with
 | .int i=>decide ((n:Int)=i)
 |_=>true
noncomputable def cR(st:af)(d m:D)(w:Int):Bool:=match items? st d with
 |some xs=>mz xs.length m&&xs.all fun r=>dX st r w
 |none=>false
noncomputable def kc:cC:=fun ds st K=>∃d m w,ds=[d,m,.int w]∧jD st d∧(m= .aA∨∃i,m= .int i)∧K (.bl (cR st d m w)) st
noncomputable def mD:List Str:=["thing","many","wide"]
noncomputable def EX:DS:=(aE (cx (d7 (aM (aG jB (ae (ab 0) aj)))) (ba (dC (.bl false))) bY)
 (aE (cx (oG (aM (aw m9 (ab 1) (dC .aA))) (aM (aw kT (bF cS (ae (ab 0) aj)) (ab 1)))) (ba (dC (.bl false))) bY)
 (ba (bF oX (ae (cM (cZ (ab 0)) [none,some 2] (bB 0) bW (aG jK (ae (ab 0) (ae (ab 1) aj)))) aj)))))
theorem tU{st:af}{d m:D}{w:Int}(e:items? st d=none):cR st d m w=false:=by unfold cR;rw[e]
theorem tM{st:af}{d m:D}{w:Int}{xs:List D}(e:items? st d=some xs):cR st d m w=(mz xs.length m&&xs.all fun r=>dX st r w):=by unfold cR;rw[e]
theorem Cd:∀ds st K,kc ds st K→ds.length=3∧EX {nx:=fun _ st'=>K .aA st',rt:=K} (a6 mD ds) st:=by
 rintro ds st K ⟨d,m,w,rfl,hd,hm,k⟩
 refine⟨rfl,?_⟩
 refine⟨d,rfl,hd.any,?_⟩
 cases e:items? st d with
 |none=>rw[tU e]at k;exact k
 |some xs=>
  rw[tM e]at k
  obtain⟨h1,h2⟩:=hd.au xs e
  have fin:mz xs.length m=true→ba (bF oX (ae (cM (cZ (ab 0)) [none,some 2] (bB 0) bW (aG jK (ae (ab 0) (ae (ab 1) aj)))) aj)) {nx:=fun _ st'=>K .aA st',rt:=K} (a6 mD [d,m,.int w]) st:=by
   intro hk
   rw[hk,Bool.true_and]at k
   refine hW e fun ok aI=>⟨h2,comp_map (g:=fun r=> .bl (dX st r w)) aI xs (fun x hx K' q=>⟨_,rfl,x,w,rfl,h1 x hx,q⟩) ?_⟩
   refine vj (oi xs) ?_
   simpa using k
  rcases hm with rfl|⟨i,rfl⟩
  · exact vQ rfl (fin rfl)
  · refine vQ rfl (cv e (ne2 (fun h=>?_) fun h=>?_))
    · have:mz xs.length (.int i)=false:=decide_eq_false h
      rw[this]at k;exact k
    · exact fin (decide_eq_true h)
theorem F1{a:Int}{m:Nat}(h:a.natAbs<2^m):Builtin.Int.intBits a≤m:=by
 unfold Builtin.Int.intBits
 by_cases h0:a.natAbs=0
 · have:a=0:=by omega
   subst this
   simp
 · have:=(Nat.log2_lt h0).mpr h
   split<;>omega
theorem jg{a b:Int}{m n:Nat}(ha:a.natAbs≤2^m)(hb:b.natAbs≤2^n)(h:m+n≤130000000):IntMulOk a b:=by
 have q:∀ {x:Int} {k:Nat},x.natAbs≤2^k→Builtin.Int.intBits x≤k+1:=fun{x k} h=>F1 (Nat.lt_of_le_of_lt h (Nat.pow_lt_pow_right (by decide) (Nat.lt_succ_self k)))
 have h1:=q ha
 have h2:=q hb
 have e:(2:Nat)^27=134217728:=by decide
 have z:Builtin.Int.intTooBig (Builtin.Int.intBits a+Builtin.Int.intBits b)=false:=by
  unfold Builtin.Int.intTooBig bitsLine
  exact decide_eq_false (by omega)
 unfold IntMulOk
 rw[z]
 simp
theorem I_{n:Nat}{r:List Int}:pl (n+1) (cw r)=true:=by
 unfold pl
 exact vU
theorem iV{n:Nat}{A:List (List Int)}:pl (n+2) (aL A)=true:=by
 unfold pl
 refine List.all_eq_true.mpr fun d hd=>?_
 obtain⟨r,_,rfl⟩:=List.mem_map.mp hd
 exact I_
theorem xT:∀(r s:List Int),eU (aB r) (aB s)=decide (r=s)
 | [],[]=>by unfold eU;rfl
 | [],_::_=>by unfold eU;rfl
 |_::_,[]=>by unfold eU;rfl
 |a::r,b::s=>by
  have ih:=xT r s
  unfold aB at ih⊢
  rw[List.map_cons,List.map_cons]
  unfold eU
  rw[ih]
  unfold cy
  by_cases h1:a=b
  · subst h1;simp
  · have:(a==b)=false:=by simpa using h1
    rw[this,Bool.false_and]
    exact(decide_eq_false fun h=>h1 (List.cons.inj h).1).symm
theorem xr:∀(A B:List (List Int)),eU (A.map cw) (B.map cw)=decide (A=B)
 | [],[]=>by unfold eU;rfl
 | [],_::_=>by unfold eU;rfl
 |_::_,[]=>by unfold eU;rfl
 |a::r,b::s=>by
  have ih:=xr r s
  rw[List.map_cons,List.map_cons]
  unfold eU
  rw[ih]
  unfold cw cy
  rw[xT]
  by_cases h1:a=b
  · subst h1;simp
  · rw[decide_eq_false h1,Bool.false_and]
    exact(decide_eq_false fun h=>h1 (List.cons.inj h).1).symm
theorem qd(A B:List (List Int)):cy (aL A) (aL B)=decide (A=B):=by
 unfold aL cy
 exact xr A B
noncomputable def rowsOf(st:af)(d:D):List (List Int):=match items? st d with
 |some xs=>xs.map (intsOf st)
 |none=>[]
theorem all_ints:∀ {xs:List D},xs.all isInt=true→xs=aB (xs.map fun x=>match x with| .int i=>i|_=>0)
 | [],_=>rfl
 |x::xs,h=>by
  rw[List.all_cons,Bool.and_eq_true]at h
  have ih:=all_ints h.2
  cases x<;>first|(cases h.1;done)|skip
  rename_i i
  show D.int i::xs=D.int i::_
  rw[←aB,←ih]
theorem ko{st:af}{r:D}{w:Int}(h:dX st r w=true):items? st r=some (aB (intsOf st r))∧((intsOf st r).length:Int)=w:=by
 unfold dX at h
 cases e:items? st r with
 |none=>rw[e]at h;cases h
 |some xs=>
  rw[e]at h
  simp only[Bool.and_eq_true,decide_eq_true_eq]at h
  have e2:=all_ints h.2
  have e3:=oO (e.trans (congrArg some e2))
  rw[e3]
  exact⟨congrArg some e2,by rw[List.length_map];exact h.1⟩
theorem qg{st:af}{w:Int}:∀ {xs:List D},(xs.all fun r=>dX st r w)=true→br st xs (xs.map (intsOf st))
 | [],_=>trivial
 |x::xs,h=>by
  rw[List.all_cons,Bool.and_eq_true]at h
  exact⟨(ko h.1).1,qg h.2⟩
theorem ik{st:af}{d:D}{n:Nat}(h:cR st d (.int n) n=true):cV st d (rowsOf st d)∧Mx.cu n n (rowsOf st d):=by
 unfold cR at h
 cases e:items? st d with
 |none=>rw[e]at h;cases h
 |some xs=>
  rw[e]at h
  simp only[Bool.and_eq_true]at h
  have e1:rowsOf st d=xs.map (intsOf st):=by unfold rowsOf;rw[e]
  rw[e1]
  refine⟨⟨xs,e,qg h.2⟩,⟨?_,fun r hr=>?_⟩⟩
  · have:((xs.length:Int)=(n:Int)):=of_decide_eq_true h.1
    rw[List.length_map];omega
  · obtain⟨x,hx,rfl⟩:=List.mem_map.mp hr
    have:=(ko (List.all_eq_true.mp h.2 x hx)).2
    omega
structure oZ(st:af)(d:D):Prop where
 le:∀xs,items? st d=some xs→xs.length≤1000
 sm:∀xs,items? st d=some xs→∀x∈xs,∀ys,items? st x=some ys→∀i,D.int i∈ys→i.natAbs≤2^65000000
theorem oZ.rows{st:af}{d m:D}{w:Int}(h:oZ st d)(hr:cR st d m w=true):∀r∈rowsOf st d,∀c∈r,c.natAbs≤2^65000000:=fun r hr1 c hc=>by
 unfold cR at hr
 cases e:items? st d with
 |none=>rw[e]at hr;cases hr
 |some xs=>
  rw[e]at hr
  simp only[Bool.and_eq_true]at hr
  have e1:rowsOf st d=xs.map (intsOf st):=by unfold rowsOf;rw[e]
  rw[e1]at hr1
  obtain⟨x,hx,rfl⟩:=List.mem_map.mp hr1
  have e2:=(ko (List.all_eq_true.mp hr.2 x hx)).1
  exact h.sm xs e x hx _ e2 c (List.mem_map.mpr ⟨c,hc,rfl⟩)
theorem tN{st:af}{d:D}{w:Nat}(h:cR st d .aA w=true):cV st d (rowsOf st d)∧(∀r∈rowsOf st d,r.length=w)∧∃xs,items? st d=some xs∧xs.length=(rowsOf st d).length:=by
 unfold cR at h
 cases e:items? st d with
 |none=>rw[e]at h;cases h
 |some xs=>
  rw[e]at h
  simp only[Bool.and_eq_true]at h
  have e1:rowsOf st d=xs.map (intsOf st):=by unfold rowsOf;rw[e]
  rw[e1]
  refine⟨⟨xs,e,qg h.2⟩,fun r hr=>?_,xs,rfl,by rw[List.length_map]⟩
  obtain⟨x,hx,rfl⟩:=List.mem_map.mp hr
  have:=(ko (List.all_eq_true.mp h.2 x hx)).2
  omega
noncomputable def Ea(st:af)(x y:D)(n:Nat):Bool:=cR st y (.int n) n&&decide (Mx.mulM (rowsOf st x) (rowsOf st y) n=Mx.units n)
noncomputable def qj:cC:=fun ds st K=>∃(x y:D) (n:Nat),ds=[x,y]∧jD st x∧jD st y∧oZ st x∧oZ st y∧cR st x (.int n) n=true∧1≤n∧n≤1000∧K (.bl (Ea st x y n)) st
noncomputable def nq:List Str:=["turn","back","many"]
noncomputable def CV:DS:=(aE (cx (d7 (aM (aG jB (ae (ab 0) aj)))) (ba (dC (.bl false))) bY)
 (aE (bz 2 (bF cS (ae (ab 0) aj)))
 (aE (cx (gD (d7 (aM (aG kc (ae (ab 0) (ae (ab 2) (ae (ab 2) aj)))))) (d7 (aM (aG kc (ae (ab 1) (ae (ab 2) (ae (ab 2) aj))))))) (ba (dC (.bl false))) bY)
 (ba (CA (aw eL (ab 2) (dC (.int 0))) (aw eL (aG oS (ae (ab 0) (ae (ab 1) aj))) (aG jF (ae (ab 2) aj))))))))
theorem AV:∀ds st K,qj ds st K→ds.length=2∧CV {nx:=fun _ st'=>K .aA st',rt:=K} (a6 nq ds) st:=by
 rintro ds st K ⟨x,y,n,rfl,hx,hy,sx,sy,e1,hn1,hn,k⟩
 refine⟨rfl,?_⟩
 obtain⟨R1,M1⟩:=ik e1
 obtain⟨xs,e,rx⟩:=R1.ex
 have l1:=M1.len
 have lx:xs.length=n:=by rw[rx.len];exact l1
 refine⟨x,rfl,hx.any,?_⟩
 rw[e]
 refine cv e ?_
 rw[lx]
 refine⟨x,_,_,rfl,hx,Or.inr ⟨_,rfl⟩,?_⟩
 rw[e1]
 refine⟨y,_,_,rfl,hy,Or.inr ⟨_,rfl⟩,?_⟩
 unfold Ea at k
 cases e2:cR st y (.int n) n with
 |false=>rw[e2]at k;exact k
 |true=>
  rw[e2]at k
  obtain⟨R2,M2⟩:=ik e2
  have l2:=M2.len
  refine NI (by omega) ?_
  have hB:rowsOf st y≠ []:=fun z=>by rw[z]at l2;simp at l2;omega
  have b1:=sx.rows e1
  have b2:=sy.rows e2
  refine⟨x,y,n,_,_,rfl,R1,R2,hB,M2.gW,hn,by omega,fun w hw c hc r hr b hb=>jg (b1 w hw c hc) (b2 r hr b hb) (by decide),?_⟩
  refine⟨n,rfl,hn,?_⟩
  refine sr iV iV ?_
  rw[qd]
  exact k
noncomputable def tX(st:af)(x y:D)(n:Nat):Bool:=cR st x (.int n) n&&Ea st x y n
noncomputable def nF:cC:=fun ds st K=>∃(x y:D) (n:Nat),ds=[x,y,.int n]∧jD st x∧jD st y∧oZ st x∧oZ st y∧1≤n∧n≤1000∧K (.bl (tX st x y n)) st
noncomputable def kq:List Str:=["turn","back","many"]
noncomputable def zO:DS:=(ba (lT (aG kc (ae (ab 0) (ae (ab 2) (ae (ab 2) aj)))) (aG qj (ae (ab 0) (ae (ab 1) aj)))))
theorem yj:∀ds st K,nF ds st K→ds.length=3∧zO {nx:=fun _ st'=>K .aA st',rt:=K} (a6 kq ds) st:=by
 rintro ds st K ⟨x,y,n,rfl,hx,hy,sx,sy,hn1,hn,k⟩
 refine⟨rfl,?_⟩
 refine⟨x,_,_,rfl,hx,Or.inr ⟨_,rfl⟩,?_⟩
 unfold tX at k
 cases e1:cR st x (.int n) n with
 |false=>rw[e1]at k;exact k
 |true=>
  rw[e1]at k
  exact⟨x,y,n,rfl,hx,hy,sx,sy,e1,hn1,hn,k⟩
noncomputable def fY:List Int→Nat→Option Nat
 | [],_=>none
 |x::xs,i=>if x=0 then fY xs (i+1)else some i
noncomputable def h8(r:List Int):Option Nat:=fY r 0
noncomputable def nk(r:List Int):D:=match h8 r with
 |some k=> .int (k:Int)
 |none=> .aA
noncomputable def rB:cC:=fun ds st K=>∃(d:D) (r:List Int),ds=[d]∧items? st d=some (aB r)∧K (nk r) st
noncomputable def oj:List Str:=["row","place","number"]
noncomputable def D9:DS:=(aE (i9 (yF (ae (ab 0) aj)) (iJ 1 2) (cx (aM (aw kT (ab 2) (dC (.int 0)))) (ba (ab 1)) bY))
 (ba (dC .aA)))
theorem C6:∀ds st K,rB ds st K→ds.length=1∧D9 {nx:=fun _ st'=>K .aA st',rt:=K} (a6 oj ds) st:=by
 rintro ds st K ⟨d,r,rfl,hd,k⟩
 refine⟨rfl,?_⟩
 refine Bi hd fun ok aI=>?_
 refine ji (fun rest σ st'=>st'=st∧∃(v1 v2:Option D) (s:List Int) (i:Nat),σ=[some d,v1,v2]∧rest=f6 i (aB s)∧fY r 0=fY s i) ?_ ?_ _ _ _ ⟨rfl,none,none,r,0,rfl,rfl,rfl⟩
 · rintro σ st' ⟨rfl,v1,v2,s,i,rfl,hr,hl⟩
   match s,hr with
   | [],_=>
     refine⟨aI _ hd,?_⟩
     have:nk r= .aA:=by unfold nk h8;rw[hl];rfl
     rw[this]at k;exact k
 · rintro x rest σ st' ⟨rfl,v1,v2,s,i,rfl,hr,hl⟩ next
   match s,hr,hl with
   |y::s,hr,hl=>
    simp only[aB,List.map_cons,f6,List.cons.injEq]at hr
    obtain⟨rfl,rfl⟩:=hr
    refine⟨aI _ hd,_,rfl,?_⟩
    refine ne2 (fun h=>dc ?_) fun h=>?_
    · have:nk r= .int (i:Int):=by unfold nk h8;rw[hl];unfold fY;rw[if_neg h]
      rw[this]at k;exact k
    · refine next _ _ ⟨rfl,_,_,s,i+1,rfl,rfl,?_⟩
      rw[hl];unfold fY;rw[if_pos h];cases s<;>rfl
   | [],hr,_=>cases hr
noncomputable def di:List (List Int)→Int→List (List Int)→Bool
 |_,_,[]=>true
 |done,ahead,r::rest=>match h8 r with
  |none=>false
  |some l=>if(l:Int)≤ahead∨r.getD l 0<0 then false else if(done.all fun a=>decide (0≤a.getD l 0)&&decide (a.getD l 0<r.getD l 0))=true then di (done++[r]) l rest else false
theorem kX(done:List (List Int))(ahead:Int)(r:List Int)(rest:List (List Int)):di done ahead (r::rest)=match h8 r with
 |none=>false
 |some l=>if(l:Int)≤ahead∨r.getD l 0<0 then false else if(done.all fun a=>decide (0≤a.getD l 0)&&decide (a.getD l 0<r.getD l 0))=true then di (done++[r]) l rest else false:=rfl
theorem vc{g:List Int→Bool}:∀A:List (List Int),jy (A.map fun x=>D.bl (g x))=some (A.map g)
 | []=>rfl
 |x::xs=>by simp[jy,vc xs]
theorem zM:∀ {r:List Int} {i k:Nat},fY r i=some k→i≤k∧k<i+r.length
 | [],_,_,h=>by cases h
 |x::r,i,k,h=>by
  unfold fY at h
  split at h
  · have:=zM h
    simp only[List.length_cons]
    omega
  · cases h
    simp only[List.length_cons]
    omega
theorem xG{r:List Int}{k:Nat}(h:h8 r=some k):k<r.length:=by
 have:=zM (show fY r 0=some k from h)
 omega
theorem KG{d:D}{xs:List D}{lo hi:Option Int}{st:af}{K:DK}(h:items? st d=some xs)(k:∀d',items? st d'=some (L3.cutD xs lo hi)→K d' st):jG d lo hi st K:=by
 cases d<;>try(cases h;done)
 · rename_i n
   exact xS (mn h) (k _ rfl)
 · cases h
   exact xi (k _ rfl)
 · cases h
   exact EI (k _ rfl)
theorem br.take{st:af}:∀ {ds:List D} {A:List (List Int)} (k:Nat),br st ds A→br st (ds.take k) (A.take k)
 |_,_,0,_=>by simp[br]
 | [],[],_+1,_=>trivial
 |_::_,_::_,k+1,h=>⟨h.1,br.take k h.2⟩
theorem B_{tg:e7}{te:DE}{ok:af→Prop}{σc:bM}{st:af}{K:List D→af→Prop}{ds:List D}{A:List (List Int)}(f:List Int→D)(aI:ok st)(hr:br st ds A)(hx:∀d r,r∈A→items? st d=some (aB r)→∀K',K' (f r) st→∃σ2,tg d σc=some σ2∧te σ2 st K')(k:K (A.map f) st):cP tg bW te ok σc ds [] st K:=by
 refine gd (fun rest acc st'=>∃(A1 A2:List (List Int)),st=st'∧A1++A2=A∧br st rest A2∧acc=A1.map f) ?_ ?_ _ _ _ ⟨[],A,rfl,rfl,hr,rfl⟩
 · rintro acc st' ⟨A1,A2,rfl,he,h,rfl⟩
   match A2,h with
   | [],_=>
     rw[List.append_nil]at he
     subst he
     exact⟨aI,k⟩
 · rintro d rest acc st' ⟨A1,A2,rfl,he,h,rfl⟩ next
   match A2,h with
   |r::A2,h=>
    obtain⟨σ2,e2,q⟩:=hx d r (by rw[←he];simp) h.1 (fun y st2=>cP tg bW te ok σc rest (A1.map f++[y]) st2 K) (next _ _ ⟨A1++[r],A2,rfl,by rw[←he];simp,h.2,by simp⟩)
    exact⟨aI,σ2,e2,q⟩
theorem CI{st:af}:∀ {ds:List D} {A:List (List Int)} {i:Nat},br st ds A→∀ {x:D} {rest:List D},f6 i ds=x::rest→∃d r ds' A',ds=d::ds'∧A=r::A'∧x= .tup [.int (i:Int),d]∧rest=f6 (i+1) ds'∧items? st d=some (aB r)∧br st ds' A'
 | [],[],_,_,_,_,e=>by unfold f6 at e;cases e
 |d::ds,r::A,i,h,x,rest,e=>by
  unfold f6 at e
  rw[List.cons.injEq]at e
  exact⟨d,r,ds,A,rfl,rfl,e.1.symm,e.2.symm,h.1,h.2⟩
theorem vA:∀(r:List Int) (i:Nat),fY r (i+1)=(fY r i).map (· +1)
 | [],_=>rfl
 |x::r,i=>by
  unfold fY
  split
  · exact vA r (i+1)
  · rfl
theorem tT:∀r:List Int,((List.range r.length).filter fun j=>decide (r.getD j 0≠0)).head?=h8 r
 | []=>rfl
 |x::r=>by
  have ih:=tT r
  rw[List.length_cons,List.range_succ_eq_map,List.filter_cons]
  by_cases h:x=0
  · have h1:decide ((x::r).getD 0 0≠0)=false:=by simpa using h
    rw[h1,if_neg Bool.false_ne_true,List.filter_map,List.head?_map]
    have e:(fun j=>decide ((x::r).getD j 0≠0))∘Nat.succ=fun j=>decide (r.getD j 0≠0):=by
     funext j
     simp
    rw[e,ih]
    unfold h8
    conv=>rhs;unfold fY
    rw[if_pos h,vA]
  · have h1:decide ((x::r).getD 0 0≠0)=true:=by simpa using h
    rw[h1,if_pos rfl,List.head?_cons]
    unfold h8 fY
    rw[if_neg h]
theorem AZ{n:Nat}{p:Nat→Bool}{c:DT}{te:DE}{σc:bM}{st:af}{K:List D→af→Prop}(h:∀i:Nat,i<n→∃σ2,bB 0 (.int (i:Int)) σc=some σ2∧(∀K',K' (p i) st→c σ2 st K')∧∀K',K' (.int (i:Int)) st→te σ2 st K')(k:K (((List.range n).filter p).map fun(j:Nat)=>D.int (j:Int)) st):cP (bB 0) c te (fun _=>True) σc (dD 0 n) [] st K:=by
 refine gd (fun rest acc st'=>st'=st∧∃j:Nat,j≤n∧rest=(List.range (n-j)).map (fun i=>D.int (((j+i:Nat):Int)))∧acc=((List.range j).filter p).map fun(j:Nat)=>D.int (j:Int)) ?_ ?_ _ _ _ ⟨rfl,0,Nat.zero_le _,by unfold dD;simp,rfl⟩
 · rintro acc st' ⟨rfl,j,hj,hr,rfl⟩
   have:n-j=0:=by
    cases q:n-j with
    |zero=>rfl
    |succ m=>rw[q,List.range_succ_eq_map]at hr;cases hr
   have hjn:j=n:=by omega
   subst hjn
   exact⟨trivial,k⟩
 · rintro d rest acc st' ⟨rfl,j,hj,hr,rfl⟩ next
   cases q:n-j with
   |zero=>rw[q]at hr;cases hr
   |succ m=>
    rw[q,List.range_succ_eq_map,List.map_cons,List.map_map]at hr
    simp only[List.cons.injEq]at hr
    obtain⟨rfl,hrest⟩:=hr
    obtain⟨σ2,e2,hc,ht⟩:=h j (by omega)
    have hrest':rest=(List.range (n-(j+1))).map (fun i=>D.int (((j+1+i:Nat):Int))):=by
     have:n-(j+1)=m:=by omega
     rw[this,hrest]
     refine List.map_congr_left fun i _=>?_
     show D.int (((j+(i+1):Nat):Int))=D.int (((j+1+i:Nat):Int))
     congr 2;omega
    refine⟨trivial,σ2,e2,hc _ ?_⟩
    cases ep:p j with
    |false=>
     refine next _ _ ⟨rfl,j+1,by omega,hrest',?_⟩
     rw[List.range_succ,List.filter_append,List.map_append]
     simp[ep]
    |true=>
     refine dc (ht _ (next _ _ ⟨rfl,j+1,by omega,hrest',?_⟩))
     rw[List.range_succ,List.filter_append,List.map_append]
     simp[ep]
theorem w9{n:Nat}(ps:List Nat):pl (n+1) (.lst (ps.map fun(j:Nat)=>D.int (j:Int)))=true:=by
 unfold pl
 refine List.all_eq_true.mpr fun d hd=>?_
 obtain⟨i,_,rfl⟩:=List.mem_map.mp hd
 cases n<;>rfl
noncomputable def mH:cC:=fun ds st K=>∃(d:D) (A:List (List Int)) (w:Nat),ds=[d]∧cV st d A∧(∀r∈A,r.length=w)∧A.length≤1000∧K (.bl (di [] (-1) A)) st
noncomputable def jQ:List Str:=["rows","ahead","k","row","lead"]
noncomputable def yc:DS:=(aE (bz 1 (j9 fN (dC (.int 1))))
 (aE (i9 (yF (ae (ab 0) aj)) (iJ 2 3) (aE (bz 4 (aG rB (ae (ab 3) aj)))
 (aE (cx (gD (aM (aw xo (ab 4) (dC .aA))) (gD (aM (aw zu (ab 4) (ab 1))) (aM (aw oJ (aw bp (ab 3) (ab 4)) (dC (.int 0)))))) (ba (dC (.bl false))) bY)
 (aE (cx (d7 (aM (bF oX (ae (cM (cZ (r9 (ab 0) pJ (vM (ab 2)))) [none,some 4,some 3] (bB 0) bW (u6 zu oJ (dC (.int 0)) (aw bp (ab 0) (ab 1)) (aw bp (ab 2) (ab 1)))) aj)))) (ba (dC (.bl false))) bY)
 (bz 1 (ab 4))))))
 (ba (dC (.bl true)))))
theorem wd:∀ds st K,mH ds st K→ds.length=1∧yc {nx:=fun _ st'=>K .aA st',rt:=K} (a6 jQ ds) st:=by
 rintro ds st K ⟨d,A,w,rfl,⟨da,hd,ra⟩,hw,hl,k⟩
 refine⟨rfl,?_⟩
 have hla:=ra.len
 refine eW ?_
 refine Bi hd fun ok aI=>?_
 refine ji (fun rest σ st'=>st'=st∧∃(v2 v3 v4:Option D) (ahead:Int) (A1 A2:List (List Int)) (ds2:List D),σ=[some d,some (.int ahead),v2,v3,v4]∧A=A1++A2∧br st ds2 A2∧rest=f6 A1.length ds2∧di [] (-1) A=di A1 ahead A2) ?_ ?_ _ _ _ ⟨rfl,none,none,none,-1,[],A,da,rfl,rfl,ra,rfl,rfl⟩
 · rintro σ st' ⟨rfl,v2,v3,v4,ahead,A1,A2,ds2,rfl,hA,r2,hr,hs⟩
   refine⟨aI _ hd,?_⟩
   match ds2,A2,r2,hr with
   | [],[],_,_=>
     rw[hs]at k
     exact k
 · rintro x rest σ st' ⟨rfl,v2,v3,v4,ahead,A1,A2,ds2,rfl,hA,r2,hr,hs⟩ next
   obtain⟨e,r,ds3,A3,rfl,rfl,rfl,rfl,he,r3⟩:=CI r2 hr.symm
   refine⟨aI _ hd,_,rfl,?_⟩
   refine⟨e,r,rfl,he,?_⟩
   rw[kX]at hs
   have hrw:r.length=w:=hw r (by rw[hA];simp)
   cases el:h8 r with
   |none=>
    have:nk r= .aA:=by unfold nk;rw[el]
    rw[this]
    rw[el]at hs
    refine D8 rfl (dc ?_)
    rw[hs]at k
    exact k
   |some l=>
    have e1:nk r= .int (l:Int):=by unfold nk;rw[el]
    rw[e1]
    rw[el]at hs
    have hlr:=xG el
    refine D8 rfl ?_
    refine CJ ?_
    by_cases h1:(l:Int)≤ahead
    · rw[decide_eq_true h1]
      simp only[if_pos (show(l:Int)≤ahead∨r.getD l 0<0 from .inl h1)]at hs
      rw[hs]at k
      exact k
    · rw[decide_eq_false h1]
      refine aH he (fR hlr) (oz ?_)
      by_cases h2:r.getD l 0<0
      · rw[decide_eq_true h2]
        simp only[if_pos (show(l:Int)≤ahead∨r.getD l 0<0 from .inr h2)]at hs
        rw[hs]at k
        exact k
      · rw[decide_eq_false h2]
        simp only[if_neg (show¬((l:Int)≤ahead∨r.getD l 0<0)from fun h=>h.elim h1 h2)]at hs
        refine KG hd fun d' hd'=>hW hd' fun ok2 hok2=>?_
        have ec:L3.cutD da none (some (A1.length:Int))=da.take A1.length:=by
         unfold L3.cutD
         rw[HT.BD,HT.yR,List.drop_zero,Nat.sub_zero]
         congr 1
         rw[hla,hA,List.length_append]
         omega
        have rr:br st' (L3.cutD da none (some (A1.length:Int))) A1:=by
         have:=br.take A1.length ra
         rw[hA,List.take_left']at this
         · rw[ec];exact this
         · rfl
        refine⟨bH (by rw[rr.len];rw[hA]at hl;simp at hl;omega),?_⟩
        refine B_ (fun a=> .bl (decide (0≤a.getD l 0)&&decide (a.getD l 0<r.getD l 0))) hok2 rr (fun y a ha hy K' q=>⟨_,rfl,?_⟩) ?_
        · have hal:l<a.length:=by rw[hw a (by rw[hA];exact List.mem_append_left _ ha),←hrw];exact hlr
          refine aH hy (fR hal) (CJ ?_)
          by_cases h3:0≤a.getD l 0
          · rw[decide_eq_true h3]at q⊢
            exact aH he (fR hlr) (oz (by simpa using q))
          · rw[decide_eq_false h3]at q⊢
            exact q
        · refine vj (vc A1) ?_
          have ea:(A1.map fun a=>decide (0≤a.getD l 0)&&decide (a.getD l 0<r.getD l 0)).all id=A1.all fun a=>decide (0≤a.getD l 0)&&decide (a.getD l 0<r.getD l 0):=by rw[List.all_map];rfl
          rw[ea]
          cases e4:(A1.all fun a=>decide (0≤a.getD l 0)&&decide (a.getD l 0<r.getD l 0))with
          |false=>
           rw[e4]at hs
           rw[hs]at k
           exact k
          |true=>
           rw[e4]at hs
           exact next _ _ ⟨rfl,_,_,_,(l:Int),A1++[r],A3,ds3,rfl,by rw[hA];simp,r3,by simp,hs⟩
noncomputable def iN:cC:=fun ds st K=>∃(t d:Int),ds=[.int t,.int d]∧d≠0∧K (.int (Mx.qn t d)) st
noncomputable def fV:List Str:=["top","bottom"]
noncomputable def rZ:DS:=(ba (aw pH (aw dE (aw dm (dC (.int 2)) (ab 0)) (ab 1)) (aw dm (dC (.int 2)) (ab 1))))
theorem qM:∀ds st K,iN ds st K→ds.length=2∧rZ {nx:=fun _ st'=>K .aA st',rt:=K} (a6 fV ds) st:=by
 rintro ds st K ⟨t,d,rfl,hd,k⟩
 exact⟨rfl,fI (jd (by decide) (by decide)) (d8 (fI (jd (by decide) (by decide)) (zd (by omega) k)))⟩
noncomputable def jH:cC:=fun ds st K=>∃(n k o:Nat) (A:List (List Int)),ds=[.ref n,.int k,.int o]∧st[n]?=some (.lst (A.map a7))∧k<A.length∧o<A.length∧K (.ref st.length) (st++[.lst ((Mx.bO A k o).map a7)])
noncomputable def lW:List Str:=["rows","k","other","order"]
noncomputable def A6:DS:=(aE (bz 3 (bF mr (ae (ab 0) aj)))
 (aE (dh (ab 3) (ab 1) (aw bp (ab 0) (ab 2)))
 (aE (dh (ab 3) (ab 2) (aw bp (ab 0) (ab 1)))
 (ba (ab 3)))))
theorem dy{A:List (List Int)}{j:Nat}(h:j<A.length):dQ (A.map a7) (j:Int)=some (a7 (A.getD j [])):=by
 refine gz ?_
 rw[List.getElem?_map,List.getElem?_eq_getElem h,Mx.aS h];rfl
theorem mi{m k:Nat}(h:k<m):jA m (k:Int)=some k:=by
 have:=lZ (i:=(k:Int)) (m:=m) (by omega) (by omega)
 rw[Int.toNat_natCast]at this
 exact this
theorem ib{A:List (List Int)}{k:Nat}{r:List Int}:(A.map a7).set k (a7 r)=(A.set k r).map a7:=by rw[List.map_set]
theorem zB:∀ds st K,jH ds st K→ds.length=3∧A6 {nx:=fun _ st'=>K .aA st',rt:=K} (a6 lW ds) st:=by
 rintro ds st K ⟨n,k,o,A,rfl,e,hk,ho,kk⟩
 refine⟨rfl,?_⟩
 have hn:n<st.length:=(List.getElem?_eq_some_iff.mp e).1
 refine p_ (az e) ?_
 have e1:(st++[Cell.lst (A.map a7)])[n]?=some (.lst (A.map a7)):=by rw[List.getElem?_append_left hn];exact e
 have e2:(st++[Cell.lst (A.map a7)])[st.length]?=some (.lst (A.map a7)):=by simp
 refine aH (az e1) (dy ho) (eE e2 (by rw[List.length_map];exact mi hk) ?_)
 rw[ib]
 have es:(st++[Cell.lst (A.map a7)]).set st.length (.lst ((A.set k (A.getD o [])).map a7))=st++[Cell.lst ((A.set k (A.getD o [])).map a7)]:=by
  rw[List.set_append_right _ _ (Nat.le_refl _),Nat.sub_self];rfl
 rw[es]
 have e3:(st++[Cell.lst ((A.set k (A.getD o [])).map a7)])[n]?=some (.lst (A.map a7)):=by rw[List.getElem?_append_left hn];exact e
 have e4:(st++[Cell.lst ((A.set k (A.getD o [])).map a7)])[st.length]?=some (.lst ((A.set k (A.getD o [])).map a7)):=by simp
 refine aH (az e3) (dy hk) (eE e4 (by rw[List.length_map,List.length_set];exact mi ho) ?_)
 rw[ib]
 have es2:(st++[Cell.lst ((A.set k (A.getD o [])).map a7)]).set st.length (.lst (((A.set k (A.getD o [])).set o (A.getD k [])).map a7))=st++[Cell.lst ((Mx.bO A k o).map a7)]:=by
  rw[List.set_append_right _ _ (Nat.le_refl _),Nat.sub_self];rfl
 rw[es2]
 exact kk
noncomputable def l7:cC:=fun ds st K=>∃(d:D) (r:List Int),ds=[d]∧items? st d=some (aB r)∧r.length≤1000∧K (a7 (r.map fun x=> -x)) st
noncomputable def n_:List Str:=["row"]
noncomputable def EE:DS:=(ba (cM (cZ (ab 0)) [none] (bB 0) bW (j9 fN (ab 0))))
theorem BZ:∀ds st K,l7 ds st K→ds.length=1∧EE {nx:=fun _ st'=>K .aA st',rt:=K} (a6 n_ ds) st:=by
 rintro ds st K ⟨d,r,rfl,hd,hl,k⟩
 refine⟨rfl,?_⟩
 refine hW hd fun ok aI=>⟨bH (by unfold aB;rw[List.length_map];exact hl),?_⟩
 refine comp_map (g:=fun x=>match x with| .int a=> .int (-a)|_=> .aA) aI _ (fun x hx K' q=>?_) ?_
 · unfold aB at hx
   obtain⟨a,_,rfl⟩:=List.mem_map.mp hx
   exact⟨_,rfl,eW q⟩
 · have e:(aB r).map (fun x=>match x with| .int a=> .int (-a)|_=> .aA)=aB (r.map fun x=> -x):=by unfold aB;rw[List.map_map,List.map_map];rfl
   rw[e];exact k
structure Bn(st:af)(b xb xu xc:Nat)(A U C:List (List Int)):Prop where
 eb:st[b]?=some (Cell.ins aF [("body",.ref xb),("turn",.ref xu),("back_columns",.ref xc)])
 e1:st[xb]?=some (Cell.lst (A.map a7))
 e2:st[xu]?=some (Cell.lst (U.map a7))
 e3:st[xc]?=some (Cell.lst (C.map a7))
 n1:xb≠xu
 n2:xb≠xc
 n3:xu≠xc
theorem ku{st:af}{b x:Nat}{C:Addr}{fs:List (Str×D)}{xs:List D}(h1:st[b]?=some (Cell.ins C fs))(h2:st[x]?=some (Cell.lst xs)):b≠x:=fun z=>by rw[z,h2]at h1;cases h1
noncomputable def jV:cC:=fun ds st K=>∃(b N:Nat) (d:D) (A:List (List Int)),ds=[.ref b,d]∧st[b]?=some (.ins aF [])∧cV st d A∧A.length=N∧N≤8∧∀st',Bn st' b st.length (st.length+1) (st.length+2) A (Mx.units N) (Mx.units N)→st'.length=st.length+3→(∀m,m<st.length→m≠b→st'[m]?=st[m]?)→K .aA st'
noncomputable def g9:List Str:=["self","rows"]
noncomputable def uK:DS:=(aE (oK aF "body" (ab 0) (kR (cZ (ab 1)) [none] (bB 0) bW (bF kE (ae (ab 0) aj))))
 (aE (oK aF "turn" (ab 0) (kR (cZ (aG jF (ae (bF cS (ae (ab 1) aj)) aj))) [none] (bB 0) bW (bF kE (ae (ab 0) aj))))
 (oK aF "back_columns" (ab 0) (kR (cZ (aG jF (ae (bF cS (ae (ab 1) aj)) aj))) [none] (bB 0) bW (bF kE (ae (ab 0) aj))))))
theorem qh(f:Str)(v:D):∀fs:List (Str×D),(putD f v fs).length≤fs.length+1
 | []=>by simp[putD]
 |(g,x)::r=>by
  unfold putD
  split
  · simp
  · have:=qh f v r
    simp only[List.length_cons]
    omega
theorem zg{st:af}{A:List (List Int)}:br st (A.map cw) A:=br.tup
theorem xv(n:Nat):(Mx.units n).length=n:=by unfold Mx.units;simp
theorem tu:∀ds st K,jV ds st K→ds.length=2∧uK {nx:=fun _ st'=>K .aA st',rt:=K} (a6 g9 ds) st:=by
 rintro ds st K ⟨b,N,d,A,rfl,eb,hA,hl,hN,k⟩
 refine⟨rfl,?_⟩
 have hb:b<st.length:=(List.getElem?_eq_some_iff.mp eb).1
 obtain⟨da,hd,ra⟩:=hA.ex
 have hdl:=ra.len
 have lst:∀(e:D) (r:List Int),True:=fun _ _=>trivial
 refine hW hd fun ok aI=>⟨bH (by omega),?_⟩
 refine ju a7 aI ra (fun e r hr he K' q=>⟨_,rfl,kY he q⟩) ?_
 have eb1:(st++[Cell.lst (A.map a7)])[b]?=some (.ins aF []):=by rw[List.getElem?_append_left hb];exact eb
 refine nu eb1 (by decide) ?_
 generalize hs1:(st++[Cell.lst (A.map a7)]).set b (.ins aF (putD "body" (.ref st.length) []))=st1
 have l1:st1.length=st.length+1:=by rw[←hs1];simp
 have f1:∀m,m<st.length→m≠b→st1[m]?=st[m]?:=fun m hm hmb=>by rw[←hs1,List.getElem?_set_ne (Ne.symm hmb),List.getElem?_append_left hm]
 have b1:st1[b]?=some (.ins aF (putD "body" (.ref st.length) [])):=by rw[←hs1,List.getElem?_set_self (by simp;omega)]
 have x1:st1[st.length]?=some (.lst (A.map a7)):=by rw[←hs1,List.getElem?_set_ne (by omega)];simp
 clear hs1
 have itd:∃da',items? st1 d=some da'∧da'.length=N:=by
  cases d with
  |ref n=>
   by_cases hnb:n=b
   · subst hnb
     unfold items? at hd
     simp only[eb]at hd
     cases hd
   · have hn:n<st.length:=by
      unfold items? at hd
      simp only at hd
      cases q:st[n]? with
      |none=>rw[q]at hd;cases hd
      |some c=>exact(List.getElem?_eq_some_iff.mp q).1
     refine⟨da,?_,by omega⟩
     unfold items? at hd⊢
     simp only at hd⊢
     rw[f1 n hn hnb]
     exact hd
  |_=>exact⟨da,hd,by omega⟩
 obtain⟨da1,hd1,hdl1⟩:=itd
 refine cv hd1 ?_
 rw[hdl1]
 refine⟨N,rfl,by omega,?_⟩
 refine ip ⟨bH (by rw[List.length_map,xv];omega),?_⟩
 refine ju a7 trivial zg (fun e r hr he K' q=>⟨_,rfl,kY he q⟩) ?_
 have b2:(st1++[Cell.lst ((Mx.units N).map a7)])[b]?=some (.ins aF (putD "body" (.ref st.length) [])):=by rw[List.getElem?_append_left (by omega)];exact b1
 refine nu b2 (by have:=qh "body" (.ref st.length) [];simp only[List.length_nil]at this;omega) ?_
 generalize hs2:(st1++[Cell.lst ((Mx.units N).map a7)]).set b (.ins aF (putD "turn" (.ref st1.length) (putD "body" (.ref st.length) [])))=st2
 have l2:st2.length=st.length+2:=by rw[←hs2];simp;omega
 have f2:∀m,m<st1.length→m≠b→st2[m]?=st1[m]?:=fun m hm hmb=>by rw[←hs2,List.getElem?_set_ne (Ne.symm hmb),List.getElem?_append_left hm]
 have b2':st2[b]?=some (.ins aF (putD "turn" (.ref st1.length) (putD "body" (.ref st.length) []))):=by rw[←hs2,List.getElem?_set_self (by simp;omega)]
 have x2:st2[st1.length]?=some (.lst ((Mx.units N).map a7)):=by rw[←hs2,List.getElem?_set_ne (by omega)];simp
 clear hs2
 have itd2:items? st2 d=some da1:=by
  cases d with
  |ref n=>
   by_cases hnb:n=b
   · subst hnb
     unfold items? at hd1
     simp only[b1]at hd1
     cases hd1
   · have hn:n<st1.length:=by
      unfold items? at hd1
      simp only at hd1
      cases q:st1[n]? with
      |none=>rw[q]at hd1;cases hd1
      |some c=>exact(List.getElem?_eq_some_iff.mp q).1
     unfold items? at hd1⊢
     simp only at hd1⊢
     rw[f2 n hn hnb]
     exact hd1
  |_=>exact hd1
 refine cv itd2 ?_
 rw[hdl1]
 refine⟨N,rfl,by omega,?_⟩
 refine ip ⟨bH (by rw[List.length_map,xv];omega),?_⟩
 refine ju a7 trivial zg (fun e r hr he K' q=>⟨_,rfl,kY he q⟩) ?_
 have b3:(st2++[Cell.lst ((Mx.units N).map a7)])[b]?=some (.ins aF (putD "turn" (.ref st1.length) (putD "body" (.ref st.length) []))):=by rw[List.getElem?_append_left (by omega)];exact b2'
 refine nu b3 (by have h1:=qh "body" (.ref st.length) [];have h2:=qh "turn" (.ref st1.length) (putD "body" (.ref st.length) []);simp only[List.length_nil]at h1;omega) ?_
 refine k _ ⟨?_,?_,?_,?_,by omega,by omega,by omega⟩ (by simp;omega) fun m hm hmb=>?_
 · rw[List.getElem?_set_self (by simp;omega),l1,l2];rfl
 · rw[List.getElem?_set_ne (by omega),List.getElem?_append_left (by omega),f2 _ (by omega) (by omega)];exact x1
 · rw[List.getElem?_set_ne (by omega),List.getElem?_append_left (by omega)]
   rw[l1]at x2
   exact x2
 · rw[List.getElem?_set_ne (by omega)]
   rw[show st.length+2=st2.length by omega]
   simp
 · rw[List.getElem?_set_ne (Ne.symm hmb),List.getElem?_append_left (by omega),f2 m (by omega) hmb,f1 m hm hmb]
noncomputable def kI:cC:=fun ds st K=>∃(b xb xu xc N w k j:Nat) (A U C:List (List Int)) (q:Int),ds=[.ref b,.int k,.int q,.int j]∧Bn st b xb xu xc A U C∧Mx.cu N w A∧Mx.cu N N U∧Mx.cu N N C∧k<N∧j<N∧N≤8∧w≤9∧(∀x∈A.getD j [],IntMulOk (-q) x)∧(∀x∈U.getD j [],IntMulOk (-q) x)∧(∀x∈C.getD k [],IntMulOk q x)∧
 ∀st',Bn st' b xb xu xc (Mx.bw A k q j) (Mx.bw U k q j) (Mx.bw C j (-q) k)→st'.length=st.length→(∀m,m≠xb→m≠xu→m≠xc→st'[m]?=st[m]?)→K .aA st'
noncomputable def kM:List Str:=["self","k","times","other"]
noncomputable def Ai:DS:=(aE (dh (dN aF "body" (ab 0)) (ab 1) (aG nz (ae (aw bp (dN aF "body" (ab 0)) (ab 1)) (ae (j9 fN (ab 2)) (ae (aw bp (dN aF "body" (ab 0)) (ab 3)) aj)))))
 (aE (dh (dN aF "turn" (ab 0)) (ab 1) (aG nz (ae (aw bp (dN aF "turn" (ab 0)) (ab 1)) (ae (j9 fN (ab 2)) (ae (aw bp (dN aF "turn" (ab 0)) (ab 3)) aj)))))
 (dh (dN aF "back_columns" (ab 0)) (ab 3) (aG nz (ae (aw bp (dN aF "back_columns" (ab 0)) (ab 3)) (ae (ab 2) (ae (aw bp (dN aF "back_columns" (ab 0)) (ab 1)) aj)))))))
theorem yi:∀ds st K,kI ds st K→ds.length=4∧Ai {nx:=fun _ st'=>K .aA st',rt:=K} (a6 kM ds) st:=by
 rintro ds st K ⟨b,xb,xu,xc,N,w,k,j,A,U,C,q,rfl,B,hA,hU,hC,hk,hj,hN,hw,mA,mU,mC,kk⟩
 refine⟨rfl,?_⟩
 have lA:=hA.len
 have lU:=hU.len
 have lC:=hC.len
 have rA:=Mx.cH hA hk
 have rU:=Mx.cH hU hk
 have rC:=Mx.cH hC hj
 have bx1:=ku B.eb B.e1
 have bx2:=ku B.eb B.e2
 have bx3:=ku B.eb B.e3
 have n1:=B.n1
 have n2:=B.n2
 have n3:=B.n3
 refine cJ B.eb rfl (aH (az B.e1) (dy (by omega)) (eW (cJ B.eb rfl (aH (az B.e1) (dy (by omega)) ?_))))
 refine⟨_,_,-q,A.getD k [],A.getD j [],rfl,rfl,rfl,by omega,mA,?_⟩
 refine cJ B.eb rfl (eE B.e1 (by rw[List.length_map,lA];exact mi hk) ?_)
 rw[ib]
 have g1:∀m,m≠xb→(st.set xb (.lst ((A.set k (Mx.fH (A.getD k []) (-q) (A.getD j []))).map a7)))[m]?=st[m]?:=fun m hm=>List.getElem?_set_ne (Ne.symm hm)
 have h1:(st.set xb (.lst ((A.set k (Mx.fH (A.getD k []) (-q) (A.getD j []))).map a7)))[xb]?=some (.lst ((Mx.bw A k q j).map a7)):=List.getElem?_set_self (List.getElem?_eq_some_iff.mp B.e1).1
 have z1:(st.set xb (.lst ((A.set k (Mx.fH (A.getD k []) (-q) (A.getD j []))).map a7))).length=st.length:=List.length_set
 generalize st.set xb (.lst ((A.set k (Mx.fH (A.getD k []) (-q) (A.getD j []))).map a7))=st1 at g1 h1 z1⊢
 have eb1:=(g1 b bx1).trans B.eb
 have e21:=(g1 xu (Ne.symm n1)).trans B.e2
 have e31:=(g1 xc (Ne.symm n2)).trans B.e3
 refine cJ eb1 rfl (aH (az e21) (dy (by omega)) (eW (cJ eb1 rfl (aH (az e21) (dy (by omega)) ?_))))
 refine⟨_,_,-q,U.getD k [],U.getD j [],rfl,rfl,rfl,by omega,mU,?_⟩
 refine cJ eb1 rfl (eE e21 (by rw[List.length_map,lU];exact mi hk) ?_)
 rw[ib]
 have g2:∀m,m≠xu→(st1.set xu (.lst ((U.set k (Mx.fH (U.getD k []) (-q) (U.getD j []))).map a7)))[m]?=st1[m]?:=fun m hm=>List.getElem?_set_ne (Ne.symm hm)
 have h2:(st1.set xu (.lst ((U.set k (Mx.fH (U.getD k []) (-q) (U.getD j []))).map a7)))[xu]?=some (.lst ((Mx.bw U k q j).map a7)):=List.getElem?_set_self (List.getElem?_eq_some_iff.mp e21).1
 have z2:(st1.set xu (.lst ((U.set k (Mx.fH (U.getD k []) (-q) (U.getD j []))).map a7))).length=st1.length:=List.length_set
 generalize st1.set xu (.lst ((U.set k (Mx.fH (U.getD k []) (-q) (U.getD j []))).map a7))=st2 at g2 h2 z2⊢
 have eb2:=(g2 b bx2).trans eb1
 have e32:=(g2 xc (Ne.symm n3)).trans e31
 refine cJ eb2 rfl (aH (az e32) (dy (by omega)) (cJ eb2 rfl (aH (az e32) (dy (by omega)) ?_)))
 refine⟨_,_,q,C.getD j [],C.getD k [],rfl,rfl,rfl,by omega,mC,?_⟩
 refine cJ eb2 rfl (eE e32 (by rw[List.length_map,lC];exact mi hj) ?_)
 rw[ib]
 have hc:C.set j (Mx.fH (C.getD j []) q (C.getD k []))=Mx.bw C j (-q) k:=by unfold Mx.bw;rw[Int.neg_neg]
 rw[hc]
 refine kk _ ⟨?_,?_,?_,?_,n1,n2,n3⟩ (by rw[List.length_set];omega) fun m m1 m2 m3=>?_
 · rw[List.getElem?_set_ne (Ne.symm bx3)];exact eb2
 · rw[List.getElem?_set_ne (Ne.symm n2),g2 _ n1];exact h1
 · rw[List.getElem?_set_ne (Ne.symm n3)];exact h2
 · exact List.getElem?_set_self (List.getElem?_eq_some_iff.mp e32).1
 · rw[List.getElem?_set_ne (Ne.symm m3),g2 m m2,g1 m m1]
noncomputable def jS:cC:=fun ds st K=>∃(b xb xu xc N w k o:Nat) (A U C:List (List Int)),ds=[.ref b,.int k,.int o]∧Bn st b xb xu xc A U C∧Mx.cu N w A∧Mx.cu N N U∧Mx.cu N N C∧k<N∧o<N∧
 ∀st',Bn st' b st.length (st.length+1) (st.length+2) (Mx.bO A k o) (Mx.bO U k o) (Mx.bO C k o)→st'.length=st.length+3→(∀m,m<st.length→m≠b→st'[m]?=st[m]?)→K .aA st'
noncomputable def g0:List Str:=["self","k","other"]
noncomputable def ui:DS:=(aE (oK aF "body" (ab 0) (aG jH (ae (dN aF "body" (ab 0)) (ae (ab 1) (ae (ab 2) aj)))))
 (aE (oK aF "turn" (ab 0) (aG jH (ae (dN aF "turn" (ab 0)) (ae (ab 1) (ae (ab 2) aj)))))
 (oK aF "back_columns" (ab 0) (aG jH (ae (dN aF "back_columns" (ab 0)) (ae (ab 1) (ae (ab 2) aj)))))))
theorem tH:∀ds st K,jS ds st K→ds.length=3∧ui {nx:=fun _ st'=>K .aA st',rt:=K} (a6 g0 ds) st:=by
 rintro ds st K ⟨b,xb,xu,xc,N,w,k,o,A,U,C,rfl,B,hA,hU,hC,hk,ho,kk⟩
 refine⟨rfl,?_⟩
 have lA:=hA.len
 have lU:=hU.len
 have lC:=hC.len
 have bx1:=ku B.eb B.e1
 have bx2:=ku B.eb B.e2
 have bx3:=ku B.eb B.e3
 have hb:b<st.length:=(List.getElem?_eq_some_iff.mp B.eb).1
 have hu:xu<st.length:=(List.getElem?_eq_some_iff.mp B.e2).1
 have hc:xc<st.length:=(List.getElem?_eq_some_iff.mp B.e3).1
 refine cJ B.eb rfl ?_
 refine⟨xb,k,o,A,rfl,B.e1,by omega,by omega,?_⟩
 have eb1:(st++[Cell.lst ((Mx.bO A k o).map a7)])[b]?=some (.ins aF [("body",.ref xb),("turn",.ref xu),("back_columns",.ref xc)]):=by rw[List.getElem?_append_left hb];exact B.eb
 refine nu eb1 (by simp) ?_
 have pb:putD "body" (.ref st.length) [("body",.ref xb),("turn",.ref xu),("back_columns",.ref xc)]=([("body",.ref st.length),("turn",.ref xu),("back_columns",.ref xc)]:List (Str×D)):=rfl
 rw[pb]
 generalize hs1:(st++[Cell.lst ((Mx.bO A k o).map a7)]).set b (.ins aF [("body",.ref st.length),("turn",.ref xu),("back_columns",.ref xc)])=st1
 have l1:st1.length=st.length+1:=by rw[←hs1];simp
 have f1:∀m,m<st.length→m≠b→st1[m]?=st[m]?:=fun m hm hmb=>by rw[←hs1,List.getElem?_set_ne (Ne.symm hmb),List.getElem?_append_left hm]
 have b1:st1[b]?=some (.ins aF [("body",.ref st.length),("turn",.ref xu),("back_columns",.ref xc)]):=by rw[←hs1,List.getElem?_set_self (by simp;omega)]
 have x1:st1[st.length]?=some (.lst ((Mx.bO A k o).map a7)):=by rw[←hs1,List.getElem?_set_ne (by omega)];simp
 clear hs1 eb1
 refine cJ b1 rfl ?_
 refine⟨xu,k,o,U,rfl,(f1 xu hu (Ne.symm bx2)).trans B.e2,by omega,by omega,?_⟩
 have eb1:(st1++[Cell.lst ((Mx.bO U k o).map a7)])[b]?=some (.ins aF [("body",.ref st.length),("turn",.ref xu),("back_columns",.ref xc)]):=by rw[List.getElem?_append_left (by omega)];exact b1
 refine nu eb1 (by simp) ?_
 have pb:putD "turn" (.ref st1.length) [("body",.ref st.length),("turn",.ref xu),("back_columns",.ref xc)]=([("body",.ref st.length),("turn",.ref st1.length),("back_columns",.ref xc)]:List (Str×D)):=rfl
 rw[pb]
 generalize hs2:(st1++[Cell.lst ((Mx.bO U k o).map a7)]).set b (.ins aF [("body",.ref st.length),("turn",.ref st1.length),("back_columns",.ref xc)])=st2
 have l2:st2.length=st.length+2:=by rw[←hs2];simp;omega
 have f2:∀m,m<st1.length→m≠b→st2[m]?=st1[m]?:=fun m hm hmb=>by rw[←hs2,List.getElem?_set_ne (Ne.symm hmb),List.getElem?_append_left hm]
 have b2:st2[b]?=some (.ins aF [("body",.ref st.length),("turn",.ref st1.length),("back_columns",.ref xc)]):=by rw[←hs2,List.getElem?_set_self (by simp;omega)]
 have x2:st2[st1.length]?=some (.lst ((Mx.bO U k o).map a7)):=by rw[←hs2,List.getElem?_set_ne (by omega)];simp
 clear hs2 eb1
 refine cJ b2 rfl ?_
 refine⟨xc,k,o,C,rfl,((f2 xc (by omega) (Ne.symm bx3)).trans (f1 xc hc (Ne.symm bx3))).trans B.e3,by omega,by omega,?_⟩
 have eb1:(st2++[Cell.lst ((Mx.bO C k o).map a7)])[b]?=some (.ins aF [("body",.ref st.length),("turn",.ref st1.length),("back_columns",.ref xc)]):=by rw[List.getElem?_append_left (by omega)];exact b2
 refine nu eb1 (by simp) ?_
 have pb:putD "back_columns" (.ref st2.length) [("body",.ref st.length),("turn",.ref st1.length),("back_columns",.ref xc)]=([("body",.ref st.length),("turn",.ref st1.length),("back_columns",.ref st2.length)]:List (Str×D)):=rfl
 rw[pb]
 refine kk _ ⟨?_,?_,?_,?_,by omega,by omega,by omega⟩ (by simp;omega) fun m hm hmb=>?_
 · rw[List.getElem?_set_self (by simp;omega),l1,l2]
 · rw[List.getElem?_set_ne (by omega),List.getElem?_append_left (by omega),f2 _ (by omega) (by omega)];exact x1
 · rw[List.getElem?_set_ne (by omega),List.getElem?_append_left (by omega)]
   rw[l1]at x2
   exact x2
 · rw[List.getElem?_set_ne (by omega)]
   rw[show st.length+2=st2.length by omega]
   simp
 · rw[List.getElem?_set_ne (Ne.symm hmb),List.getElem?_append_left (by omega),f2 m (by omega) hmb,f1 m hm hmb]
noncomputable def iC:cC:=fun ds st K=>∃(b xb xu xc N w k:Nat) (A U C:List (List Int)),ds=[.ref b,.int k]∧Bn st b xb xu xc A U C∧Mx.cu N w A∧Mx.cu N N U∧Mx.cu N N C∧k<N∧N≤8∧w≤9∧
 ∀st',Bn st' b xb xu xc (Mx.gv A k) (Mx.gv U k) (Mx.gv C k)→st'.length=st.length→(∀m,m≠xb→m≠xu→m≠xc→st'[m]?=st[m]?)→K .aA st'
noncomputable def fJ:List Str:=["self","k"]
noncomputable def qP:DS:=(aE (dh (dN aF "body" (ab 0)) (ab 1) (aG l7 (ae (aw bp (dN aF "body" (ab 0)) (ab 1)) aj)))
 (aE (dh (dN aF "turn" (ab 0)) (ab 1) (aG l7 (ae (aw bp (dN aF "turn" (ab 0)) (ab 1)) aj)))
 (dh (dN aF "back_columns" (ab 0)) (ab 1) (aG l7 (ae (aw bp (dN aF "back_columns" (ab 0)) (ab 1)) aj)))))
theorem pV:∀ds st K,iC ds st K→ds.length=2∧qP {nx:=fun _ st'=>K .aA st',rt:=K} (a6 fJ ds) st:=by
 rintro ds st K ⟨b,xb,xu,xc,N,w,k,A,U,C,rfl,B,hA,hU,hC,hk,hN,hw,kk⟩
 refine⟨rfl,?_⟩
 have lA:=hA.len
 have lU:=hU.len
 have lC:=hC.len
 have rA:=Mx.cH hA hk
 have rU:=Mx.cH hU hk
 have rC:=Mx.cH hC hk
 have bx1:=ku B.eb B.e1
 have bx2:=ku B.eb B.e2
 have bx3:=ku B.eb B.e3
 have n1:=B.n1
 have n2:=B.n2
 have n3:=B.n3
 refine cJ B.eb rfl (aH (az B.e1) (dy (by omega)) ?_)
 refine⟨_,A.getD k [],rfl,rfl,by omega,?_⟩
 refine cJ B.eb rfl (eE B.e1 (by rw[List.length_map,lA];exact mi hk) ?_)
 rw[ib]
 have g1:∀m,m≠xb→(st.set xb (.lst ((A.set k ((A.getD k []).map fun x=> -x)).map a7)))[m]?=st[m]?:=fun m hm=>List.getElem?_set_ne (Ne.symm hm)
 have h1:(st.set xb (.lst ((A.set k ((A.getD k []).map fun x=> -x)).map a7)))[xb]?=some (.lst ((Mx.gv A k).map a7)):=List.getElem?_set_self (List.getElem?_eq_some_iff.mp B.e1).1
 have z1:(st.set xb (.lst ((A.set k ((A.getD k []).map fun x=> -x)).map a7))).length=st.length:=List.length_set
 generalize st.set xb (.lst ((A.set k ((A.getD k []).map fun x=> -x)).map a7))=st1 at g1 h1 z1⊢
 have eb1:=(g1 b bx1).trans B.eb
 have e21:=(g1 xu (Ne.symm n1)).trans B.e2
 have e31:=(g1 xc (Ne.symm n2)).trans B.e3
 refine cJ eb1 rfl (aH (az e21) (dy (by omega)) ?_)
 refine⟨_,U.getD k [],rfl,rfl,by omega,?_⟩
 refine cJ eb1 rfl (eE e21 (by rw[List.length_map,lU];exact mi hk) ?_)
 rw[ib]
 have g2:∀m,m≠xu→(st1.set xu (.lst ((U.set k ((U.getD k []).map fun x=> -x)).map a7)))[m]?=st1[m]?:=fun m hm=>List.getElem?_set_ne (Ne.symm hm)
 have h2:(st1.set xu (.lst ((U.set k ((U.getD k []).map fun x=> -x)).map a7)))[xu]?=some (.lst ((Mx.gv U k).map a7)):=List.getElem?_set_self (List.getElem?_eq_some_iff.mp e21).1
 have z2:(st1.set xu (.lst ((U.set k ((U.getD k []).map fun x=> -x)).map a7))).length=st1.length:=List.length_set
 generalize st1.set xu (.lst ((U.set k ((U.getD k []).map fun x=> -x)).map a7))=st2 at g2 h2 z2⊢
 have eb2:=(g2 b bx2).trans eb1
 have e32:=(g2 xc (Ne.symm n3)).trans e31
 refine cJ eb2 rfl (aH (az e32) (dy (by omega)) ?_)
 refine⟨_,C.getD k [],rfl,rfl,by omega,?_⟩
 refine cJ eb2 rfl (eE e32 (by rw[List.length_map,lC];exact mi hk) ?_)
 rw[ib]
 refine kk _ ⟨?_,?_,?_,?_,n1,n2,n3⟩ (by rw[List.length_set];omega) fun m m1 m2 m3=>?_
 · rw[List.getElem?_set_ne (Ne.symm bx3)];exact eb2
 · rw[List.getElem?_set_ne (Ne.symm n2),g2 _ n1];exact h1
 · rw[List.getElem?_set_ne (Ne.symm n3)];exact h2
 · exact List.getElem?_set_self (List.getElem?_eq_some_iff.mp e32).1
 · rw[List.getElem?_set_ne (Ne.symm m3),g2 m m2,g1 m m1]
noncomputable def gu:cC:=fun ds st K=>∃(b xb xu xc N w top p:Nat) (A U C:List (List Int)) (f:Bool),ds=[.ref b,.int top,.int p]∧Bn st b xb xu xc A U C∧Mx.cu N w A∧top≤N∧N≤8∧p<w∧w≤9∧st[0]?=some (iz f)∧
 ∀L,Mx.mM A N top p L→K (.lst (L.map fun(k:Nat)=> .int (k:Int))) (st.set 0 (iz true))
noncomputable def gq:List Str:=["self","top","place","live"]
noncomputable def tF:DS:=(aE (bz 3 (cM (sH (ae (ab 1) (ae (bF cS (ae (dN aF "body" (ab 0)) aj)) aj))) [none,some 0,some 2] (bB 0) (aM (aw kT (aw bp (aw bp (dN aF "body" (ab 1)) (ab 0)) (ab 2)) (dC (.int 0)))) (ab 0)))
 (ba (yY 0 174 ⟨97,32,97,66⟩ "Bench.live_rows.<locals>.<lambda>" [none,some 0,some 2] (bF wF (ae (aw bp (aw bp (dN aF "body" (ab 1)) (ab 0)) (ab 2)) aj)) (ab 3))))
theorem uT{a b:Prop}(h:b):if false=true then a else b:=h
theorem Iz{st:af}{b:Nat}{C:Addr}{fs:List (Str×D)}{f:Bool}(h1:st[b]?=some (Cell.ins C fs))(h2:st[0]?=some (iz f)):b≠0:=fun z=>by rw[z,h2]at h1;cases h1
theorem sv{st:af}{b:Nat}{xs:List D}{f:Bool}(h1:st[b]?=some (Cell.lst xs))(h2:st[0]?=some (iz f)):b≠0:=fun z=>by rw[z,h2]at h1;cases h1
theorem Bn.keep{st st':af}{b xb xu xc:Nat}{A U C:List (List Int)}(B:Bn st b xb xu xc A U C)(h:∀m,m=b∨m=xb∨m=xu∨m=xc→st'[m]?=st[m]?):Bn st' b xb xu xc A U C:=
 ⟨(h b (.inl rfl)).trans B.eb,(h xb (.inr (.inl rfl))).trans B.e1,(h xu (.inr (.inr (.inl rfl)))).trans B.e2,(h xc (.inr (.inr (.inr rfl)))).trans B.e3,B.n1,B.n2,B.n3⟩
theorem Bn.tab{st:af}{b xb xu xc:Nat}{A U C:List (List Int)}{f:Bool}(B:Bn st b xb xu xc A U C)(h:st[0]?=some (iz f))(c:Cell):Bn (st.set 0 c) b xb xu xc A U C:=
 B.keep fun m hm=>List.getElem?_set_ne fun z=>by
  subst z
  rcases hm with rfl|rfl|rfl|rfl
  · exact Iz B.eb h rfl
  · exact sv B.e1 h rfl
  · exact sv B.e2 h rfl
  · exact sv B.e3 h rfl
theorem nV{r:List Int}{k:Nat}(h:k<r.length):dQ (aB r) (k:Int)=some (.int (r.getD k 0)):=by
 refine gz ?_
 unfold aB
 rw[List.getElem?_map,List.getElem?_eq_getElem h,Mx.aS h];rfl
noncomputable def fZ(A:List (List Int))(N top p:Nat):List Nat:=(List.range (N-top)).filterMap fun i=>if Mx.g A (top+i) p≠0 then some (top+i)else none
theorem xV{A:List (List Int)}{N top p k:Nat}:k∈fZ A N top p↔top≤k∧k<N∧Mx.g A k p≠0:=by
 unfold fZ
 rw[List.mem_filterMap]
 constructor
 · rintro⟨i,hi,e⟩
   rw[List.mem_range]at hi
   split at e
   · rename_i h;cases e;exact⟨by omega,by omega,h⟩
   · cases e
 · rintro⟨h1,h2,h3⟩
   refine⟨k-top,List.mem_range.mpr (by omega),?_⟩
   rw[show top+(k-top)=k by omega,if_pos h3]
theorem pw_filterMap{f:Nat→Option Nat}(h:∀i j a b,i<j→f i=some a→f j=some b→a<b):∀ {l:List Nat},l.Pairwise (· < ·)→(l.filterMap f).Pairwise (· < ·)
 | [],_=>by simp
 |x::l,hl=>by
  obtain⟨h1,h2⟩:=List.pairwise_cons.mp hl
  rw[List.filterMap_cons]
  split
  · exact pw_filterMap h h2
  · rename_i a e
    refine List.pairwise_cons.mpr ⟨fun b hb=>?_,pw_filterMap h h2⟩
    obtain⟨j,hj,ej⟩:=List.mem_filterMap.mp hb
    exact h x j a b (h1 j hj) e ej
theorem pw_liveR{A:List (List Int)}{N top p:Nat}:(fZ A N top p).Pairwise (· < ·):=by
 unfold fZ
 refine pw_filterMap (fun i j a b hij ha hb=>?_) List.pairwise_lt_range
 split at ha
 · split at hb
   · cases ha;cases hb;omega
   · cases hb
 · cases ha
theorem ym{f:Nat→Option Nat}(l:List Nat):(l.filterMap f).length≤l.length:=List.length_filterMap_le ..
theorem IJ{A:List (List Int)}{N top p:Nat}{os:List (Int×Int)}(hp:os.Perm (((fZ A N top p).map fun(k:Nat)=>(((Mx.g A k p).natAbs:Nat):Int)).zip ((fZ A N top p).map fun(k:Nat)=>(k:Int))))(hs:os.Pairwise slt):
 Mx.mM A N top p (os.map fun q=>q.2.toNat)∧os.map (fun q=>D.int q.2)=(os.map fun q=>q.2.toNat).map fun(k:Nat)=>D.int (k:Int):=by
 have hz:((fZ A N top p).map fun(k:Nat)=>(((Mx.g A k p).natAbs:Nat):Int)).zip ((fZ A N top p).map fun(k:Nat)=>(k:Int))=(fZ A N top p).map fun k=>((((Mx.g A k p).natAbs:Nat):Int),(k:Int)):=by
  exact List.zip_map' ..
 rw[hz]at hp
 have hm:∀q∈os,∃k,k∈fZ A N top p∧q=((((Mx.g A k p).natAbs:Nat):Int),(k:Int)):=fun q hq=>by
  obtain⟨k,h1,h2⟩:=List.mem_map.mp (hp.mem_iff.mp hq)
  exact⟨k,h1,h2.symm⟩
 refine⟨⟨fun k=>?_,?_⟩,?_⟩
 · rw[←xV]
   constructor
   · intro h
     obtain⟨q,hq,e⟩:=List.mem_map.mp h
     obtain⟨j,h1,rfl⟩:=hm q hq
     simp only[Int.toNat_natCast]at e
     rw[←e];exact h1
   · intro h
     exact List.mem_map.mpr ⟨((((Mx.g A k p).natAbs:Nat):Int),(k:Int)),hp.mem_iff.mpr (List.mem_map.mpr ⟨k,h,rfl⟩),by simp⟩
 · rw[List.pairwise_map]
   refine hs.imp_of_mem fun{x y} hx hy h=>?_
   obtain⟨j,_,rfl⟩:=hm x hx
   obtain⟨k,_,rfl⟩:=hm y hy
   unfold slt at h
   simp only[Int.toNat_natCast]
   omega
 · rw[List.map_map]
   refine List.map_congr_left fun q hq=>?_
   obtain⟨j,_,rfl⟩:=hm q hq
   simp
theorem r_:∀ds st K,gu ds st K→ds.length=3∧tF {nx:=fun _ st'=>K .aA st',rt:=K} (a6 gq ds) st:=by
 rintro ds st K ⟨b,xb,xu,xc,N,w,top,p,A,U,C,f,rfl,B,hA,ht,hN,hp,hw,h0,k⟩
 refine⟨rfl,?_⟩
 have lA:=hA.len
 have rowA:∀i,i<N→(A.getD i []).length=w:=fun i hi=>Mx.cH hA hi
 refine cJ B.eb rfl (cv (az B.e1) ?_)
 rw[List.length_map,lA]
 refine Ia ⟨by omega,by omega,by omega,by omega⟩ ⟨bH (by unfold dD;simp;omega),?_⟩
 have er:((N:Int)-(top:Int)).toNat=N-top:=by omega
 rw[er]
 refine gd (fun rest acc st'=>∃i:Nat,i≤N-top∧st'=st∧rest=(List.range (N-top-i)).map (fun j=>D.int ((top+i+j:Nat):Int))∧acc=((List.range i).filterMap fun i=>if Mx.g A (top+i) p≠0 then some (top+i)else none).map fun(k:Nat)=>D.int (k:Int)) ?_ ?_ _ _ _ ⟨0,Nat.zero_le _,rfl,by unfold dD;simp,by simp⟩
 · rintro acc st' ⟨i,hi,rfl,hr,rfl⟩
   have hi':i=N-top:=by
    rcases Nat.lt_or_ge i (N-top)with z|z
    · rw[show N-top-i=(N-top-i-1)+1 by omega,List.range_succ_eq_map]at hr;cases hr
    · omega
   subst hi'
   refine⟨trivial,?_⟩
   have e1:((fZ A N top p).map fun(k:Nat)=>D.int (k:Int))=((fZ A N top p).map fun(k:Nat)=>(k:Int)).map D.int:=by rw[List.map_map];rfl
   refine⟨(fZ A N top p).map fun(k:Nat)=>(k:Int),(fZ A N top p).map fun(k:Nat)=>(((Mx.g A k p).natAbs:Nat):Int),f,congrArg D.lst e1,?_,?_,by rw[List.length_map,List.length_map],h0,fun i n q hn hq=>?_,fun os hp' hs=>?_⟩
   · rw[List.length_map]
     have:=ym (f:=fun i=>if Mx.g A (top+i) p≠0 then some (top+i)else none) (List.range (N-top))
     rw[List.length_range]at this
     show(fZ A N top p).length<64
     unfold fZ
     omega
   · rw[List.pairwise_map]
     exact pw_liveR.imp fun h=>by omega
   · rw[List.getElem?_map]at hn hq
     cases z:(fZ A N top p)[i]? with
     |none=>rw[z]at hn;cases hn
     |some j=>
      rw[z]at hn hq
      cases hn;cases hq
      obtain⟨j1,j2,j3⟩:=xV.mp (List.mem_of_getElem? z)
      have B1:=B.tab h0 (iz true)
      refine cJ B1.eb rfl (aH (az B1.e1) (dy (by omega)) (aH rfl (nV (by rw[rowA j j2];exact hp)) (EJ ⟨rfl,rfl⟩)))
   · obtain⟨h1,h2⟩:=IJ hp' hs
     rw[h2]
     exact k _ h1
 · rintro d rest acc st' ⟨i,hi,rfl,hr,rfl⟩ next
   have hlt:i<N-top:=by
    rcases Nat.lt_or_ge i (N-top)with z|z
    · exact z
    · rw[show N-top-i=0 by omega]at hr;cases hr
   rw[show N-top-i=(N-top-i-1)+1 by omega,List.range_succ_eq_map,List.map_cons,List.map_map]at hr
   obtain⟨rfl,rfl⟩:=List.cons.inj hr
   refine⟨trivial,_,rfl,?_⟩
   refine cJ B.eb rfl (aH (az B.e1) (dy (j:=top+i+0) (by omega)) (aH rfl (nV (by rw[rowA _ (by omega)];exact hp)) ?_))
   have e2:List.range (i+1)=List.range i++[i]:=List.range_succ
   have e3:((List.range (N-top-i-1)).map ((fun j=>D.int ((top+i+j:Nat):Int))∘Nat.succ))=(List.range (N-top-(i+1))).map fun j=>D.int ((top+(i+1)+j:Nat):Int):=by
    rw[show N-top-i-1=N-top-(i+1) by omega]
    refine List.map_congr_left fun j _=>?_
    show D.int ((top+i+(j+1):Nat):Int)=_
    rw[show top+i+(j+1)=top+(i+1)+j by omega]
   refine ne2 (fun h=>?_) fun h=>?_
   · refine(next _ _ ⟨i+1,by omega,rfl,e3,?_⟩)
     rw[e2,List.filterMap_append,List.map_append]
     have:Mx.g A (top+i) p≠0:=h
     simp[this]
   · refine(next _ _ ⟨i+1,by omega,rfl,e3,?_⟩)
     rw[e2,List.filterMap_append,List.map_append]
     have:Mx.g A (top+i) p=0:=h
     simp[this]
structure Bo(n0:Nat)(st st':af)(b xb xu xc:Nat):Prop where
 lo:1≤n0∧n0≤b∧n0≤xb∧n0≤xu∧n0≤xc
 fr:∀m,m<n0→m≠0→st'[m]?=st[m]?
 tb:∃f,st'[0]?=some (iz f)
noncomputable def k_:cC:=fun ds st K=>∃(n0 b xb xu xc N w top p e u:Nat) (A0 A U C:List (List Int)) (ld:Nat→Nat),ds=[.ref b,.int top,.int p]∧Bn st b xb xu xc A U C∧Bo n0 st st b xb xu xc∧Mx.mP A0 N w ⟨A,U,C⟩ top p ld e u∧N≤8∧w≤9∧p<w∧(N-top+1)*(e+1)≤60000000∧
 (∀st',Bn st' b xb xu xc A U C→Bo n0 st st' b xb xu xc→Mx.mM A N top p []→K (.bl false) st')∧
 ∀st' xb' xu' xc' (c:Mx.B3) (r:Nat),Bn st' b xb' xu' xc' (Mx.setB c p top r).A (Mx.setB c p top r).U (Mx.setB c p top r).C→Bo n0 st st' b xb' xu' xc'→Mx.jx N top p ⟨A,U,C⟩ c→Mx.mM c.A N top p [r]→top<N→
  Mx.wc A0 N w top p (2^((N-top+1)*(e+1))) ⟨A,U,C⟩ (Mx.setB c p top r)→K (.bl true) st'
noncomputable def jo:List Str:=["self","top","place","live","great","small"]
noncomputable def wQ:DS:=(aE (bz 3 (jC aF "live_rows" gu (ab 0) (ae (ab 1) (ae (ab 2) aj))))
 (aE (zW (aM (aw oF (bF cS (ae (ab 3) aj)) (dC (.int 1)))) (aE (bz 4 (aw bp (ab 3) (j9 fN (dC (.int 1)))))
 (aE (bz 5 (aw bp (ab 3) (j9 fN (dC (.int 2)))))
 (aE (jj (jC aF "take" kI (ab 0) (ae (ab 4) (ae (aG iN (ae (aw bp (aw bp (dN aF "body" (ab 0)) (ab 4)) (ab 2)) (ae (aw bp (aw bp (dN aF "body" (ab 0)) (ab 5)) (ab 2)) aj))) (ae (ab 5) aj)))))
 (bz 3 (jC aF "live_rows" gu (ab 0) (ae (ab 1) (ae (ab 2) aj))))))))
 (aE (cx (aM (aw eL (bF cS (ae (ab 3) aj)) (dC (.int 0)))) (ba (dC (.bl false))) bY)
 (aE (jj (jC aF "exchange" jS (ab 0) (ae (ab 1) (ae (aw bp (ab 3) (dC (.int 0))) aj))))
 (aE (cx (aM (aw oJ (aw bp (aw bp (dN aF "body" (ab 0)) (ab 1)) (ab 2)) (dC (.int 0)))) (jj (jC aF "change_sign" iC (ab 0) (ae (ab 1) aj))) bY)
 (ba (dC (.bl true))))))))
theorem Bo.Lk{n0:Nat}{st st':af}{b xb xu xc:Nat}(h:Bo n0 st st' b xb xu xc):Bo n0 st (st'.set 0 (iz true)) b xb xu xc:=
 ⟨h.lo,fun m hm h0=>by rw[List.getElem?_set_ne (Ne.symm h0)];exact h.fr m hm h0,true,by
  obtain⟨f,e⟩:=h.tb
  exact List.getElem?_set_self (List.getElem?_eq_some_iff.mp e).1⟩
theorem Bo.low{n0:Nat}{st st1 st2:af}{b xb xu xc:Nat}(h:Bo n0 st st1 b xb xu xc)(f:∀m,m≠xb→m≠xu→m≠xc→st2[m]?=st1[m]?):Bo n0 st st2 b xb xu xc:=by
 obtain⟨l1,l2,l3,l4,l5⟩:=h.lo
 refine⟨h.lo,fun m hm h0=>?_,?_⟩
 · rw[f m (by omega) (by omega) (by omega)];exact h.fr m hm h0
 · obtain⟨z,e⟩:=h.tb
   exact⟨z,by rw[f 0 (by omega) (by omega) (by omega)];exact e⟩
theorem wA{X:List (List Int)}{N w top m i:Nat}(hX:Mx.cu N w X)(h:Mx.jE X N top m)(hi:top≤i)(hN:i<N):∀x∈X.getD i [],x.natAbs≤m:=fun x hx=>by
 obtain⟨c,hc,rfl⟩:=List.mem_iff_getElem.mp hx
 have:=h i c hi hN
 unfold Mx.g at this
 rwa [Mx.aS hc]at this
theorem nI{n j:Nat}(h:1≤j)(h2:j≤n):jA n (-(j:Int))=some (n-j):=by
 unfold jA
 rw[if_neg (by omega),if_pos (by omega)]
 congr 1
 omega
theorem MC{L:List Nat}{j k:Nat}:dQ ((L++[j,k]).map fun(k:Nat)=>D.int (k:Int)) (-1)=some (.int (k:Int)):=by
 unfold dQ
 have:=nI (n:=((L++[j,k]).map fun(k:Nat)=>D.int (k:Int)).length) (j:=1) (by decide) (by simp)
 rw[show(-((1:Nat):Int))= -1 from rfl]at this
 rw[this]
 simp
theorem MJ{L:List Nat}{j k:Nat}:dQ ((L++[j,k]).map fun(k:Nat)=>D.int (k:Int)) (-2)=some (.int (j:Int)):=by
 unfold dQ
 have:=nI (n:=((L++[j,k]).map fun(k:Nat)=>D.int (k:Int)).length) (j:=2) (by decide) (by simp)
 rw[show(-((2:Nat):Int))= -2 from rfl]at this
 rw[this]
 simp
theorem F2:∀ {L:List Nat},1<L.length→∃M j k,L=M++[j,k]:=fun{L} h=>by
 refine⟨L.take (L.length-2),L[L.length-2]'(by omega),L[L.length-1]'(by omega),?_⟩
 have e1:L=L.take (L.length-2)++L.drop (L.length-2):=(List.take_append_drop _ _).symm
 have e2:L.drop (L.length-2)=[L[L.length-2]'(by omega),L[L.length-1]'(by omega)]:=by
  rw[List.drop_eq_getElem_cons (by omega),List.drop_eq_getElem_cons (by omega),List.drop_eq_nil_of_le (by omega)]
  congr 2
  congr 1
  omega
 rw[←e2];exact e1
theorem vx:∀ds st K,k_ ds st K→ds.length=3∧wQ {nx:=fun _ st'=>K .aA st',rt:=K} (a6 jo ds) st:=by
 rintro ds st K ⟨n0,b,xb,xu,xc,N,w,top,p,e,u,A0,A,U,C,ld,rfl,B,O,S,hN,hw,hp,hz,kf,kt⟩
 refine⟨rfl,?_⟩
 have hle:=S.le
 obtain⟨f,h0⟩:=O.tb
 refine ki B.eb rfl ?_
 refine⟨b,xb,xu,xc,N,w,top,p,A,U,C,f,rfl,B,S.tn.isA,hle,hN,hp,hw,h0,fun L hL=>?_⟩
 have B1:=B.tab h0 (iz true)
 have O1:=O.Lk
 try dsimp only[aj]
 refine dk (fun σ st'=>∃(L:List Nat) (v4 v5:Option D) (c:Mx.B3) (gr:Nat),σ=[some (.ref b),some (.int top),some (.int p),some (.lst (L.map fun(k:Nat)=> .int (k:Int))),v4,v5]∧L.length≤1∧Bn st' b xb xu xc c.A c.U c.C∧Bo n0 st st' b xb xu xc∧Mx.jx N top p ⟨A,U,C⟩ c∧Mx.tW A0 N w top p (2^e) ⟨A,U,C⟩ c gr∧Mx.mM c.A N top p L) (fun nx hnx=>?_) ?_
 · refine⟨fun m σ st'=>∃(L:List Nat) (v4 v5:Option D) (c:Mx.B3) (gr:Nat),σ=[some (.ref b),some (.int top),some (.int p),some (.lst (L.map fun(k:Nat)=> .int (k:Int))),v4,v5]∧Bn st' b xb xu xc c.A c.U c.C∧Bo n0 st st' b xb xu xc∧Mx.jx N top p ⟨A,U,C⟩ c∧Mx.tW A0 N w top p (2^e) ⟨A,U,C⟩ c gr∧Mx.mM c.A N top p L∧m=Mx.mu c.A N p,⟨_,L,none,none,⟨A,U,C⟩,1,rfl,B1,O1,.refl _,S.OZ,hL,rfl⟩,?_⟩
   rintro m σ st1 ⟨L,v4,v5,c,gr,rfl,B,O,hR,hG,hL,rfl⟩
   refine cv rfl ?_
   rw[List.length_map]
   refine Lo (fun h=>dc ?_) fun h=>uT (hnx _ _ ⟨L,v4,v5,c,gr,rfl,by omega,B,O,hR,hG,hL⟩)
   obtain⟨M,j,k,rfl⟩:=F2 (L:=L) (by omega)
   refine eW (aH rfl MC (eW (aH rfl MJ ?_)))
   obtain⟨G2,hlt,hoth,k1,k2,j1,j2,hjk,hj0⟩:=hG.step hp hL
   have T:=hG.tn
   have lA:=T.isA.len
   have hlow:=G2.low S.lo.1
   refine ki B.eb rfl (cJ B.eb rfl (aH (az B.e1) (dy (by omega)) (aH rfl (nV (by rw[Mx.cH T.isA k2];exact hp)) (cJ B.eb rfl (aH (az B.e1) (dy (by omega)) (aH rfl (nV (by rw[Mx.cH T.isA j2];exact hp)) ?_))))))
   refine⟨_,_,rfl,hj0,?_⟩
   have hq:(Mx.qn (Mx.g c.A k p) (Mx.g c.A j p)).natAbs≤2^((N-top+1)*(e+1)):=by
    refine Nat.le_trans ?_ hlow
    have a1:=hG.pos
    have a2:1≤2^e:=Nat.one_le_two_pow
    have a3:1*(Mx.qn (Mx.g c.A k p) (Mx.g c.A j p)).natAbs≤gr*(1+(Mx.qn (Mx.g c.A k p) (Mx.g c.A j p)).natAbs):=Nat.mul_le_mul a1 (by omega)
    have a4:=Nat.mul_le_mul a2 a3
    omega
   have hx:2^e*gr≤2^((N-top+1)*(e+1)):=hG.low S.lo.1
   have hm:∀ {x:Int},x.natAbs≤2^e*gr→IntMulOk (Mx.qn (Mx.g c.A k p) (Mx.g c.A j p)) x∧IntMulOk (-(Mx.qn (Mx.g c.A k p) (Mx.g c.A j p))) x:=fun{x} h=>
    ⟨jg hq (Nat.le_trans h hx) (by omega),jg (by rw[Int.natAbs_neg];exact hq) (Nat.le_trans h hx) (by omega)⟩
   refine⟨b,xb,xu,xc,N,w,k,j,c.A,c.U,c.C,_,rfl,B,T.isA,T.dH,T.eZ,k2,j2,hN,hw,fun x hx=>(hm (wA T.isA hG.lA j1 j2 x hx)).2,fun x hx=>(hm (wA T.dH hG.lU j1 j2 x hx)).2,fun x hx=>(hm (wA T.eZ hG.lC k1 k2 x hx)).1,fun st2 B2 l2 f2=>?_⟩
   have O2:=O.low f2
   obtain⟨f',h0'⟩:=O2.tb
   refine ki B2.eb rfl ?_
   refine⟨b,xb,xu,xc,N,w,top,p,_,_,_,f',rfl,B2,G2.tn.isA,hle,hN,hp,hw,h0',fun L2 hL2=>?_⟩
   refine⟨_,?_,L2,_,_,Mx.kF c p k j,_,rfl,B2.tab h0' (iz true),O2.Lk,hR.tail ⟨M,k,j,hL,rfl⟩,G2,hL2,rfl⟩
   unfold Mx.mu
   refine Mx.GK (k:=k) hlt k2 fun i hi=>?_
   by_cases h:i=k
   · rw[h];exact Nat.le_of_lt hlt
   · rw[hoth i h];exact Nat.le_refl _
 · rintro σ st1 ⟨L,v4,v5,c,gr,rfl,hl,B,O,hR,hG,hL⟩
   refine cv rfl ?_
   rw[List.length_map]
   match L,hl,hL with
   | [],_,hL=>
     refine eq2 (fun h=>dc ?_) fun h=>absurd rfl h
     have e0:c=⟨A,U,C⟩:=by
      rcases hG.Ng with z|⟨j,h1,h2,h3⟩
      · exact z
      · exact absurd ((hL.mem j).mpr ⟨h1,h2,h3⟩) (by simp)
     subst e0
     exact kf st1 B O hL
   | [r],_,hL=>
     refine eq2 (fun h=>absurd h (by simp)) fun h=>uT ?_
     obtain⟨s1,hr1,hr2⟩:=hG.set hL
     have ht:top<N:=by omega
     have T:=hG.tn
     have s2:Mx.wc A0 N w top p (2^((N-top+1)*(e+1))) ⟨A,U,C⟩ (Mx.setB c p top r):=by
      have hlow:=hG.low S.lo.1
      exact⟨s1.tn,s1.up,⟨fun i q h1 h2=>Nat.le_trans (s1.lo.1 i q h1 h2) hlow,fun i q h1 h2=>Nat.le_trans (s1.lo.2.1 i q h1 h2) hlow,fun i q h1 h2=>Nat.le_trans (s1.lo.2.2 i q h1 h2) hlow⟩,s1.zs,s1.tp,s1.z1⟩
     refine ki B.eb rfl (aH rfl (show dQ ([r].map fun(k:Nat)=>D.int (k:Int)) 0=some (.int (r:Int))from rfl) ?_)
     refine⟨b,xb,xu,xc,N,w,top,r,c.A,c.U,c.C,rfl,B,T.isA,T.dH,T.eZ,ht,hr2,fun st2 B2 l2 f2=>?_⟩
     obtain⟨l1,l2',l3,l4,l5⟩:=O.lo
     have hst:n0≤st1.length:=by
      have:=(List.getElem?_eq_some_iff.mp B.eb).1
      omega
     have O2:Bo n0 st st2 b st1.length (st1.length+1) (st1.length+2):=by
      refine⟨⟨l1,l2',by omega,by omega,by omega⟩,fun m hm h0=>?_,?_⟩
      · rw[f2 m (by omega) (by omega)];exact O.fr m hm h0
      · obtain⟨z,e⟩:=O.tb
        exact⟨z,by rw[f2 0 (by omega) (by omega)];exact e⟩
     have T1:=T.GQ ht hr2
     refine cJ B2.eb rfl (aH (az B2.e1) (dy (by have:=T1.isA.len;omega)) (aH rfl (nV (by rw[Mx.cH T1.isA ht];exact hp)) ?_))
     refine OR (fun h=>dc ?_) fun h=>uT ?_
     · have es:Mx.setB c p top r=⟨Mx.gv (Mx.bO c.A top r) top,Mx.gv (Mx.bO c.U top r) top,Mx.gv (Mx.bO c.C top r) top⟩:=if_pos h
       refine ki B2.eb rfl ?_
       refine⟨b,_,_,_,N,w,top,_,_,_,rfl,B2,T1.isA,T1.dH,T1.eZ,ht,hN,hw,fun st3 B3 l3 f3=>?_⟩
       exact kt st3 _ _ _ c r (by rw[es];exact B3) (O2.low f3) hR hL ht s2
     · have es:Mx.setB c p top r=⟨Mx.bO c.A top r,Mx.bO c.U top r,Mx.bO c.C top r⟩:=if_neg (fun z=>by unfold Mx.g at z;omega)
       exact kt st2 _ _ _ c r (by rw[es];exact B2) O2 hR hL ht s2
noncomputable def iw:cC:=fun ds st K=>∃(b xb xu xc N w top p e u:Nat) (A0 A U C:List (List Int)),ds=[.ref b,.int top,.int p]∧Bn st b xb xu xc A U C∧Mx.Tn A0 A U C N w∧N≤8∧w≤9∧p<w∧top<N∧0<Mx.g A top p∧(∀q,q<p→Mx.g A top q=0)∧
 (∀q,(Mx.g A top q).natAbs≤2^e∧(Mx.g U top q).natAbs≤2^e∧(Mx.g C top q).natAbs≤2^e)∧(∀i q,i<top→(Mx.g A i q).natAbs≤2^u∧(Mx.g U i q).natAbs≤2^u∧(Mx.g C i q).natAbs≤2^u)∧e≤60000000∧u≤60000000∧
 ∀st',Bn st' b xb xu xc (Mx.mL p top top ⟨A,U,C⟩).A (Mx.mL p top top ⟨A,U,C⟩).U (Mx.mL p top top ⟨A,U,C⟩).C→(∀m,m≠xb→m≠xu→m≠xc→st'[m]?=st[m]?)→Mx.qr A0 N w top p e u ⟨A,U,C⟩ top (Mx.mL p top top ⟨A,U,C⟩)→K .aA st'
noncomputable def fL:List Str:=["self","top","place","k"]
noncomputable def qO:DS:=(i9 (eA (ae (ab 1) aj)) (bB 3) (jj (jC aF "take" kI (ab 0) (ae (ab 3) (ae (aw pH (aw bp (aw bp (dN aF "body" (ab 0)) (ab 3)) (ab 2)) (aw bp (aw bp (dN aF "body" (ab 0)) (ab 1)) (ab 2))) (ae (ab 1) aj))))))
theorem yu{X:List (List Int)}{i:Nat}{x:Int}(hx:x∈X.getD i []):∃q,x=Mx.g X i q:=by
 obtain⟨c,hc,rfl⟩:=List.mem_iff_getElem.mp hx
 exact⟨c,by unfold Mx.g;rw[Mx.aS hc]⟩
theorem qk:∀ds st K,iw ds st K→ds.length=3∧qO {nx:=fun _ st'=>K .aA st',rt:=K} (a6 fL ds) st:=by
 rintro ds st K ⟨b,xb,xu,xc,N,w,top,p,e,u,A0,A,U,C,rfl,B,T,hN,hw,hp,ht,htp,hz,hlo,hhi,he,hu,kk⟩
 refine⟨rfl,?_⟩
 refine fB ⟨by omega,by omega⟩ ?_
 rw[Int.toNat_natCast]
 refine iR top (fun k σ st'=>∃v3:Option D,σ=[some (.ref b),some (.int top),some (.int p),v3]∧Bn st' b xb xu xc (Mx.mL p top k ⟨A,U,C⟩).A (Mx.mL p top k ⟨A,U,C⟩).U (Mx.mL p top k ⟨A,U,C⟩).C∧(∀m,m≠xb→m≠xu→m≠xc→st'[m]?=st[m]?)∧Mx.qr A0 N w top p e u ⟨A,U,C⟩ k (Mx.mL p top k ⟨A,U,C⟩)) ?_ ?_ ⟨none,rfl,B,fun _ _ _ _=>rfl,Mx.qr.start T fun q=>(hlo q).2.2⟩
 · rintro σ st' ⟨v3,rfl,B',f,I⟩
   exact kk st' B' f I
 · rintro k σ st' rest hk ⟨v3,rfl,B',f,I⟩ next
   refine⟨_,rfl,?_⟩
   have hs:=I.step hk ht hp htp hz (fun q=>⟨(hlo q).1,(hlo q).2.1⟩) hhi
   generalize hc:Mx.mL p top k ⟨A,U,C⟩=c at*
   have lA:=I.tn.isA.len
   have kN:k<N:=by omega
   have gA:∀i q,k≤i→Mx.g c.A i q=Mx.g A i q:=fun i q hi=>by unfold Mx.g;rw[(I.rA i hi).1]
   have gU:∀i q,k≤i→Mx.g c.U i q=Mx.g U i q:=fun i q hi=>by unfold Mx.g;rw[(I.rA i hi).2]
   have gC:∀i q,i≠top→Mx.g c.C i q=Mx.g C i q:=fun i q hi=>by unfold Mx.g;rw[I.rC i hi]
   have hq:((Mx.g c.A k p).fdiv (Mx.g c.A top p)).natAbs≤2^u:=by
    rw[gA k p (Nat.le_refl _),gA top p (by omega)]
    exact Nat.le_trans (Mx.Ac _ htp) (hhi k p hk).1
   have htp':Mx.g c.A top p≠0:=by rw[gA top p (by omega)];omega
   refine ki B'.eb rfl (cJ B'.eb rfl (aH (az B'.e1) (dy (by omega)) (aH rfl (nV (by rw[Mx.cH I.tn.isA kN];exact hp)) (cJ B'.eb rfl (aH (az B'.e1) (dy (by omega)) (aH rfl (nV (by rw[Mx.cH I.tn.isA ht];exact hp)) (zd htp' ?_)))))))
   refine⟨b,xb,xu,xc,N,w,k,top,c.A,c.U,c.C,_,rfl,B',I.tn.isA,I.tn.dH,I.tn.eZ,kN,ht,hN,hw,fun x hx=>?_,fun x hx=>?_,fun x hx=>?_,fun st2 B2 l2 f2=>?_⟩
   · obtain⟨q,rfl⟩:=yu hx
     rw[gA top q (by omega)]
     exact jg (by rw[Int.natAbs_neg];exact hq) (hlo q).1 (by omega)
   · obtain⟨q,rfl⟩:=yu hx
     rw[gU top q (by omega)]
     exact jg (by rw[Int.natAbs_neg];exact hq) (hlo q).2.1 (by omega)
   · obtain⟨q,rfl⟩:=yu hx
     rw[gC k q (by omega)]
     exact jg hq (hhi k q hk).2.2 (by omega)
   · have el:Mx.mL p top (k+1) ⟨A,U,C⟩=⟨Mx.bw c.A k ((Mx.g c.A k p).fdiv (Mx.g c.A top p)) top,Mx.bw c.U k ((Mx.g c.A k p).fdiv (Mx.g c.A top p)) top,Mx.bw c.C top (-((Mx.g c.A k p).fdiv (Mx.g c.A top p))) k⟩:=by rw[←hc];rfl
     refine next _ _ ⟨_,rfl,?_,fun m h1 h2 h3=>(f2 m h1 h2 h3).trans (f m h1 h2 h3),?_⟩
     · rw[el];exact B2
     · rw[el];exact hs
structure Bk(st st':af):Prop where
 le:st.length≤st'.length
 fr:∀m,m<st.length→m≠0→st'[m]?=st[m]?
 tb:∃f,st'[0]?=some (iz f)
noncomputable def qi:cC:=fun ds st K=>∃(d:D) (N w e0:Nat) (A:List (List Int)) (f:Bool),ds=[d]∧cV st d A∧Mx.cu N w A∧1≤N∧N≤8∧w≤9∧Mx.jE A N 0 (2^e0)∧(∀t,t≤N→Mx.Ez N e0 t≤50000000∧Mx.Vz N e0 t≤60000000)∧st[0]?=some (iz f)∧
 ∀st' (top:Nat) (c:Mx.B3) (ld:Nat→Nat),Mx.wj A N w top c→Mx.mP A N w c top w ld (Mx.Ez N e0 top) (Mx.Vz N e0 top)→Bk st st'→K (.tup [aL (c.A.take top),aL c.U,aL (Mx.dZ c.C N)]) st'
noncomputable def nj:List Str:=["rows","bench","top","place","back"]
noncomputable def C3:DS:=(aE (bz 1 (CN aF jV (ae (ab 0) aj)))
 (aE (bz 2 (dC (.int 0)))
 (aE (i9 (eA (ae (bF cS (ae (aw bp (ab 0) (dC (.int 0))) aj)) aj)) (bB 3) (cx (aM (jC aF "gather" k_ (ab 1) (ae (ab 2) (ae (ab 3) aj)))) (aE (jj (jC aF "lower_above" iw (ab 1) (ae (ab 2) (ae (ab 3) aj))))
 (CB 2 (zJ (fun i j=>i+j)) (dC (.int 1)))) bY))
 (aE (bz 4 (aG mG (ae (dN aF "back_columns" (ab 1)) (ae (bF cS (ae (ab 0) aj)) aj))))
 (ba (iy (ae (aG mv (ae (r9 (dN aF "body" (ab 1)) pJ (vM (ab 2))) aj)) (ae (aG mv (ae (dN aF "turn" (ab 1)) aj)) (ae (ab 4) aj)))))))))
theorem xk{st st':af}{f:Bool}(h0:st[0]?=some (iz f))(fr:∀m,m<st.length→m≠0→st'[m]?=st[m]?){d:D}{xs:List D}(h:items? st d=some xs):items? st' d=some xs:=by
 cases d with
 |ref n=>
  have e:=mn h
  have n0:n≠0:=sv e h0
  rw[az ((fr n (List.getElem?_eq_some_iff.mp e).1 n0).trans e)]
 |_=>exact h
theorem xB{st st':af}{f:Bool}(h0:st[0]?=some (iz f))(fr:∀m,m<st.length→m≠0→st'[m]?=st[m]?):∀ {ds:List D} {A:List (List Int)},br st ds A→br st' ds A
 | [],[],_=>trivial
 |_::_,_::_,h=>⟨xk h0 fr h.1,xB h0 fr h.2⟩
theorem u5{st st':af}{f:Bool}(h0:st[0]?=some (iz f))(fr:∀m,m<st.length→m≠0→st'[m]?=st[m]?){d:D}{A:List (List Int)}(h:cV st d A):cV st' d A:=by
 obtain⟨ds,h1,h2⟩:=h.ex
 exact⟨ds,xk h0 fr h1,xB h0 fr h2⟩
theorem Lx{xs:List D}{j:Nat}:L3.cutD xs none (some (j:Int))=xs.take j:=by
 unfold L3.cutD
 rw[HT.BD,HT.yR,List.drop_zero,Nat.sub_zero]
 by_cases h:j≤xs.length
 · rw[Nat.min_eq_left h]
 · rw[Nat.min_eq_right (by omega),List.take_length,List.take_of_length_le (by omega)]
theorem AK:∀ds st K,qi ds st K→ds.length=1∧C3 {nx:=fun _ st'=>K .aA st',rt:=K} (a6 nj ds) st:=by
 rintro ds st K ⟨d,N,w,e0,A,f,rfl,hd,hA,hN1,hN,hw,hlo,hsz,h0,kk⟩
 refine⟨rfl,?_⟩
 have lA:=hA.len
 have h0l:0<st.length:=(List.getElem?_eq_some_iff.mp h0).1
 have hd1:cV (st++[Cell.ins aF []]) d A:=u5 h0 (fun m hm _=>List.getElem?_append_left hm) hd
 refine⟨st.length,N,d,A,rfl,by simp,hd1,lA,hN,fun st1 B1 l1 f1=>⟨rfl,?_⟩⟩
 have hl1:(st++[Cell.ins aF []]).length=st.length+1:=by simp
 have fr1:∀m,m<st.length→st1[m]?=st[m]?:=fun m hm=>by rw[f1 m (by omega) (by omega),List.getElem?_append_left hm]
 have O1:Bo st.length st st1 st.length (st.length+1) (st.length+1+1) (st.length+1+2):=⟨⟨h0l,by omega,by omega,by omega,by omega⟩,fun m hm _=>fr1 m hm,f,(fr1 0 h0l).trans h0⟩
 rw[hl1]at B1
 have hdk:∀ {st':af},(∀m,m<st.length→m≠0→st'[m]?=st[m]?)→cV st' d A:=fun h=>u5 h0 h hd
 obtain⟨da,hda,hra⟩:=(hdk O1.fr).ex
 have hdl:=hra.len
 have hrow0:∃d0,da[0]?=some d0∧items? st1 d0=some (aB (A.getD 0 [])):=by
  have hi:0<da.length:=by omega
  obtain⟨r,e1,e2⟩:=br.get hra (List.getElem?_eq_getElem hi)
  refine⟨da[0],List.getElem?_eq_getElem hi,?_⟩
  have:A.getD 0 []=r:=by rw[List.getD_eq_getElem?_getD,e1];rfl
  rw[this];exact e2
 obtain⟨d0,hd0,hi0⟩:=hrow0
 have er:(aB (A.getD 0 [])).length=w:=by unfold aB;rw[List.length_map];exact Mx.cH hA (by omega)
 try dsimp only[aj]
 refine dk (A:=bz 2 _) (fun σ st'=>σ=[some d,some (.ref st.length),some (.int 0),none,none]∧st'=st1) (fun nx h=>h _ _ ⟨rfl,rfl⟩) ?_
 rintro _ _ ⟨rfl,rfl⟩
 refine dk (A:=i9 _ _ _) (fun σ st'=>∃(top xb xu xc:Nat) (v3:Option D) (c:Mx.B3) (ld:Nat→Nat),σ=[some d,some (.ref st.length),some (.int top),v3,none]∧Bn st' st.length xb xu xc c.A c.U c.C∧Bo st.length st st' st.length xb xu xc∧Mx.wj A N w top c∧Mx.mP A N w c top w ld (Mx.Ez N e0 top) (Mx.Vz N e0 top)) (fun nx hnx=>?_) ?_
 · refine aH hda (show dQ da 0=some d0 from gz (j:=0) hd0) (cv hi0 ?_)
   rw[er]
   refine fB ⟨by omega,by omega⟩ ?_
   rw[Int.toNat_natCast]
   refine iR w (fun p σ st'=>∃(top xb xu xc:Nat) (v3:Option D) (c:Mx.B3) (ld:Nat→Nat),σ=[some d,some (.ref st.length),some (.int top),v3,none]∧Bn st' st.length xb xu xc c.A c.U c.C∧Bo st.length st st' st.length xb xu xc∧Mx.wj A N p top c∧Mx.mP A N w c top p ld (Mx.Ez N e0 top) (Mx.Vz N e0 top)) ?_ ?_ ⟨0,_,_,_,none,⟨A,Mx.units N,Mx.units N⟩,fun _=>0,rfl,B1,O1,.start,Mx.mP.start hA hlo⟩
   · rintro σ st' ⟨top,xb,xu,xc,v3,c,ld,rfl,B,O,hC,S⟩
     exact hnx _ _ ⟨top,xb,xu,xc,v3,c,ld,rfl,B,O,hC,S⟩
   · rintro p σ st' rest hp ⟨top,xb,xu,xc,v3,c,ld,rfl,B,O,hC,S⟩ next
     refine⟨_,rfl,?_⟩
     have hle:=S.le
     have hz1:(N-top+1)*(Mx.Ez N e0 top+1)≤60000000:=by
      by_cases ht:top<N
      · exact Nat.le_trans (hsz (top+1) ht).1 (by decide)
      · have e:N-top=0:=by omega
        rw[e]
        have:=(hsz top hle).1
        omega
     refine ki B.eb rfl ?_
     refine⟨st.length,st.length,xb,xu,xc,N,w,top,p,_,_,A,c.A,c.U,c.C,ld,rfl,B,⟨O.lo,fun _ _ _=>rfl,O.tb⟩,S,hN,hw,hp,hz1,fun st2 B2 O2 hL=>?_,fun st2 xb2 xu2 xc2 c2 r B2 O2 hR hL ht s1=>?_⟩
     · exact uT (next _ _ ⟨top,xb,xu,xc,_,c,ld,rfl,B2,⟨O2.lo,fun m h1 h2=>(O2.fr m h1 h2).trans (O.fr m h1 h2),O2.tb⟩,.next hC (.none hL),S.skip hL⟩)
     · refine dc ?_
       have O2':Bo st.length st st2 st.length xb2 xu2 xc2:=⟨O2.lo,fun m h1 h2=>(O2.fr m h1 h2).trans (O.fr m h1 h2),O2.tb⟩
       have hup:∀i q,i<top→Mx.g (Mx.setB c2 p top r).A i q=Mx.g c.A i q∧Mx.g (Mx.setB c2 p top r).U i q=Mx.g c.U i q∧Mx.g (Mx.setB c2 p top r).C i q=Mx.g c.C i q:=fun i q hi=>by
        obtain⟨a1,a2,a3⟩:=s1.up i hi
        unfold Mx.g
        rw[a1,a2,a3]
        exact⟨rfl,rfl,rfl⟩
       refine ki B2.eb rfl ?_
       refine⟨st.length,xb2,xu2,xc2,N,w,top,p,Mx.Ez N e0 (top+1),Mx.Vz N e0 top,A,_,_,_,rfl,B2,s1.tn,hN,hw,hp,ht,s1.tp,fun q hq=>s1.zs top q (Nat.le_refl _) ht hq,fun q=>⟨s1.lo.1 top q (Nat.le_refl _) ht,s1.lo.2.1 top q (Nat.le_refl _) ht,s1.lo.2.2 top q (Nat.le_refl _) ht⟩,fun i q hi=>?_,Nat.le_trans (hsz (top+1) ht).1 (by decide),Nat.le_trans (hsz top hle).2 (by decide),fun st3 B3 f3 I=>?_⟩
       · obtain⟨a1,a2,a3⟩:=hup i q hi
         rw[a1,a2,a3]
         exact S.hi i q hi
       · have hS:=Mx.wc.next (e':=Mx.Ez N e0 (top+1)) (u':=Mx.Vz N e0 (top+1)) S s1 ht I hN (by show _≤Mx.Vz N e0 top+Mx.Vz N e0 top+Mx.Ez N e0 (top+1)+5;omega) (by show _≤Mx.Vz N e0 top+Mx.Vz N e0 top+Mx.Ez N e0 (top+1)+5;omega)
         exact next _ _ ⟨top+1,xb2,xu2,xc2,_,_,_,rfl,B3,O2'.low f3,.next hC (.one hR hL),hS⟩
 · rintro σ st2 ⟨top,xb,xu,xc,v3,c,ld,rfl,B,O,hC,S⟩
   have T:=S.tn
   have lN:=T.isA.len
   refine cJ B.eb rfl ?_
   obtain⟨da2,hda2,hra2⟩:=(hdk O.fr).ex
   refine cv hda2 ?_
   rw[hra2.len,lA]
   refine⟨_,c.C,N,rfl,⟨_,az B.e3,br.lst⟩,T.eZ.gW,by rw[T.eZ.len];omega,by omega,?_⟩
   refine cJ B.eb rfl (xS B.e1 ?_)
   rw[Lx,←List.map_take]
   refine⟨_,c.A.take top,rfl,⟨_,rfl,br.lst⟩,by rw[List.length_take];omega,?_⟩
   refine cJ B.eb rfl ?_
   refine⟨_,c.U,rfl,⟨_,az B.e2,br.lst⟩,by rw[T.dH.len];omega,?_⟩
   refine⟨by show 3≤sizeLine;decide,?_⟩
   refine kk st2 top c ld hC S ⟨?_,O.fr,O.tb⟩
   have:=(List.getElem?_eq_some_iff.mp B.eb).1
   omega
structure r8(st:af)(d:D):Prop where
 any:Any st d
 au:∀xs,items? st d=some xs→∀x∈xs,jD st x∧oZ st x
noncomputable def Aw(st:af)(A:List (List Int))(N w:Nat)(f t b:D):Bool:=
 cR st f .aA w&&(di [] (-1) (rowsOf st f)&&(tX st t b N&&decide (Mx.mulM (rowsOf st t) A w=rowsOf st f++kU (N-(rowsOf st f).length) w)))
noncomputable def pD(st:af)(A:List (List Int))(N w:Nat)(d:D):Bool:=match items? st d with
 |some [f,t,b]=>Aw st A N w f t b
 |_=>false
theorem Ab{st:af}{A:List (List Int)}{N w:Nat}{d:D}(e:items? st d=none):pD st A N w d=false:=by unfold pD;rw[e]
theorem A_{st:af}{A:List (List Int)}{N w:Nat}{d:D}{xs:List D}(e:items? st d=some xs)(h:xs.length≠3):pD st A N w d=false:=by
 unfold pD;rw[e]
 match xs,h with
 | [],_=>rfl
 | [_],_=>rfl
 | [_,_],_=>rfl
 | [_,_,_],h=>exact absurd rfl h
 |_::_::_::_::_,_=>rfl
theorem uB{st:af}{A:List (List Int)}{N w:Nat}{d f t b:D}(e:items? st d=some [f,t,b]):pD st A N w d=Aw st A N w f t b:=by unfold pD;rw[e]
theorem yO{xs:List D}(h:xs.length=3):∃f t b,xs=[f,t,b]:=by
 match xs,h with
 | [f,t,b],_=>exact⟨f,t,b,rfl⟩
noncomputable def fG:cC:=fun ds st K=>∃(d x:D) (A:List (List Int)) (N w:Nat),ds=[d,x]∧cV st d A∧Mx.cu N w A∧1≤N∧N≤8∧w≤9∧(∀r∈A,∀c∈r,c.natAbs≤2^48)∧r8 st x∧K (.bl (pD st A N w x)) st
noncomputable def g8:List Str:=["rows","told","many","wide","form","turn"]
noncomputable def uQ:DS:=(aE (bz 2 (bF cS (ae (ab 0) aj)))
 (aE (bz 3 (bF cS (ae (aw bp (ab 0) (dC (.int 0))) aj)))
 (aE (cx (d7 (aM (aG je (ae (ab 1) (ae (dC (.int 3)) aj))))) (ba (dC (.bl false))) bY)
 (aE (bz 4 (aw bp (ab 1) (dC (.int 0))))
 (aE (bz 5 (aw bp (ab 1) (dC (.int 1))))
 (aE (cx (gD (d7 (aM (aG kc (ae (ab 4) (ae (dC .aA) (ae (ab 3) aj)))))) (d7 (aM (aG mH (ae (ab 4) aj))))) (ba (dC (.bl false))) bY)
 (aE (cx (d7 (aM (aG nF (ae (ab 5) (ae (aw bp (ab 1) (dC (.int 2))) (ae (ab 2) aj)))))) (ba (dC (.bl false))) bY)
 (ba (aw eL (aG oS (ae (ab 5) (ae (ab 0) aj))) (aw dE (aG mv (ae (ab 4) aj)) (aG mK (ae (aw mE (ab 2) (bF cS (ae (ab 4) aj))) (ae (ab 3) aj)))))))))))))
theorem tD:∀ds st K,fG ds st K→ds.length=2∧uQ {nx:=fun _ st'=>K .aA st',rt:=K} (a6 g8 ds) st:=by
 rintro ds st K ⟨d,x,A,N,w,rfl,hd,hA,hN1,hN,hw,hlo,hx,k⟩
 refine⟨rfl,?_⟩
 obtain⟨da,hda,ra⟩:=hd.ex
 have ld:da.length=N:=by rw[ra.len];exact hA.len
 obtain⟨e0,ee0,he0⟩:=ra.at (k:=0) (by rw[hA.len];omega)
 have h0w:(A.getD 0 []).length=w:=hA.gW _ (by rw[Mx.aS (by rw[hA.len];omega)];exact List.getElem_mem _)
 refine cv hda ?_
 rw[ld]
 refine aH hda ee0 (cv he0 ?_)
 rw[List.length_map,h0w]
 refine⟨x,3,rfl,hx.any,?_⟩
 cases e:items? st x with
 |none=>rw[Ab e]at k;exact k
 |some xs=>
  by_cases h3:xs.length=3
  · obtain⟨f,t,b,rfl⟩:=yO h3
    rw[uB e]at k
    unfold Aw at k
    obtain⟨tf,bf⟩:=hx.au _ e f (by simp)
    obtain⟨tt,bt⟩:=hx.au _ e t (by simp)
    obtain⟨tb,bb⟩:=hx.au _ e b (by simp)
    refine wb ?_
    refine aH e rfl ?_
    refine aH e rfl ?_
    refine⟨f,.aA,(w:Int),rfl,tf,.inl rfl,?_⟩
    cases e1:cR st f .aA w with
    |false=>rw[e1]at k;exact k
    |true=>
     rw[e1]at k
     obtain⟨Rf,wf,fs,ef,lf⟩:=tN e1
     have lf2:=bf.le fs ef
     refine⟨f,rowsOf st f,w,rfl,Rf,wf,by omega,?_⟩
     cases e2:di [] (-1) (rowsOf st f)with
     |false=>rw[e2]at k;exact k
     |true=>
      rw[e2]at k
      refine aH e rfl ⟨t,b,N,rfl,tt,tb,bt,bb,hN1,by omega,?_⟩
      cases e3:tX st t b N with
      |false=>rw[e3]at k;exact k
      |true=>
       rw[e3]at k
       have e4:cR st t (.int N) N=true:=by unfold tX at e3;rw[Bool.and_eq_true]at e3;exact e3.1
       obtain⟨Rt,Mt⟩:=ik e4
       have b1:=bt.rows e4
       have hAn:A≠ []:=fun z=>by have:=hA.len;rw[z]at this;simp at this;omega
       refine⟨t,d,w,_,A,rfl,Rt,hd,hAn,hA.gW,by omega,by rw[Mt.len];omega,fun q hq c hc r hr y hy=>jg (b1 q hq c hc) (hlo r hr y hy) (by decide),?_⟩
       refine⟨f,rowsOf st f,rfl,Rf,by omega,?_⟩
       refine cv ef (my ?_)
       rw[lf]
       refine⟨_,w,rfl,by omega,by omega,by omega,?_⟩
       have es:((N:Int)-((rowsOf st f).length:Int)).toNat=N-(rowsOf st f).length:=by omega
       rw[es]
       refine BF (bH (by unfold kU;rw[List.length_map,List.length_map,List.length_replicate];omega)) ?_
       rw[←List.map_append]
       refine sr iV iV ?_
       rw[qd]
       exact k
  · rw[A_ e h3]at k
    have:decide ((xs.length:Int)=3)=false:=decide_eq_false (by omega)
    dsimp only
    rw[this]
    exact k
structure Hd(st:af)(n:Nat)(b:Int):Prop where
 ex:∃(cs:List Int) (p q c:Int),st[n]?=some (.lst [.lst (aB cs),.int p,.int q,.int c])∧(∀x∈cs,0≤x)∧cs.length≤63∧0≤p∧0≤q∧0≤c∧c≤b
structure Upd(st:af)(n:Nat)(st':af):Prop where
 len:st'.length=st.length
 same:∀m,m≠n→st'[m]?=st[m]?
theorem Upd.refl{st:af}{n:Nat}:Upd st n st:=⟨rfl,fun _ _=>rfl⟩
theorem Upd.trans{st st1 st2:af}{n:Nat}(a:Upd st n st1)(b:Upd st1 n st2):Upd st n st2:=⟨b.len.trans a.len,fun m h=>(b.same m h).trans (a.same m h)⟩
theorem Upd.set{st:af}{n:Nat}{c:Cell}:Upd st n (st.set n c):=⟨List.length_set,fun m h=>List.getElem?_set_ne (Ne.symm h)⟩
theorem Hd.mono{st:af}{n:Nat}{b b':Int}(h:Hd st n b)(l:b≤b'):Hd st n b':=let⟨cs,p,q,c,e,h1,h2,h3,h4,h5,h6⟩:=h.ex;⟨cs,p,q,c,e,h1,h2,h3,h4,h5,by omega⟩
theorem sR{st:af}{n:Nat}{xs ys:List D}{i:Int}{j:Nat}{d:D}{K:af→Prop}(h:st[n]?=some (.lst xs))(e:jA xs.length i=some j)(ey:xs.set j d=ys)(k:∀st',st'[n]?=some (.lst ys)→Upd st n st'→K st'):uw (.ref n) (.int i) d st K:=eE h e (by
 rw[ey]
 exact k _ (List.getElem?_set_self (List.getElem?_eq_some_iff.mp h).1) Upd.set)
theorem Bm{k:Nat}{te:DE}{B:DS}{E:mY}{σ:bM}{st:af}(h:te σ st fun d st1=>B E (σ.set k (some d)) st1):aE (bz k te) B E σ st:=h
noncomputable def pS:cC:=fun ds st K=>∃ns:List Int,ds=[.lst (ns.map .int)]∧ns.length≤63∧∀st',Hd st' st.length 0→Ext st st'→K (.ref st.length) st'
noncomputable def mZ:List Str:=["_law_script"]
noncomputable def CG:DS:=(ba (CM (ae (cM (cZ (r9 (ab 0) pJ (vM (dC (.int 63))))) [none] (bB 0) bW (bF wF (ae (ab 0) aj))) (ae (dC (.int 0)) (ae (dC (.int 0)) (ae (dC (.int 0)) aj))))))
theorem Ft(r:List Int):(aB r).map (fun d=>match d with| .int x=> .int ((x.natAbs:Nat):Int)|_=> .aA)=aB (r.map fun x=>((x.natAbs:Nat):Int)):=by unfold aB;rw[List.map_map,List.map_map];rfl
theorem AM:∀ds st K,pS ds st K→ds.length=1∧CG {nx:=fun _ st'=>K .aA st',rt:=K} (a6 mZ ds) st:=by
 rintro ds st K ⟨ns,rfl,hl,k⟩
 refine⟨rfl,?_⟩
 refine xi (wI ⟨?_,?_⟩)
 · refine bH ?_
   unfold L3.cutD
   simp only[List.length_take,List.length_drop,List.length_map]
   omega
 refine comp_map (g:=fun d=>match d with| .int x=> .int ((x.natAbs:Nat):Int)|_=> .aA) trivial _ (fun d hd K' q=>?_) ?_
 · have:d∈ns.map D.int:=List.mem_of_mem_drop (List.mem_of_mem_take hd)
   obtain⟨i,_,rfl⟩:=List.mem_map.mp this
   exact⟨_,rfl,EJ q⟩
 · have ec:∀lo hi,L3.cutD (ns.map D.int) lo hi=aB ((ns.drop (HT.cg (ns.map D.int).length 0 lo)).take (HT.cg (ns.map D.int).length (ns.map D.int).length hi-HT.cg (ns.map D.int).length 0 lo)):=fun lo hi=>by
    unfold L3.cutD aB
    rw[List.map_take,List.map_drop]
   rw[ec,Ft]
   refine⟨Nat.le_of_ble_eq_true rfl,?_⟩
   refine k _ ⟨_,0,0,0,by rw[List.getElem?_append_right (Nat.le_refl _),Nat.sub_self];rfl,fun x hx=>?_,?_,Int.le_refl _,Int.le_refl _,Int.le_refl _,Int.le_refl _⟩ Ext.push
   · obtain⟨y,_,rfl⟩:=List.mem_map.mp hx
     omega
   · simp only[List.length_map,List.length_take,List.length_drop]
     omega
noncomputable def bK:cC:=fun ds st K=>∃(n:Nat) (m b:Int),ds=[.ref n,.int m]∧Hd st n b∧b≤1000000000∧0<m∧m<2^62∧∀r st',0≤r→r<m→Hd st' n (b+1)→Upd st n st'→K (.int r) st'
noncomputable def m5:List Str:=["_law_hand_here","_law_many","_law_cell","_law_once","_law_twice","_law_found"]
noncomputable def Cb:DS:=(aE (dh (ab 0) (dC (.int 3)) (aw dE (aw bp (ab 0) (dC (.int 3))) (dC (.int 1))))
 (aE (cx (aM (aw eL (aw bp (ab 0) (dC (.int 2))) (dC (.int 0)))) (aE (bz 2 (dC (.int 0)))
 (aE (cx (aM (aw oF (bF cS (ae (aw bp (ab 0) (dC (.int 0))) aj)) (dC (.int 0)))) (bz 2 (aw bp (aw bp (ab 0) (dC (.int 0))) (aw i5 (aw bp (ab 0) (dC (.int 1))) (bF cS (ae (aw bp (ab 0) (dC (.int 0))) aj))))) bY)
 (aE (dh (ab 0) (dC (.int 1)) (aw dE (aw bp (ab 0) (dC (.int 1))) (dC (.int 1))))
 (aE (cx (gD (aM (aw oJ (ab 2) (aw qp (dC (.int 10)) (dC (.int 18))))) (aM (aw oF (aw bp (ab 0) (dC (.int 1))) (bF cS (ae (aw bp (ab 0) (dC (.int 0))) aj))))) (aE (bz 3 (aw dE (aw dE (aw i5 (ab 2) (dC (.int 2147483629))) (aw dm (dC (.int 7919)) (aw bp (ab 0) (dC (.int 3))))) (dC (.int 11))))
 (aE (bz 3 (aw i5 (aw dm (ab 3) (aw dE (dC (.int 48271)) (aw dm (dC (.int 2)) (aw bp (ab 0) (dC (.int 3)))))) (dC (.int 2147483647))))
 (aE (bz 4 (aw i5 (aw dE (aw dm (ab 3) (aw dE (aw i5 (ab 3) (dC (.int 39373))) (aw bp (ab 0) (dC (.int 3))))) (aw dm (dC (.int 31)) (aw bp (ab 0) (dC (.int 3))))) (dC (.int 1999999973))))
 (ba (aw i5 (aw pY (ab 4) (dC (.int 7))) (ab 1)))))) bY)
 (dh (ab 0) (dC (.int 2)) (ab 2)))))) bY)
 (aE (bz 5 (aw i5 (aw bp (ab 0) (dC (.int 2))) (ab 1)))
 (aE (dh (ab 0) (dC (.int 2)) (aw pY (aw bp (ab 0) (dC (.int 2))) (ab 1)))
 (ba (ab 5))))))
theorem ED{m:Int}(h0:0<m)(h:m<2^62):m.natAbs.log2<9000:=by
 have:m.natAbs.log2<62:=(Nat.log2_lt (by omega)).mpr (by omega)
 omega
theorem AX:∀ds st K,bK ds st K→ds.length=2∧Cb {nx:=fun _ st'=>K .aA st',rt:=K} (a6 m5 ds) st:=by
 rintro ds st K ⟨n,m,b,rfl,⟨cs,p,q,c,e,hcs,hcl,hp,hq,hc,hb⟩,hb2,hm0,hm1,k⟩
 refine⟨rfl,?_⟩
 refine aH (az e) (by rfl) (d8 (sR (ys:=[.lst (aB cs),.int p,.int q,.int (c+1)]) e (by rfl) (by rfl) fun st1 e1 U1=>?_))
 have c1: -(2^64)<c+1:=by omega
 have c2:c+1<2^64:=by omega
 dsimp only
 refine dk (fun σ' st'=>∃(v2 v3 v4:Option D) (p q:Int),σ'=[some (.ref n),some (.int m),v2,v3,v4,none]∧st'[n]?=some (.lst [.lst (aB cs),.int p,.int q,.int (c+1)])∧0≤p∧0≤q∧Upd st n st') (fun nx hnx=>?_) ?_
 · refine aH (az e1) (by rfl) (eq2 (fun h=>dc ?_) fun h=>hnx _ _ ⟨_,_,_,p,q,rfl,e1,hp,hq,U1⟩)
   refine Bm ?_
   dsimp only[dC]
   refine dk (fun σ' st'=>∃x:Int,0≤x∧σ'=[some (.ref n),some (.int m),some (.int x),none,none,none]∧st'=st1) (fun nx2 hnx2=>?_) ?_
   · refine aH (az e1) (by rfl) (cv rfl (sL ?_))
     rw[List.length_map]
     by_cases hl:(0:Int)<(cs.length:Int)
     · rw[decide_eq_true hl]
       refine dc (aH (az e1) (by rfl) (aH (az e1) (by rfl) (aH (az e1) (by rfl) (cv rfl (mq (by rw[List.length_map];omega) ?_)))))
       rw[List.length_map]
       have m1:=Int.fmod_nonneg_of_pos p hl
       have m2:=Int.fmod_lt_of_pos p hl
       obtain⟨j,ej⟩:=Int.eq_ofNat_of_zero_le m1
       rw[ej]at m2⊢
       have hj:j<cs.length:=by omega
       exact aH rfl (fR hj) (hnx2 _ _ ⟨_,hcs _ (getD_mem hj),rfl,rfl⟩)
     · rw[decide_eq_false hl]
       exact hnx2 _ _ ⟨0,Int.le_refl _,rfl,rfl⟩
   · rintro σ' st' ⟨x,hx,rfl,rfl⟩
     refine aH (az e1) (by rfl) (d8 (sR (ys:=[.lst (aB cs),.int (p+1),.int q,.int (c+1)]) e1 (by rfl) (by rfl) fun st2 e2 U2=>?_))
     have mixed:(aE (bz 3 (aw dE (aw dE (aw i5 (ab 2) (dC (.int 2147483629))) (aw dm (dC (.int 7919)) (aw bp (ab 0) (dC (.int 3))))) (dC (.int 11))))
      (aE (bz 3 (aw i5 (aw dm (ab 3) (aw dE (dC (.int 48271)) (aw dm (dC (.int 2)) (aw bp (ab 0) (dC (.int 3)))))) (dC (.int 2147483647))))
      (aE (bz 4 (aw i5 (aw dE (aw dm (ab 3) (aw dE (aw i5 (ab 3) (dC (.int 39373))) (aw bp (ab 0) (dC (.int 3))))) (aw dm (dC (.int 31)) (aw bp (ab 0) (dC (.int 3))))) (dC (.int 1999999973))))
      (ba (aw i5 (aw pY (ab 4) (dC (.int 7))) (ab 1)))))) {nx:=nx,rt:=K} [some (.ref n),some (.int m),some (.int x),none,none,none] st2:=by
      refine mq (by decide) (aH (az e2) (by rfl) (fI (jd (by decide) (by decide)) (d8 (d8 ?_))))
      have m1:=Int.fmod_nonneg_of_pos x (show(0:Int)<2147483629 by decide)
      have m2:=Int.fmod_lt_of_pos x (show(0:Int)<2147483629 by decide)
      refine aH (az e2) (by rfl) (fI (jd (by decide) (by decide)) (d8 (fI (jd (by omega) (by omega)) (mq (by decide) ?_))))
      have u1:=Int.fmod_nonneg_of_pos ((x.fmod 2147483629+7919*(c+1)+11)*(48271+2*(c+1))) (show(0:Int)<2147483647 by decide)
      have u2:=Int.fmod_lt_of_pos ((x.fmod 2147483629+7919*(c+1)+11)*(48271+2*(c+1))) (show(0:Int)<2147483647 by decide)
      generalize((x.fmod 2147483629+7919*(c+1)+11)*(48271+2*(c+1))).fmod 2147483647=u at u1 u2⊢
      refine mq (by decide) (aH (az e2) (by rfl) (d8 (fI (jd (by omega) (by omega)) (aH (az e2) (by rfl) (fI (jd (by decide) (by decide)) (d8 (mq (by decide) ?_)))))))
      refine Bj (by decide) (by decide+kernel) (mq (by omega) ?_)
      exact k _ _ (Int.fmod_nonneg_of_pos _ hm0) (Int.fmod_lt_of_pos _ hm0) ⟨cs,_,_,_,e2,hcs,hcl,by omega,hq,by omega,by omega⟩ (U1.trans U2)
     refine rg ⟨by decide,by decide,by decide⟩ (oz ?_)
     by_cases hs:x<10^(18:Int).toNat
     · rw[decide_eq_true hs]
       exact mixed
     · rw[decide_eq_false hs]
       refine aH (az e2) (by rfl) (aH (az e2) (by rfl) (cv rfl (sL ?_)))
       rw[List.length_map]
       by_cases ho:(cs.length:Int)<p+1
       · rw[decide_eq_true ho]
         exact mixed
       · rw[decide_eq_false ho]
         refine sR (ys:=[.lst (aB cs),.int (p+1),.int x,.int (c+1)]) e2 (by rfl) (by rfl) fun st3 e3 U3=>?_
         exact hnx _ _ ⟨_,_,_,p+1,x,rfl,e3,by omega,hx,(U1.trans U2).trans U3⟩
 · rintro σ' st' ⟨v2,v3,v4,p,q,rfl,e3,hp,hq,U3⟩
   refine aH (az e3) (by rfl) (mq (by omega) (aH (az e3) (by rfl) (Bj (by omega) (ED hm0 hm1) (sR (ys:=[.lst (aB cs),.int p,.int (q.fdiv m),.int (c+1)]) e3 (by rfl) (by rfl) fun st4 e4 U4=>?_))))
   refine k _ _ (Int.fmod_nonneg_of_pos _ hm0) (Int.fmod_lt_of_pos _ hm0) ⟨cs,_,_,_,e4,hcs,hcl,hp,?_,by omega,by omega⟩ (U3.trans U4)
   rw[Int.fdiv_eq_ediv_of_nonneg _ (by omega)];exact Int.ediv_nonneg hq (by omega)
noncomputable def kL:cC:=fun ds st K=>∃(n:Nat) (b kd:Int),ds=[.ref n,.int kd]∧Hd st n b∧b≤900000000∧∀r st',r.natAbs≤1000000000000→Hd st' n (b+3)→Upd st n st'→K (.int r) st'
noncomputable def kQ:List Str:=["_law_hand_here","_law_kind","_law_far"]
noncomputable def z8:DS:=(aE (cx (aM (aw eL (ab 1) (dC (.int 7)))) (aE (bz 2 (aw dE (aw dm (aG bK (ae (ab 0) (ae (aw qp (dC (.int 10)) (dC (.int 6))) aj))) (aw qp (dC (.int 10)) (dC (.int 6)))) (aG bK (ae (ab 0) (ae (aw qp (dC (.int 10)) (dC (.int 6))) aj)))))
 (ba (aw dm (ab 2) (aw bp (jv (ae (dC (.int 1)) (ae (j9 fN (dC (.int 1))) (ae (dC (.int 0)) aj)))) (aG bK (ae (ab 0) (ae (dC (.int 3)) aj))))))) bY)
 (ba (aw bp (jv (ae (dC (.int 0)) (ae (dC (.int 1)) (ae (j9 fN (dC (.int 1))) (ae (aw mE (aG bK (ae (ab 0) (ae (dC (.int 19)) aj))) (dC (.int 9))) aj))))) (aG bK (ae (ab 0) (ae (dC (.int 4)) aj))))))
theorem Gi:(10:Int)^(6:Int).toNat=1000000:=by decide
theorem ye:∀ds st K,kL ds st K→ds.length=2∧z8 {nx:=fun _ st'=>K .aA st',rt:=K} (a6 kQ ds) st:=by
 rintro ds st K ⟨n,b,kd,rfl,B,hb,k⟩
 refine⟨rfl,?_⟩
 refine eq2 (fun h=>dc ?_) fun h=>?_
 · refine rg ⟨by decide,by decide,by decide⟩ ?_
   rw[Gi]
   refine⟨n,1000000,b,rfl,B,by omega,by decide,by decide,fun r1 st1 a1 a2 B1 U1=>?_⟩
   refine rg ⟨by decide,by decide,by decide⟩ ?_
   rw[Gi]
   refine fI (sE (by decide) (by decide)) (rg ⟨by decide,by decide,by decide⟩ ?_)
   rw[Gi]
   refine⟨n,1000000,b+1,rfl,B1,by omega,by decide,by decide,fun r2 st2 c1 c2 B2 U2=>d8 ?_⟩
   refine eW ⟨Nat.le_of_ble_eq_true rfl,?_⟩
   refine⟨n,3,b+1+1,rfl,B2,by omega,by decide,by decide,fun r3 st3 d1 d2 B3 U3=>?_⟩
   have U:=(U1.trans U2).trans U3
   have B4:=B3.mono (b':=b+3) (by omega)
   have:r3=0∨r3=1∨r3=2:=by omega
   rcases this with rfl|rfl|rfl
   · exact aH rfl rfl (fI (sE (by decide) (by decide)) (k _ _ (by omega) B4 U))
   · exact aH rfl rfl (fI (sE (by decide) (by decide)) (k _ _ (by omega) B4 U))
   · exact aH rfl rfl (fI (sE (by decide) (by decide)) (k _ _ (by omega) B4 U))
 · refine eW ⟨n,19,b,rfl,B,by omega,by decide,by decide,fun r1 st1 a1 a2 B1 U1=>my ⟨Nat.le_of_ble_eq_true rfl,?_⟩⟩
   refine⟨n,4,b+1,rfl,B1,by omega,by decide,by decide,fun r2 st2 c1 c2 B2 U2=>?_⟩
   have U:=U1.trans U2
   have B4:=B2.mono (b':=b+3) (by omega)
   have:r2=0∨r2=1∨r2=2∨r2=3:=by omega
   rcases this with rfl|rfl|rfl|rfl
   · exact aH rfl rfl (k _ _ (by decide) B4 U)
   · exact aH rfl rfl (k _ _ (by decide) B4 U)
   · exact aH rfl rfl (k _ _ (by decide) B4 U)
   · exact aH rfl rfl (k _ _ (by omega) B4 U)
structure XU(st:af)(n:Nat)(st':af):Prop where
 len:st.length≤st'.length
 same:∀m,m<st.length→m≠n→st'[m]?=st[m]?
theorem XU.trans{st st1 st2:af}{n:Nat}(a:XU st n st1)(b:XU st1 n st2):XU st n st2:=⟨Nat.le_trans a.len b.len,fun m h g=>(b.same m (Nat.lt_of_lt_of_le h a.len) g).trans (a.same m h g)⟩
theorem XU.upd{st st1:af}{n:Nat}(a:Upd st n st1):XU st n st1:=⟨by rw[a.len];exact Nat.le_refl _,fun m _ g=>a.same m g⟩
theorem XU.ext{st st1:af}{n:Nat}(a:Ext st st1):XU st n st1:=⟨a.len,fun m h _=>a.same m h⟩
theorem XU.set{st st1:af}{n k:Nat}{c:Cell}(a:XU st n st1)(h:st.length≤k):XU st n (st1.set k c):=⟨by rw[List.length_set];exact a.len,fun m hm g=>by rw[List.getElem?_set_ne (by omega)];exact a.same m hm g⟩
theorem Hd.lt{st:af}{n:Nat}{b:Int}(B:Hd st n b):n<st.length:=by
 obtain⟨_,_,_,_,e,_⟩:=B.ex
 exact(List.getElem?_eq_some_iff.mp e).1
theorem Hd.cell{st st':af}{n:Nat}{b:Int}(B:Hd st n b)(e:st'[n]?=st[n]?):Hd st' n b:=by
 obtain⟨cs,p,q,c,e1,r⟩:=B.ex
 exact⟨cs,p,q,c,e.trans e1,r⟩
noncomputable def p9:cC:=fun ds st K=>∃(n:Nat) (b:Int) (many wide:Nat) (kd:Int),ds=[.ref n,.int many,.int wide,.int kd]∧Hd st n b∧b≤600000000∧many≤8∧wide≤8∧∀A st',Mx.cu many wide A→(∀r∈A,∀x∈r,x.natAbs≤1000000000000*256)→Hd st' n (b+300)→XU st n st'→K (aL A) st'
noncomputable def m6:List Str:=["_law_hand_here","_law_many","_law_wide","_law_kind","_law_rows_here","_law_k","_law_row","_law_way"]
noncomputable def BY:DS:=(aE (bz 4 (CM aj))
 (aE (i9 (eA (ae (ab 1) aj)) (bB 5) (aE (bz 6 (cM (eA (ae (ab 2) aj)) [none,some 0,some 3] (bB 0) bW (aG kL (ae (ab 1) (ae (ab 2) aj)))))
 (aE (bz 7 (aG bK (ae (ab 0) (ae (dC (.int 8)) aj))))
 (aE (cx (aM (aw eL (ab 7) (dC (.int 0)))) (bz 6 (aw dm (jv (ae (dC (.int 0)) aj)) (ab 2))) bY)
 (aE (cx (oG (aM (aw eL (ab 7) (dC (.int 1)))) (aM (aw oF (ab 5) (dC (.int 0))))) (bz 6 (bF kE (ae (aw bp (ab 4) (aw mE (ab 5) (dC (.int 1)))) aj))) bY)
 (aE (cx (oG (aM (aw eL (ab 7) (dC (.int 2)))) (aM (aw oF (ab 5) (dC (.int 1))))) (bz 6 (cM (rk (ae (aw bp (ab 4) (aw mE (ab 5) (dC (.int 1)))) (ae (aw bp (ab 4) (aw mE (ab 5) (dC (.int 2)))) aj))) [none,none] (iJ 0 1) bW (aw dE (ab 0) (ab 1)))) bY)
 (aE (cx (oG (aM (aw eL (ab 3) (dC (.int 7)))) (aM (aw oJ (ab 7) (dC (.int 3))))) (bz 6 (cM (cZ (ab 6)) [none] (bB 0) bW (aw i5 (ab 0) (dC (.int 1000))))) bY)
 (jj (nv (ab 4) (bF dB (ae (ab 6) aj)))))))))))
 (ba (bF dB (ae (ab 4) aj)))))
theorem Ax{n w:Nat}{b kd:Int}{st:af}{K:List D→af→Prop}(B:Hd st n b)(hb:b≤700000000)(hw:w≤8)
 (k:∀r st',r.length=w→(∀x∈r,x.natAbs≤1000000000000)→Hd st' n (b+24)→Upd st n st'→K (aB r) st'):
 cP (bB 0) bW (aG kL (ae (ab 1) (ae (ab 2) aj))) (fun _=>True) [none,some (.ref n),some (.int kd)] (dD 0 w) [] st K:=by
 refine gd (fun rest acc st'=>∃r:List Int,acc=aB r∧r.length+rest.length=w∧(∀x∈r,x.natAbs≤1000000000000)∧Hd st' n (b+3*r.length)∧Upd st n st') ?_ ?_ _ _ _ ⟨[],rfl,by rw[fw];simp,by simp,B.mono (by simp),Upd.refl⟩
 · rintro acc st' ⟨r,rfl,hl,hr,B',U⟩
   have hl:r.length=w:=by simpa using hl
   exact⟨trivial,k r st' hl hr (B'.mono (by omega)) U⟩
 · rintro x rest acc st' ⟨r,rfl,hl,hr,B',U⟩ next
   have hl2:r.length<w:=by simp at hl;omega
   refine⟨trivial,_,rfl,?_⟩
   refine⟨n,_,kd,rfl,B',by omega,fun y st2 a1 B2 U2=>?_⟩
   show cP _ _ _ _ _ _ _ _ _
   rw[ints_app]
   refine next _ _ ⟨r++[y],rfl,by simp at hl⊢;omega,fun z hz=>?_,B2.mono (by simp;omega),U.trans U2⟩
   rcases List.mem_append.mp hz with h|h
   · exact hr z h
   · have:z=y:=by simpa using h
     subst this;exact a1
theorem uo{A:List (List Int)}{k:Nat}(h:k<A.length):dQ (A.map cw) (k:Int)=some (cw (A.getD k [])):=by
 refine gz ?_
 rw[List.getElem?_map,List.getElem?_eq_getElem h,Mx.aS h];rfl
theorem zP:∀(r s:List Int),(g7 (aB r) (aB s)).map (fun d=>match d with| .tup [.int a,.int b]=> .int (a+b)|_=> .aA)=aB (List.zipWith (· + ·) r s)
 | [],_=>rfl
 |_::_,[]=>rfl
 |a::r,b::s=>by
  have:=zP r s
  unfold g7 at this⊢
  simp only[aB,List.map_cons,List.zip_cons_cons,List.zipWith_cons_cons]at this⊢
  rw[this]
theorem FY(r:List Int):(aB r).map (fun d=>match d with| .int x=> .int (x.fmod 1000)|_=> .aA)=aB (r.map fun x=>x.fmod 1000):=by unfold aB;rw[List.map_map,List.map_map];rfl
theorem Nb{M:Nat}{r s:List Int}(hr:∀x∈r,x.natAbs≤M)(hs:∀x∈s,x.natAbs≤M):∀x∈List.zipWith (· + ·) r s,x.natAbs≤2*M:=fun x hx=>by
 obtain⟨k,hk,e⟩:=List.mem_iff_getElem.mp hx
 rw[List.getElem_zipWith]at e
 have h1:=hr _ (List.getElem_mem (by simp at hk;omega:k<r.length))
 have h2:=hs _ (List.getElem_mem (by simp at hk;omega:k<s.length))
 omega
theorem AG:∀ds st K,p9 ds st K→ds.length=4∧BY {nx:=fun _ st'=>K .aA st',rt:=K} (a6 m6 ds) st:=by
 rintro ds st K ⟨n,b,many,wide,kd,rfl,B,hb,hm,hw,k⟩
 refine⟨rfl,?_⟩
 have hn:=B.lt
 refine⟨Nat.le_of_ble_eq_true rfl,?_⟩
 refine fB ⟨by omega,by omega⟩ ?_
 rw[Int.toNat_natCast]
 refine iR many (fun j σ st'=>∃(A:List (List Int)) (v5 v6 v7:Option D),σ=[some (.ref n),some (.int many),some (.int wide),some (.int kd),some (.ref st.length),v5,v6,v7]∧st'[st.length]?=some (.lst (A.map cw))∧A.length=j∧(∀r∈A,r.length=wide)∧(∀r∈A,∀x∈r,x.natAbs≤1000000000000*2^j)∧Hd st' n (b+25*j)∧XU st n st') ?_ ?_ ⟨[],none,none,none,rfl,by simp,rfl,by simp,by simp,(B.cell (List.getElem?_append_left hn)).mono (by simp),XU.ext Ext.push⟩
 · rintro σ st' ⟨A,v5,v6,v7,rfl,e,hl,hA,hb2,B2,X⟩
   refine dg (az e) (k A st' ⟨hl,hA⟩ (fun r hr x hx=>?_) (B2.mono (by omega)) X)
   have p:2^many≤2^8:=Nat.pow_le_pow_right (by decide) hm
   have:=hb2 r hr x hx
   exact Nat.le_trans this (Nat.mul_le_mul_left _ p)
 · rintro j σ st' rest hj ⟨A,v5,v6,v7,rfl,e,hl,hA,hb2,B2,X⟩ next
   refine⟨_,rfl,?_⟩
   refine fB ⟨by omega,by omega⟩ ⟨bH (by rw[fw];omega),?_⟩
   rw[Int.toNat_natCast]
   refine Ax (n:=n) (kd:=kd) B2 (by omega) hw fun r0 st1 hr0 hr1 B3 U3=>?_
   refine⟨n,8,_,rfl,B3,by omega,by decide,by decide,fun way st2 w0 w1 B4 U4=>?_⟩
   have hlen:=(List.getElem?_eq_some_iff.mp e).1
   have e2:st2[st.length]?=some (.lst (A.map cw)):=(U4.same _ (by omega)).trans ((U3.same _ (by omega)).trans e)
   have X2:XU st n st2:=X.trans ((XU.upd U3).trans (XU.upd U4))
   have p1:1000000000000≤1000000000000*2^(j+1):=Nat.le_mul_of_pos_right _ (Nat.pow_pos (by decide))
   have p2:1000000000000*2^j*2=1000000000000*2^(j+1):=by rw[Nat.pow_succ,Nat.mul_assoc]
   let J:bM→af→Prop:=fun σ' st'=>st'=st2∧∃r:List Int,σ'=[some (.ref n),some (.int many),some (.int wide),some (.int kd),some (.ref st.length),some (.int (j:Int)),some (a7 r),some (.int way)]∧r.length=wide∧∀x∈r,x.natAbs≤1000000000000*2^(j+1)
   have J0:J [some (.ref n),some (.int many),some (.int wide),some (.int kd),some (.ref st.length),some (.int (j:Int)),some (a7 r0),some (.int way)] st2:=⟨rfl,r0,rfl,hr0,fun x hx=>Nat.le_trans (hr1 x hx) p1⟩
   dsimp only
   refine dk J (fun nx hnx=>?_) ?_
   · refine eq2 (fun h=>dc ?_) fun h=>hnx _ _ J0
     refine xD (Nat.le_of_ble_eq_true rfl) (sN ⟨by omega,by omega,bH (by simp;omega)⟩ ?_)
     rw[Int.toNat_natCast,nN]
     exact hnx _ _ ⟨rfl,_,rfl,by simp,fun x hx=>by rw[(List.mem_replicate.mp hx).2];exact Nat.zero_le _⟩
   rintro σ' st3 ⟨rfl,r,rfl,hr,hrb⟩
   refine dk J (fun nx hnx=>?_) ?_
   · refine eq2 (fun h=>dc (sL ?_)) fun h=>hnx _ _ ⟨rfl,r,rfl,hr,hrb⟩
     by_cases h0:(0:Int)<(j:Int)
     · rw[decide_eq_true h0]
       have ej:(j:Int)-1=((j-1:Nat):Int):=by omega
       refine dc (my ?_)
       rw[ej]
       refine aH (az e2) (uo (by omega)) (kY rfl ?_)
       have hmem:A.getD (j-1) []∈A:=by rw[Mx.aS (by omega)];exact List.getElem_mem _
       exact hnx _ _ ⟨rfl,_,rfl,hA _ hmem,fun x hx=>Nat.le_trans (hb2 _ hmem x hx) (by omega)⟩
     · rw[decide_eq_false h0]
       exact hnx _ _ ⟨rfl,r,rfl,hr,hrb⟩
   clear hr hrb
   rintro σ' st3 ⟨rfl,r,rfl,hr,hrb⟩
   refine dk J (fun nx hnx=>?_) ?_
   · refine eq2 (fun h=>dc (sL ?_)) fun h=>hnx _ _ ⟨rfl,r,rfl,hr,hrb⟩
     by_cases h0:(1:Int)<(j:Int)
     · rw[decide_eq_true h0]
       have ej:(j:Int)-1=((j-1:Nat):Int):=by omega
       have ej2:(j:Int)-2=((j-2:Nat):Int):=by omega
       refine dc (my ?_)
       rw[ej]
       refine aH (az e2) (uo (by omega)) (my ?_)
       rw[ej2]
       refine aH (az e2) (uo (by omega)) ?_
       have hm1:A.getD (j-1) []∈A:=by rw[Mx.aS (by omega)];exact List.getElem_mem _
       have hm2:A.getD (j-2) []∈A:=by rw[Mx.aS (by omega)];exact List.getElem_mem _
       have l1:=hA _ hm1
       have l2:=hA _ hm2
       refine pw rfl rfl fun ok aI=>⟨bH (by rw[nJ,List.length_map,List.length_map];omega),?_⟩
       refine comp_map (g:=fun d=>match d with| .tup [.int a,.int b]=> .int (a+b)|_=> .aA) (aI _ rfl rfl) _ (fun d hd K' q=>?_) ?_
       · obtain⟨a,c,_,_,rfl⟩:=qf hd
         exact⟨_,rfl,d8 q⟩
       rw[zP]
       refine hnx _ _ ⟨rfl,_,rfl,by rw[List.length_zipWith];omega,fun x hx=>?_⟩
       have:=Nb (hb2 _ hm1) (hb2 _ hm2) x hx
       omega
     · rw[decide_eq_false h0]
       exact hnx _ _ ⟨rfl,r,rfl,hr,hrb⟩
   clear hr hrb
   rintro σ' st3 ⟨rfl,r,rfl,hr,hrb⟩
   refine dk J (fun nx hnx=>?_) ?_
   · refine eq2 (fun h=>dc (oz ?_)) fun h=>hnx _ _ ⟨rfl,r,rfl,hr,hrb⟩
     by_cases h0:way<3
     · rw[decide_eq_true h0]
       refine dc (wI ⟨bH (by rw[List.length_map];omega),?_⟩)
       refine comp_map (g:=fun d=>match d with| .int x=> .int (x.fmod 1000)|_=> .aA) trivial _ (fun d hd K' q=>?_) ?_
       · obtain⟨x,_,rfl⟩:=List.mem_map.mp hd
         exact⟨_,rfl,mq (by decide) q⟩
       rw[FY]
       refine hnx _ _ ⟨rfl,_,rfl,by rw[List.length_map];exact hr,fun x hx=>?_⟩
       obtain⟨y,_,rfl⟩:=List.mem_map.mp hx
       have a1:=Int.fmod_nonneg_of_pos y (show(0:Int)<1000 by decide)
       have a2:=Int.fmod_lt_of_pos y (show(0:Int)<1000 by decide)
       omega
     · rw[decide_eq_false h0]
       exact hnx _ _ ⟨rfl,r,rfl,hr,hrb⟩
   clear hr hrb
   rintro σ' st3 ⟨rfl,r,rfl,hr,hrb⟩
   refine EW (by rfl) e2 (dg rfl (BR e2 (by rw[sizeLine_eq,List.length_map];omega) ?_))
   have hl2:=(List.getElem?_eq_some_iff.mp e2).1
   refine next _ _ ⟨A++[r],_,_,_,rfl,by rw[List.getElem?_set_self hl2,Fe],by simp[hl],fun q hq=>?_,fun q hq x hx=>?_,(B4.cell (List.getElem?_set_ne (by omega))).mono (by omega),X2.set (Nat.le_refl _)⟩
   · rcases List.mem_append.mp hq with h|h
     · exact hA q h
     · have:q=r:=by simpa using h
       subst this;exact hr
   · rcases List.mem_append.mp hq with h|h
     · exact Nat.le_trans (hb2 q h x hx) (by omega)
     · have:q=r:=by simpa using h
       subst this;exact hrb x hx
noncomputable def pk:cC:=fun ds st K=>∃(n:Nat) (b:Int),ds=[.ref n]∧Hd st n b∧b≤900000000∧∀(x y:Nat) st',1≤x→x≤8→1≤y→y≤8→Hd st' n (b+3)→Upd st n st'→K (.tup [.int x,.int y]) st'
noncomputable def lG:List Str:=["_law_hand_here"]
noncomputable def AH:DS:=(aE (cx (aM (aw eL (aG bK (ae (ab 0) (ae (dC (.int 8)) aj))) (dC (.int 0)))) (ba (iy (ae (aw dE (dC (.int 5)) (aG bK (ae (ab 0) (ae (dC (.int 4)) aj)))) (ae (aw dE (dC (.int 5)) (aG bK (ae (ab 0) (ae (dC (.int 4)) aj)))) aj)))) bY)
 (ba (iy (ae (aw dE (dC (.int 1)) (aG bK (ae (ab 0) (ae (dC (.int 4)) aj)))) (ae (aw dE (dC (.int 1)) (aG bK (ae (ab 0) (ae (dC (.int 4)) aj)))) aj)))))
theorem zi:∀ds st K,pk ds st K→ds.length=1∧AH {nx:=fun _ st'=>K .aA st',rt:=K} (a6 lG ds) st:=by
 rintro ds st K ⟨n,b,rfl,B,hb,k⟩
 refine⟨rfl,?_⟩
 have fin:∀(x y:Int) st',1≤x→x≤8→1≤y→y≤8→Hd st' n (b+3)→Upd st n st'→K (.tup [.int x,.int y]) st':=fun x y st' h1 h2 h3 h4 H U=>by
  obtain⟨x,rfl⟩:=Int.eq_ofNat_of_zero_le (show 0≤x by omega)
  obtain⟨y,rfl⟩:=Int.eq_ofNat_of_zero_le (show 0≤y by omega)
  exact k x y st' (by omega) (by omega) (by omega) (by omega) H U
 refine⟨n,8,b,rfl,B,by omega,by decide,by decide,fun r0 st0 z1 z2 B0 U0=>?_⟩
 refine eq2 (fun h=>dc ?_) fun h=>?_
 · refine⟨n,4,b+1,rfl,B0,by omega,by decide,by decide,fun r1 st1 a1 a2 B1 U1=>d8 ?_⟩
   refine⟨n,4,b+1+1,rfl,B1,by omega,by decide,by decide,fun r2 st2 c1 c2 B2 U2=>d8 ⟨Nat.le_of_ble_eq_true rfl,?_⟩⟩
   exact fin _ _ _ (by omega) (by omega) (by omega) (by omega) (B2.mono (by omega)) ((U0.trans U1).trans U2)
 · refine⟨n,4,b+1,rfl,B0,by omega,by decide,by decide,fun r1 st1 a1 a2 B1 U1=>d8 ?_⟩
   refine⟨n,4,b+1+1,rfl,B1,by omega,by decide,by decide,fun r2 st2 c1 c2 B2 U2=>d8 ⟨Nat.le_of_ble_eq_true rfl,?_⟩⟩
   exact fin _ _ _ (by omega) (by omega) (by omega) (by omega) (B2.mono (by omega)) ((U0.trans U1).trans U2)
noncomputable def kB:cC:=fun ds st K=>∃(n:Nat) (b kinds:Int),ds=[.ref n,.int kinds]∧Hd st n b∧b≤500000000∧0<kinds∧kinds<2^62∧∀(m w:Nat) A st',1≤m→m≤8→1≤w→w≤8→Mx.cu m w A→(∀r∈A,∀x∈r,x.natAbs≤1000000000000*256)→Hd st' n (b+310)→XU st n st'→K (aL A) st'
noncomputable def iK:List Str:=["_law_hand_here","_law_kinds","_law_many","_law_wide"]
noncomputable def u_:DS:=(aE (C1 (iJ 2 3) (aG pk (ae (ab 0) aj)))
 (ba (aG p9 (ae (ab 0) (ae (ab 2) (ae (ab 3) (ae (aG bK (ae (ab 0) (ae (ab 1) aj))) aj)))))))
theorem ur:∀ds st K,kB ds st K→ds.length=2∧u_ {nx:=fun _ st'=>K .aA st',rt:=K} (a6 iK ds) st:=by
 rintro ds st K ⟨n,b,kinds,rfl,B,hb,k0,k1,k⟩
 refine⟨rfl,?_⟩
 refine⟨n,b,rfl,B,by omega,fun m w st1 m1 m8 w1 w8 B1 U1=>?_⟩
 refine⟨_,rfl,?_⟩
 refine⟨n,kinds,_,rfl,B1,by omega,k0,k1,fun kd st2 a1 a2 B2 U2=>?_⟩
 refine⟨n,_,m,w,kd,rfl,B2,by omega,m8,w8,fun A st3 hA bA B3 X3=>?_⟩
 exact k m w A st3 m1 m8 w1 w8 hA bA (B3.mono (by omega)) ((XU.upd (U1.trans U2)).trans X3)
noncomputable def uL:cC:=fun ds st K=>∃(x y:D) (n:Nat) (ws:List Int) (A:List (List Int)),ds=[x,y,.int n]∧items? st x=some (aB ws)∧cV st y A∧(∀r∈A,r.length=n)∧n≤1000∧(∀w∈ws,∀r∈A,∀b∈r,IntMulOk w b)∧K (cw (Mx.dG ws A (List.replicate n 0))) st
noncomputable def pP:List Str:=["_law_weights","_law_rows_here","_law_wide","_law_row","_law_weight","_law_one"]
noncomputable def Ff:DS:=(aE (bz 3 (aw dm (jv (ae (dC (.int 0)) aj)) (ab 2)))
 (aE (i9 (rk (ae (ab 0) (ae (ab 1) aj))) (iJ 4 5) (bz 3 (cM (rk (ae (ab 3) (ae (ab 5) aj))) [none,none,some 4] (iJ 0 1) bW (aw dE (ab 0) (aw dm (ab 2) (ab 1))))))
 (ba (bF dB (ae (ab 3) aj)))))
theorem El:∀ds st K,uL ds st K→ds.length=3∧Ff {nx:=fun _ st'=>K .aA st',rt:=K} (a6 pP ds) st:=by
 rintro ds st K ⟨x,y,n,ws,A,rfl,hx,⟨dr,hy,hr⟩,hw,hn,hm,k⟩
 refine⟨rfl,?_⟩
 refine xD (Nat.le_of_ble_eq_true rfl) (sN ⟨by omega,by omega,bH (by simp;omega)⟩ ?_)
 rw[Int.toNat_natCast,nN]
 refine pw hx hy fun ok aI=>?_
 refine ji (fun rest σ st'=>∃(v4 v5:Option D) (ws':List Int) (ds':List D) (A':List (List Int)) (acc:List Int),st=st'∧rest=g7 (aB ws') ds'∧br st ds' A'∧σ=[some x,some y,some (.int n),some (a7 acc),v4,v5]∧acc.length=n∧(∀r∈A',r∈A)∧(∀w∈ws',w∈ws)∧Mx.dG ws' A' acc=Mx.dG ws A (List.replicate n 0)) ?_ ?_ _ _ _
  ⟨none,none,ws,dr,A,List.replicate n 0,rfl,rfl,hr,rfl,by simp,fun _ h=>h,fun _ h=>h,rfl⟩
 · rintro σ st1 ⟨v4,v5,ws',ds',A',acc,rfl,he,hr',rfl,hl,_,_,hs⟩
   refine⟨aI _ hx hy,dg rfl ?_⟩
   have:Mx.dG ws' A' acc=acc:=by
    match ws',ds',A',hr',he with
    | [],_,_,_,_=>unfold Mx.dG;rfl
    |_::_,[],[],_,_=>unfold Mx.dG;rfl
    |_::_,_::_,_::_,_,he=>cases he
   rw[this]at hs
   rw[hs];exact k
 · rintro d rest σ st1 ⟨v4,v5,ws',ds',A',acc,rfl,he,hr',rfl,hl,ha,hw',hs⟩ next
   match ws',ds',A',hr',he with
   |w::ws',e::ds',r::A',hr',he=>
    simp only[aB,List.map_cons,xm,List.cons.injEq]at he
    obtain⟨rfl,rfl⟩:=he
    refine⟨aI _ hx hy,_,rfl,?_⟩
    have hrl:=hw r (ha r List.mem_cons_self)
    have e1:items? st (a7 acc)=some (aB acc):=rfl
    refine pw e1 hr'.1 fun ok2 hok2=>⟨bH (by rw[nJ];simp;omega),?_⟩
    refine comp_map (g:=fun d=>match d with| .tup [.int a,.int b]=> .int (a+w*b)|_=> .aA) (hok2 st e1 hr'.1) _ (fun d hd K' q=>?_) ?_
    · obtain⟨a,b,_,hb,rfl⟩:=qf hd
      exact⟨_,rfl,fI (hm w (hw' w List.mem_cons_self) r (ha r List.mem_cons_self) b hb) (d8 q)⟩
    have ea:(g7 (aB acc) (aB r)).map (fun d=>match d with| .tup [.int a,.int b]=> .int (a+w*b)|_=> .aA)=aB (Mx.fH acc w r):=oh acc r
    rw[ea]
    refine next _ _ ⟨_,_,ws',ds',A',Mx.fH acc w r,rfl,rfl,hr'.2,rfl,by rw[Mx.nU (by omega)];exact hl,fun q hq=>ha q (List.mem_cons_of_mem _ hq),fun q hq=>hw' q (List.mem_cons_of_mem _ hq),?_⟩
    rw[←hs];rfl
   | [],_,_,_,he=>cases he
   |_::_,[],[],_,he=>cases he
noncomputable def jM:cC:=fun ds st K=>∃(x y:D) (n:Nat) (A B:List (List Int)),ds=[x,y,.int n]∧cV st x A∧cV st y B∧(∀r∈B,r.length=n)∧n≤1000∧A.length≤1000∧(∀w∈A,∀c∈w,∀r∈B,∀b∈r,IntMulOk c b)∧K (aL (Mx.mulM A B n)) st
noncomputable def jL:List Str:=["_law_one","_law_other_here","_law_wide"]
noncomputable def yl:DS:=(ba (bF dB (ae (cM (cZ (ab 0)) [none,some 1,some 2] (bB 0) bW (aG uL (ae (ab 0) (ae (ab 1) (ae (ab 2) aj))))) aj)))
theorem wH:∀ds st K,jM ds st K→ds.length=3∧yl {nx:=fun _ st'=>K .aA st',rt:=K} (a6 jL ds) st:=by
 rintro ds st K ⟨x,y,n,A,B,rfl,⟨da,hx,ra⟩,hy,hw,hn,hl,hm,k⟩
 refine⟨rfl,?_⟩
 refine hW hx fun ok aI=>⟨bH (by rw[ra.len];exact hl),?_⟩
 refine ju (fun r=>cw (Mx.dG r B (List.replicate n 0))) aI ra (fun d r hr he K' q=>⟨_,rfl,d,y,n,r,B,rfl,he,hy,hw,hn,fun c hc=>hm r hr c hc,q⟩) ?_
 have e:A.map (fun r=>cw (Mx.dG r B (List.replicate n 0)))=(Mx.mulM A B n).map cw:=by unfold Mx.mulM;rw[List.map_map];rfl
 rw[e]
 exact dg rfl k
noncomputable def o4:cC:=fun ds st K=>∃(n:Nat),ds=[.int n]∧n≤1000∧K (aL (Mx.units n)) st
noncomputable def lE:List Str:=["_law_n"]
noncomputable def A5:DS:=(ba (bF dB (ae (cM (eA (ae (ab 0) aj)) [none,some 0] (bB 0) bW (bF dB (ae (cM (eA (ae (ab 1) aj)) [none,some 0] (bB 0) bW (bF zp (ae (aw eL (ab 1) (ab 0)) aj))) aj))) aj)))
theorem y_:∀ds st K,o4 ds st K→ds.length=1∧A5 {nx:=fun _ st'=>K .aA st',rt:=K} (a6 lE ds) st:=by
 rintro ds st K ⟨n,rfl,hn,k⟩
 refine⟨rfl,?_⟩
 refine fB ⟨by omega,by omega⟩ ⟨bH (by rw[fw];omega),?_⟩
 rw[Int.toNat_natCast]
 refine kr (fun i=>cw (Mx.fQ n i)) n (fun i hi K' q=>⟨_,rfl,?_⟩) ?_
 · refine fB ⟨by omega,by omega⟩ ⟨bH (by rw[fw];omega),?_⟩
   rw[Int.toNat_natCast]
   refine kr (fun j=> .int (Mx.dl j i)) n (fun j hj K' q=>⟨_,rfl,?_⟩) ?_
   · refine eq2 (fun h=>Bx ?_) fun h=>Bx ?_
     · have:i=j:=by omega
       subst this
       rw[Mx.e_]at q;exact q
     · rw[Mx.fo (by omega)]at q;exact q
   · have:(List.range n).map (fun j=>D.int (Mx.dl j i))=aB (Mx.fQ n i):=by unfold Mx.fQ aB;rw[List.map_map];rfl
     rw[this]
     exact dg rfl q
 have:(List.range n).map (fun i=>cw (Mx.fQ n i))=(Mx.units n).map cw:=by unfold Mx.units;rw[List.map_map];rfl
 rw[this]
 exact dg rfl k
noncomputable def nZ:cC:=fun ds st K=>∃(d:D) (A:List (List Int)) (w:Nat),ds=[d]∧cV st d A∧(∀r∈A,r.length=w)∧A.length≤1000∧w≤1000∧K (.bl (di [] (-1) A)) st
noncomputable def kJ:List Str:=["_law_rows_here","_law_last","_law_k","_law_places","_law_j"]
noncomputable def Ag:DS:=(aE (bz 1 (j9 fN (dC (.int 1))))
 (aE (i9 (eA (ae (bF cS (ae (ab 0) aj)) aj)) (bB 2) (aE (bz 3 (cM (eA (ae (bF cS (ae (aw bp (ab 0) (ab 2)) aj)) aj)) [none,some 0,some 2] (bB 0) (aM (aw kT (aw bp (aw bp (ab 1) (ab 2)) (ab 0)) (dC (.int 0)))) (ab 0)))
 (aE (cx (gD (aM (aw eL (ab 3) (jv aj))) (gD (aM (aw zu (aw bp (ab 3) (dC (.int 0))) (ab 1))) (aM (aw oJ (aw bp (aw bp (ab 0) (ab 2)) (aw bp (ab 3) (dC (.int 0)))) (dC (.int 1)))))) (ba (dC (.bl false))) bY)
 (aE (bz 1 (aw bp (ab 3) (dC (.int 0))))
 (i9 (eA (ae (ab 2) aj)) (bB 4) (cx (gD (aM (aw oJ (aw bp (aw bp (ab 0) (ab 4)) (ab 1)) (dC (.int 0)))) (aM (aw Es (aw bp (aw bp (ab 0) (ab 4)) (ab 1)) (aw bp (aw bp (ab 0) (ab 2)) (ab 1))))) (ba (dC (.bl false))) bY))))))
 (ba (dC (.bl true)))))
theorem ya:∀ds st K,nZ ds st K→ds.length=1∧Ag {nx:=fun _ st'=>K .aA st',rt:=K} (a6 kJ ds) st:=by
 rintro ds st K ⟨d,A,w,rfl,⟨da,hd,ra⟩,hw,hl,hw2,k⟩
 refine⟨rfl,?_⟩
 have hla:=ra.len
 refine eW (cv hd ?_)
 rw[hla]
 refine fB ⟨by omega,by omega⟩ ?_
 rw[Int.toNat_natCast]
 refine iR A.length (fun i σ st'=>st'=st∧∃(last:Int) (v2 v3 v4:Option D),σ=[some d,some (.int last),v2,v3,v4]∧di [] (-1) A=di (A.take i) last (A.drop i)) ?_ ?_ ⟨rfl,-1,none,none,none,rfl,rfl⟩
 · rintro σ st' ⟨rfl,last,v2,v3,v4,rfl,hs⟩
   rw[List.drop_length]at hs
   rw[hs]at k
   exact k
 · rintro i σ st' rest hi ⟨rfl,last,v2,v3,v4,rfl,hs⟩ next
   refine⟨_,rfl,?_⟩
   obtain⟨e,ee,he⟩:=ra.at (k:=i) hi
   have hmem:A.getD i []∈A:=by rw[Mx.aS hi];exact List.getElem_mem _
   have hrw:=hw _ hmem
   have hdrop:A.drop i=A.getD i []::A.drop (i+1):=by rw[Mx.aS hi];exact(List.drop_eq_getElem_cons hi)
   have htake:A.take (i+1)=A.take i++[A.getD i []]:=by rw[Mx.aS hi];exact(List.take_succ_eq_append_getElem hi)
   rw[hdrop,kX]at hs
   generalize er:A.getD i []=r at hs he hrw hmem htake
   refine aH hd ee (cv he ?_)
   rw[List.length_map]
   refine fB ⟨by omega,by omega⟩ ⟨bH (by rw[fw];omega),?_⟩
   rw[Int.toNat_natCast]
   refine AZ (p:=fun j=>decide (r.getD j 0≠0)) (fun j hj=>⟨_,rfl,fun K' q=>?_,fun K' q=>q⟩) ?_
   · refine aH hd ee (aH he (fR hj) (ne2 (fun h=>?_) fun h=>?_))
     · rw[decide_eq_true h]at q;exact q
     · rw[decide_eq_false (fun z=>z h)]at q;exact q
   have hf:=tT r
   generalize eps:((List.range r.length).filter fun j=>decide (r.getD j 0≠0))=ps at hf⊢
   refine⟨Nat.le_of_ble_eq_true rfl,sr (w9 ps) (w9 []) ?_⟩
   match ps,eps,hf with
   | [],eps,hf=>
     rw[←hf]at hs
     rw[hs]at k
     unfold cy eU
     exact k
   |l::ps,eps,hf=>
    have hlead:h8 r=some l:=hf.symm
    rw[hlead]at hs
    have hlr:=xG hlead
    have hne:r.getD l 0≠0:=by
     have:l∈(List.range r.length).filter fun j=>decide (r.getD j 0≠0):=by rw[eps];exact List.mem_cons_self
     exact of_decide_eq_true (List.mem_filter.mp this).2
    have e0:cy (.lst ((l::ps).map fun(j:Nat)=>D.int (j:Int))) (.lst [])=false:=by unfold cy;exact jW (by simp)
    rw[e0]
    have ep0:items? st' (.lst ((l::ps).map fun(j:Nat)=>D.int (j:Int)))=some (D.int (l:Int)::ps.map fun(j:Nat)=>D.int (j:Int)):=rfl
    refine aH ep0 pU (CJ ?_)
    by_cases h1:(l:Int)≤last
    · rw[decide_eq_true h1]
      simp only[if_pos (show(l:Int)≤last∨r.getD l 0<0 from .inl h1)]at hs
      rw[hs]at k
      exact k
    · rw[decide_eq_false h1]
      refine aH hd ee (aH ep0 pU (aH he (fR hlr) (oz ?_)))
      by_cases h2:r.getD l 0<1
      · rw[decide_eq_true h2]
        simp only[if_pos (show(l:Int)≤last∨r.getD l 0<0 from .inr (by omega))]at hs
        rw[hs]at k
        exact k
      · rw[decide_eq_false h2]
        simp only[if_neg (show¬((l:Int)≤last∨r.getD l 0<0)from fun h=>h.elim h1 (by omega))]at hs
        refine aH ep0 pU (fB ⟨by omega,by omega⟩ ?_)
        rw[Int.toNat_natCast]
        refine iR i (fun j σ st2=>st2=st'∧∃v4:Option D,σ=[some d,some (.int (l:Int)),some (.int (i:Int)),some (.lst ((l::ps).map fun(j:Nat)=>D.int (j:Int))),v4]∧∀a∈A.take j,0≤a.getD l 0∧a.getD l 0<r.getD l 0) ?_ ?_ ⟨rfl,_,rfl,by simp⟩
        · rintro σ st2 ⟨rfl,v4,rfl,hall⟩
          have e4:((A.take i).all fun a=>decide (0≤a.getD l 0)&&decide (a.getD l 0<r.getD l 0))=true:=List.all_eq_true.mpr fun a ha=>by
           rw[decide_eq_true (hall a ha).1,decide_eq_true (hall a ha).2];rfl
          rw[e4]at hs
          refine next _ _ ⟨rfl,(l:Int),_,_,_,rfl,?_⟩
          rw[htake]
          exact hs
        · rintro j σ st2 rest2 hj ⟨rfl,v4,rfl,hall⟩ next2
          refine⟨_,rfl,?_⟩
          have hjl:j<A.length:=by omega
          obtain⟨f,ef,hf2⟩:=ra.at (k:=j) hjl
          have hm2:A.getD j []∈A:=by rw[Mx.aS hjl];exact List.getElem_mem _
          have hfl:l<(A.getD j []).length:=by rw[hw _ hm2,←hrw];exact hlr
          have hm3:A.getD j []∈A.take i:=by
           rw[Mx.aS hjl]
           exact List.mem_take_iff_getElem.mpr ⟨j,by omega,rfl⟩
          have htk:A.take (j+1)=A.take j++[A.getD j []]:=by rw[Mx.aS hjl];exact(List.take_succ_eq_append_getElem hjl)
          have bad:¬(0≤(A.getD j []).getD l 0∧(A.getD j []).getD l 0<r.getD l 0)→K (.bl false) st2:=fun hb=>by
           have e4:((A.take i).all fun a=>decide (0≤a.getD l 0)&&decide (a.getD l 0<r.getD l 0))=false:=by
            cases e5:((A.take i).all fun a=>decide (0≤a.getD l 0)&&decide (a.getD l 0<r.getD l 0))with
            |false=>rfl
            |true=>
             have:=List.all_eq_true.mp e5 _ hm3
             simp only[Bool.and_eq_true,decide_eq_true_eq]at this
             exact absurd this hb
           rw[e4]at hs
           rw[hs]at k
           exact k
          refine aH hd ef (aH hf2 (fR hfl) (oz ?_))
          by_cases g1:(A.getD j []).getD l 0<0
          · rw[decide_eq_true g1]
            exact bad (by omega)
          · rw[decide_eq_false g1]
            refine aH hd ef (aH hf2 (fR hfl) (aH hd ee (aH he (fR hlr) (MB ?_))))
            by_cases g2:r.getD l 0≤(A.getD j []).getD l 0
            · rw[decide_eq_true g2]
              exact bad (by omega)
            · rw[decide_eq_false g2]
              refine next2 _ _ ⟨rfl,_,rfl,fun a ha=>?_⟩
              rw[htk]at ha
              rcases List.mem_append.mp ha with h|h
              · exact hall a h
              · have:a=A.getD j []:=by simpa using h
                subst this
                exact⟨by omega,by omega⟩
noncomputable def gH:cC:=fun ds st K=>∃d,ds=[d]∧Any st d∧K (.bl (items? st d).isSome) st
noncomputable def kj:List Str:=["_law_thing"]
noncomputable def Am:DS:=(ba (CA (bF ix (ae (ab 0) (ae (dC (.ty "tuple")) aj))) (bF ix (ae (ab 0) (ae (dC (.ty "list")) aj)))))
theorem x5:∀ds st K,gH ds st K→ds.length=1∧Am {nx:=fun _ st'=>K .aA st',rt:=K} (a6 kj ds) st:=by
 rintro ds st K ⟨d,rfl,⟨t,ht⟩,k⟩
 refine⟨rfl,?_⟩
 rw[←xI ht]at k
 have hm:=lj ht
 refine kO ht (by decide) ?_
 simp only[j8,List.mem_cons,List.not_mem_nil,or_false]at hm
 rcases hm with rfl|rfl|rfl|rfl|rfl|rfl<;>first|exact k|exact kO ht (by decide) k
noncomputable def gy:cC:=fun ds st K=>∃d m w,ds=[d,m,.int w]∧jD st d∧(m= .aA∨∃i,m= .int i)∧K (.bl (cR st d m w)) st
noncomputable def gI:List Str:=["_law_found","_law_many","_law_wide","_law_row"]
noncomputable def vZ:DS:=(aE (cx (gD (d7 (aM (aG gH (ae (ab 0) aj)))) (oG (aM (aw m9 (ab 1) (dC .aA))) (aM (aw kT (bF cS (ae (ab 0) aj)) (ab 1))))) (ba (dC (.bl false))) bY)
 (aE (i9 (cZ (ab 0)) (bB 3) (aE (cx (gD (d7 (aM (aG gH (ae (ab 3) aj)))) (aM (aw kT (bF cS (ae (ab 3) aj)) (ab 2)))) (ba (dC (.bl false))) bY)
 (cx (d7 (aM (bF oX (ae (cM (cZ (ab 3)) [none] (bB 0) bW (lT (bF ix (ae (ab 0) (ae (dC (.ty "int")) aj))) (sT (aM (bF ix (ae (ab 0) (ae (dC (.ty "bool")) aj))))))) aj)))) (ba (dC (.bl false))) bY)))
 (ba (dC (.bl true)))))
theorem Kp{st:af}{x:D}{K:DK}(h:Any st x)(q:K (.bl (isInt x)) st):(lT (bF ix (ae (ab 0) (ae (dC (.ty "int")) aj))) (sT (aM (bF ix (ae (ab 0) (ae (dC (.ty "bool")) aj)))))) [some x] st K:=by
 obtain⟨t,ht⟩:=h
 rw[←zG ht]at q
 have hm:=lj ht
 refine kO ht (by decide) ?_
 simp only[j8,List.mem_cons,List.not_mem_nil,or_false]at hm
 rcases hm with rfl|rfl|rfl|rfl|rfl|rfl
 · exact q
 · refine dc (kO ht (by decide) ?_)
   exact q
 · refine dc (kO ht (by decide) ?_)
   exact q
 · exact q
 · exact q
 · exact q
theorem vz:∀ds st K,gy ds st K→ds.length=3∧vZ {nx:=fun _ st'=>K .aA st',rt:=K} (a6 gI ds) st:=by
 rintro ds st K ⟨d,m,w,rfl,hd,hm,k⟩
 refine⟨rfl,?_⟩
 refine⟨d,rfl,hd.any,?_⟩
 cases e:items? st d with
 |none=>rw[tU e]at k;exact k
 |some xs=>
  rw[tM e]at k
  obtain⟨h1,h2⟩:=hd.au xs e
  have fin:mz xs.length m=true→(aE (i9 (cZ (ab 0)) (bB 3) (aE (cx (gD (d7 (aM (aG gH (ae (ab 3) aj)))) (aM (aw kT (bF cS (ae (ab 3) aj)) (ab 2)))) (ba (dC (.bl false))) bY) (cx (d7 (aM (bF oX (ae (cM (cZ (ab 3)) [none] (bB 0) bW (lT (bF ix (ae (ab 0) (ae (dC (.ty "int")) aj))) (sT (aM (bF ix (ae (ab 0) (ae (dC (.ty "bool")) aj))))))) aj)))) (ba (dC (.bl false))) bY))) (ba (dC (.bl true)))) {nx:=fun _ st'=>K .aA st',rt:=K} (a6 gI [d,m,.int w]) st:=by
   intro hk
   rw[hk,Bool.true_and]at k
   refine hW e fun ok aI=>?_
   refine ji (fun rest σ st'=>st'=st∧(∃v3:Option D,σ=[some d,some m,some (.int w),v3])∧(∀x∈rest,Thing st x)∧(xs.all fun r=>dX st r w)=rest.all fun r=>dX st r w) ?_ ?_ _ _ _ ⟨rfl,⟨none,rfl⟩,h1,rfl⟩
   · rintro σ st' ⟨rfl,⟨v3,rfl⟩,_,ha⟩
     rw[ha]at k
     exact⟨aI,k⟩
   · rintro x rest σ st' ⟨rfl,⟨v3,rfl⟩,hT,ha⟩ next
     have hx:=hT x List.mem_cons_self
     rw[List.all_cons]at ha
     refine⟨aI,_,rfl,?_⟩
     refine⟨x,rfl,hx.any,?_⟩
     cases e2:items? st' x with
     |none=>
      have:dX st' x w=false:=by unfold dX;rw[e2]
      rw[ha,this]at k;exact k
     |some ys=>
      refine cv e2 ?_
      refine ne2 (fun h=>?_) fun h=>?_
      · have:dX st' x w=false:=by unfold dX;rw[e2];simp[h]
        rw[ha,this]at k;exact k
      · have e3:dX st' x w=ys.all isInt:=by unfold dX;rw[e2];simp[h]
        rw[e3]at ha
        obtain⟨g1,g2⟩:=hx.au ys e2
        refine hW e2 fun ok2 hok2=>⟨g2,comp_map (g:=fun r=> .bl (isInt r)) hok2 ys (fun y hy K' q=>⟨_,rfl,Kp (g1 y hy) q⟩) ?_⟩
        refine vj (oi ys) ?_
        have ea:(ys.map isInt).all id=ys.all isInt:=by rw[List.all_map];rfl
        rw[ea]
        cases e4:ys.all isInt with
        |false=>rw[ha,e4]at k;exact k
        |true=>
         refine next _ _ ⟨rfl,⟨_,rfl⟩,fun z hz=>hT z (List.mem_cons_of_mem _ hz),?_⟩
         rw[ha,e4];rfl
  rcases hm with rfl|⟨i,rfl⟩
  · exact vQ rfl (fin rfl)
  · refine vQ rfl (cv e (ne2 (fun h=>?_) fun h=>?_))
    · have:mz xs.length (.int i)=false:=decide_eq_false h
      rw[this]at k;exact k
    · exact fin (decide_eq_true h)
noncomputable def oy:cC:=fun ds st K=>∃(d x:D) (A:List (List Int)) (N w:Nat),ds=[d,x]∧cV st d A∧Mx.cu N w A∧1≤N∧N≤8∧w≤9∧(∀r∈A,∀c∈r,c.natAbs≤2^48)∧r8 st x∧K (.bl (pD st A N w x)) st
noncomputable def oa:List Str:=["_law_rows_here","_law_told","_law_many","_law_wide","_law_form","_law_turn","_law_back","_law_made"]
noncomputable def Dh:DS:=(aE (Fc 2 3 (ae (bF cS (ae (ab 0) aj)) (ae (bF cS (ae (aw bp (ab 0) (dC (.int 0))) aj)) aj)))
 (aE (cx (gD (d7 (aM (aG gH (ae (ab 1) aj)))) (gD (aM (aw kT (bF cS (ae (ab 1) aj)) (dC (.int 3)))) (d7 (aM (aG gy (ae (aw bp (ab 1) (dC (.int 0))) (ae (dC .aA) (ae (ab 3) aj)))))))) (ba (dC (.bl false))) bY)
 (aE (vd (uh 4 5 6) (ab 1))
 (aE (cx (gD (d7 (aM (aG nZ (ae (ab 4) aj)))) (aM (aw oF (bF cS (ae (ab 4) aj)) (ab 2)))) (ba (dC (.bl false))) bY)
 (aE (cx (gD (d7 (aM (aG gy (ae (ab 5) (ae (ab 2) (ae (ab 2) aj)))))) (d7 (aM (aG gy (ae (ab 6) (ae (ab 2) (ae (ab 2) aj))))))) (ba (dC (.bl false))) bY)
 (aE (bz 7 (aw dE (bF dB (ae (cM (cZ (ab 4)) [none] (bB 0) bW (bF dB (ae (ab 0) aj))) aj)) (aw dm (iy (ae (aw dm (iy (ae (dC (.int 0)) aj)) (ab 3)) aj)) (aw mE (ab 2) (bF cS (ae (ab 4) aj))))))
 (ba (lT (aw eL (aG jM (ae (ab 5) (ae (ab 0) (ae (ab 3) aj)))) (ab 7)) (aw eL (aG jM (ae (ab 5) (ae (ab 6) (ae (ab 2) aj)))) (aG o4 (ae (ab 2) aj)))))))))))
theorem Cs:∀ds st K,oy ds st K→ds.length=2∧Dh {nx:=fun _ st'=>K .aA st',rt:=K} (a6 oa ds) st:=by
 rintro ds st K ⟨d,x,A,N,w,rfl,hd,hA,hN1,hN,hw,hlo,hx,k⟩
 refine⟨rfl,?_⟩
 obtain⟨da,hda,ra⟩:=hd.ex
 have ld:da.length=N:=by rw[ra.len];exact hA.len
 obtain⟨e0,ee0,he0⟩:=ra.at (k:=0) (by rw[hA.len];omega)
 have h0w:(A.getD 0 []).length=w:=hA.gW _ (by rw[Mx.aS (by rw[hA.len];omega)];exact List.getElem_mem _)
 refine cv hda ?_
 rw[ld]
 refine aH hda ee0 (cv he0 ?_)
 rw[List.length_map,h0w]
 refine⟨x,rfl,hx.any,?_⟩
 cases e:items? st x with
 |none=>rw[Ab e]at k;exact k
 |some xs=>
  refine cv e ?_
  refine ne2 (fun h=>?_) fun h=>?_
  · rw[A_ e (by omega)]at k;exact k
  obtain⟨f,t,b,rfl⟩:=yO (show xs.length=3 by omega)
  rw[uB e]at k
  unfold Aw at k
  obtain⟨tf,bf⟩:=hx.au _ e f (by simp)
  obtain⟨tt,bt⟩:=hx.au _ e t (by simp)
  obtain⟨tb,bb⟩:=hx.au _ e b (by simp)
  refine aH e rfl ⟨f,.aA,(w:Int),rfl,tf,.inl rfl,?_⟩
  cases e1:cR st f .aA w with
  |false=>rw[e1]at k;exact k
  |true=>
   rw[e1]at k
   obtain⟨Rf,wf,fs,ef,lf⟩:=tN e1
   have lf2:=bf.le fs ef
   refine⟨f,t,b,e,?_⟩
   refine⟨f,rowsOf st f,w,rfl,Rf,wf,by omega,by omega,?_⟩
   cases e2:di [] (-1) (rowsOf st f)with
   |false=>rw[e2]at k;exact k
   |true=>
    rw[e2]at k
    refine cv ef ?_
    rw[lf]
    refine Lo (fun hgt=>?_) fun hgt=>?_
    · have ez:(tX st t b N&&decide (Mx.mulM (rowsOf st t) A w=rowsOf st f++kU (N-(rowsOf st f).length) w))=false:=by
       cases e3:tX st t b N with
       |false=>rfl
       |true=>
        have e4:cR st t (.int N) N=true:=by unfold tX at e3;rw[Bool.and_eq_true]at e3;exact e3.1
        have Mt:=(ik e4).2
        refine decide_eq_false fun z=>?_
        have:=congrArg List.length z
        rw[(Mx.vW Mt hA).len,List.length_append]at this
        omega
      rw[ez]at k
      exact k
    refine⟨t,.int N,(N:Int),rfl,tt,.inr ⟨_,rfl⟩,?_⟩
    unfold tX Ea at k
    cases e4:cR st t (.int N) N with
    |false=>rw[e4]at k;exact k
    |true=>
     rw[e4]at k
     refine⟨b,.int N,(N:Int),rfl,tb,.inr ⟨_,rfl⟩,?_⟩
     cases e5:cR st b (.int N) N with
     |false=>rw[e5]at k;exact k
     |true=>
      rw[e5]at k
      obtain⟨Rt,Mt⟩:=ik e4
      obtain⟨Rb,Mb⟩:=ik e5
      have b1:=bt.rows e4
      have b2:=bb.rows e5
      refine hW ef fun ok aI=>⟨bH (by omega),?_⟩
      obtain⟨fs',ef',rf⟩:=Rf.ex
      cases ef.symm.trans ef'
      refine ju (fun r=>cw r) aI rf (fun y r hr he K' q=>⟨_,rfl,dg he q⟩) ?_
      refine dg rfl ?_
      refine xD (Nat.le_of_ble_eq_true rfl) (su ⟨by omega,by omega,bH (by simp;omega)⟩ ?_)
      rw[Int.toNat_natCast]
      refine xD (Nat.le_of_ble_eq_true rfl) (cv ef (my ?_))
      rw[lf]
      have es:((N:Int)-((rowsOf st f).length:Int))=((N-(rowsOf st f).length:Nat):Int):=by omega
      rw[es]
      refine su ⟨by omega,by omega,bH (by rw[Int.toNat_natCast];simp;omega)⟩ ?_
      rw[Int.toNat_natCast,Bb]
      refine BF (bH (by rw[List.length_map,List.length_map,List.length_replicate];omega)) ?_
      refine⟨t,d,w,_,A,rfl,Rt,hd,hA.gW,by omega,by rw[Mt.len];omega,fun q hq c hc r hr y hy=>jg (b1 q hq c hc) (hlo r hr y hy) (by decide),?_⟩
      refine sr iV (by rw[←List.map_append];exact iV) ?_
      rw[←List.map_append,qd]
      have fin:K (.bl (decide (Mx.mulM (rowsOf st t) A w=rowsOf st f++kU (N-(rowsOf st f).length) w)&&decide (Mx.mulM (rowsOf st t) (rowsOf st b) N=Mx.units N))) st:=by
       rw[Bool.and_comm];exact k
      unfold kU at fin
      cases e6:decide (Mx.mulM (rowsOf st t) A w=rowsOf st f++List.replicate (N-(rowsOf st f).length) (List.replicate w 0))with
      |false=>rw[e6]at fin;exact fin
      |true=>
       rw[e6]at fin
       refine⟨t,b,N,_,_,rfl,Rt,Rb,Mb.gW,by omega,by rw[Mt.len];omega,fun q hq c hc r hr y hy=>jg (b1 q hq c hc) (b2 r hr y hy) (by decide),?_⟩
       refine⟨N,rfl,by omega,?_⟩
       refine sr iV iV ?_
       rw[qd]
       exact fin
structure XB(st:af)(p:Nat)(st':af):Prop where
 same:∀m,p<m→m<st.length→st'[m]?=st[m]?
theorem XB.upd{st st':af}{n p:Nat}(U:Upd st n st')(h:n≤p):XB st p st':=⟨fun m hm _=>U.same m (by omega)⟩
theorem XB.set{st:af}{n p:Nat}{c:Cell}(h:n≤p):XB st p (st.set n c):=⟨fun m hm _=>List.getElem?_set_ne (by omega)⟩
structure xJ(d:D):Prop where
 any:∀st,Any st d
 sm:∀i,d= .int i→i.natAbs≤2^65000000
noncomputable def Flat(d:D):Prop:=∀st,Any st d∧items? st d=none
noncomputable def tZ(st:af)(n:Nat)(d:D)(xs:List D):Prop:=d= .tup xs∨d= .lst xs∨∃m,d= .ref m∧n<m∧st[m]?=some (.lst xs)
noncomputable def vT(st:af)(n:Nat)(d:D):Prop:=Flat d∨∃xs,tZ st n d xs∧xs.length≤1000∧∀x∈xs,xJ x
noncomputable def kG(st:af)(n:Nat)(d:D):Prop:=Flat d∨∃xs,tZ st n d xs∧xs.length≤1000∧∀x∈xs,vT st n x
theorem tZ.items{st:af}{n:Nat}{d:D}{xs:List D}(h:tZ st n d xs):items? st d=some xs:=by
 rcases h with rfl|rfl|⟨m,rfl,_,e⟩
 · rfl
 · rfl
 · exact az e
theorem tZ.any{st:af}{n:Nat}{d:D}{xs:List D}(h:tZ st n d xs):Any st d:=by
 rcases h with rfl|rfl|⟨m,rfl,_,e⟩
 · exact⟨_,rfl⟩
 · exact⟨_,rfl⟩
 · exact⟨_,zx e⟩
theorem tZ.xb{st st':af}{n:Nat}{d:D}{xs:List D}(h:tZ st n d xs)(X:XB st n st'):tZ st' n d xs:=by
 rcases h with rfl|rfl|⟨m,rfl,hm,e⟩
 · exact .inl rfl
 · exact .inr (.inl rfl)
 · exact .inr (.inr ⟨m,rfl,hm,(X.same m hm (List.getElem?_eq_some_iff.mp e).1).trans e⟩)
theorem vT.xb{st st':af}{n:Nat}{d:D}(h:vT st n d)(X:XB st n st'):vT st' n d:=by
 rcases h with h|⟨xs,l,r⟩
 · exact .inl h
 · exact .inr ⟨xs,l.xb X,r⟩
theorem kG.xb{st st':af}{n:Nat}{d:D}(h:kG st n d)(X:XB st n st'):kG st' n d:=by
 rcases h with h|⟨xs,l,r,q⟩
 · exact .inl h
 · exact .inr ⟨xs,l.xb X,r,fun x hx=>(q x hx).xb X⟩
theorem vT.lK{st:af}{n:Nat}{d:D}(h:vT st n d):Thing st d:=by
 rcases h with h|⟨xs,l,r,q⟩
 · exact⟨(h st).1,fun ys e=>by rw[(h st).2]at e;cases e⟩
 · refine⟨l.any,fun ys e=>?_⟩
   rw[l.items]at e
   cases e
   exact⟨fun x hx=>(q x hx).any st,bH r⟩
theorem kG.lK{st:af}{n:Nat}{d:D}(h:kG st n d):jD st d:=by
 rcases h with h|⟨xs,l,r,q⟩
 · exact⟨(h st).1,fun ys e=>by rw[(h st).2]at e;cases e⟩
 · refine⟨l.any,fun ys e=>?_⟩
   rw[l.items]at e
   cases e
   exact⟨fun x hx=>(q x hx).lK,bH r⟩
theorem kG.small{st:af}{n:Nat}{d:D}(h:kG st n d):oZ st d:=by
 rcases h with h|⟨xs,l,r,q⟩
 · exact⟨fun ys e=>(by rw[(h st).2]at e;cases e),fun ys e=>(by rw[(h st).2]at e;cases e)⟩
 · refine⟨fun ys e=>?_,fun ys e x hx zs ez i hi=>?_⟩
   · rw[l.items]at e
     cases e
     exact r
   · rw[l.items]at e
     cases e
     rcases q x hx with h|⟨ws,l2,_,q2⟩
     · rw[(h st).2]at ez;cases ez
     · rw[l2.items]at ez
       cases ez
       exact(q2 _ hi).sm i rfl
theorem G_{x:Nat}(h:x≤2^60000003):x≤2^65000000:=Nat.le_trans h (Nat.pow_le_pow_right (by decide) (by decide))
theorem vS{i:Int}(h:i.natAbs≤2^60000003):xJ (.int i):=⟨fun _=>⟨_,rfl⟩,fun j e=>by cases e;exact G_ h⟩
theorem IQ{i j:Int}(h:i.natAbs≤2^60000003)(hj:j.natAbs≤2^60000003):xJ (.int (i+j)):=⟨fun _=>⟨_,rfl⟩,fun y e=>by
 cases e
 refine Nat.le_trans (Int.natAbs_add_le i j) (Nat.le_trans (Nat.add_le_add h hj) ?_)
 rw[←Nat.two_mul,Nat.mul_comm,←Nat.pow_succ]
 exact Nat.pow_le_pow_right (by decide) (by decide)⟩
theorem B8{i:Int}(h:i.natAbs≤2^100):xJ (.int i):=vS (Nat.le_trans h (Nat.pow_le_pow_right (by decide) (by decide)))
noncomputable def mN:List D:=[.bl true,.aA,.str "1",.tup [.int 1,.int 2],.lst [],.tup [],.str "told",.tup [.tup [.int 1]],.int (-1),.int (10^(30:Int).toNat)]
noncomputable def j7:cC:=fun ds st K=>∃(n:Nat) (b:Int),ds=[.ref n]∧Hd st n b∧b≤900000000∧∀d st',d∈mN→Hd st' n (b+1)→Upd st n st'→K d st'
noncomputable def oq:List Str:=["_law_hand_here","_law_some"]
noncomputable def EU:DS:=(aE (bz 1 (jv (ae (dC (.bl true)) (ae (dC .aA) (ae (dC (.str "1")) (ae (iy (ae (dC (.int 1)) (ae (dC (.int 2)) aj))) (ae (jv aj) (ae (iy aj) (ae (dC (.str "told")) (ae (iy (ae (iy (ae (dC (.int 1)) aj)) aj)) (ae (j9 fN (dC (.int 1))) (ae (aw qp (dC (.int 10)) (dC (.int 30))) aj))))))))))))
 (ba (aw bp (ab 1) (aG bK (ae (ab 0) (ae (bF cS (ae (ab 1) aj)) aj))))))
noncomputable abbrev fm(r:List Int):Cell:= .lst (aB r)
noncomputable def dv(b n:Nat):List D:=(List.range n).map fun i=> .ref (b+i)
theorem xM{b n:Nat}:dv b n++[.ref (b+n)]=dv b (n+1):=by unfold dv;rw[List.range_succ,List.map_append];rfl
theorem pick{xs:List D}{r:Int}(h0:0≤r)(h1:r<xs.length):∃d,d∈xs∧dQ xs r=some d:=by
 obtain⟨k,rfl⟩:=Int.eq_ofNat_of_zero_le h0
 have hk:k<xs.length:=by omega
 exact⟨xs[k],List.getElem_mem _,gz (List.getElem?_eq_getElem hk)⟩
structure vb(st:af)(n L m:Nat):Prop where
 lt:n<L
 ex:∀k,k<m→∃ys,st[L+k]?=some (.lst ys)∧ys.length≤1000∧∀y∈ys,xJ y
theorem vb.set{st:af}{n L m i:Nat}{ys:List D}(h:vb st n L m)(hi:i<m)(hl:ys.length≤1000)(hy:∀y∈ys,xJ y):vb (st.set (L+i) (.lst ys)) n L m:=⟨h.lt,fun k hk=>by
 by_cases e:k=i
 · subst e
   obtain⟨_,e2,_⟩:=h.ex k hk
   exact⟨ys,List.getElem?_set_self (List.getElem?_eq_some_iff.mp e2).1,hl,hy⟩
 · rw[List.getElem?_set_ne (by omega)]
   exact h.ex k hk⟩
theorem vb.G7{st:af}{n L m c:Nat}{x:Cell}(h:vb st n L m)(hc:L+m≤c):vb (st.set c x) n L m:=⟨h.lt,fun k hk=>by
 rw[List.getElem?_set_ne (by omega)]
 exact h.ex k hk⟩
theorem vb.th{st:af}{n L m c:Nat}{xs:List D}(h:vb st n L m)(hc:n<c)(e:st[c]?=some (.lst xs))(hl:xs.length≤1000)(hx:∀x∈xs,(∃k,k<m∧x= .ref (L+k))∨vT st n x):kG st n (.ref c):=by
 refine .inr ⟨xs,.inr (.inr ⟨c,rfl,hc,e⟩),hl,fun x hx'=>?_⟩
 rcases hx x hx' with⟨k,hk,rfl⟩|h2
 · obtain⟨ys,e2,l2,q2⟩:=h.ex k hk
   have:=h.lt
   exact .inr ⟨ys,.inr (.inr ⟨_,rfl,by omega,e2⟩),l2,q2⟩
 · exact h2
structure kK(st:af)(L m:Nat)(A:List (List Int))(d:D):Prop where
 is:d= .ref (L+m)
 top:st[L+m]?=some (.lst (dv L m))
 row:∀i r,A[i]?=some r→st[L+i]?=some (fm r)
theorem iP{L m:Nat}{x:D}(h:x∈dv L m):∃k,k<m∧x= .ref (L+k):=by
 unfold dv at h
 obtain⟨k,hk,rfl⟩:=List.mem_map.mp h
 exact⟨k,List.mem_range.mp hk,rfl⟩
theorem nD{L m i:Nat}(h:i<m):dQ (dv L m) (i:Int)=some (.ref (L+i)):=by
 refine gz ?_
 unfold dv
 rw[List.getElem?_map,List.getElem?_range h];rfl
theorem dM{L m:Nat}:(dv L m).length=m:=by unfold dv;simp
theorem kK.upd{st st':af}{n L m:Nat}{A:List (List Int)}{d:D}(h:kK st L m A d)(hn:n<L)(U:Upd st n st'):kK st' L m A d:=⟨h.is,(U.same _ (by omega)).trans h.top,fun i r e=>(U.same _ (by omega)).trans (h.row i r e)⟩
theorem kK.rws{st:af}{n L m:Nat}{A:List (List Int)}{d:D}(h:kK st L m A d)(hn:n<L){w:Nat}(hA:Mx.cu m w A)(hw:w≤9)(hb:∀r∈A,∀x∈r,x.natAbs≤2^60000003):vb st n L m:=⟨hn,fun k hk=>by
 have hl:=hA.len
 have e:A[k]?=some A[k]:=List.getElem?_eq_getElem (by omega)
 refine⟨_,h.row k _ e,?_,fun y hy=>?_⟩
 · rw[List.length_map,hA.gW _ (List.getElem_mem _)];omega
 · obtain⟨i,hi,rfl⟩:=List.mem_map.mp hy
   exact vS (hb _ (List.getElem_mem _) i hi)⟩
theorem kK.cell{st:af}{L m i:Nat}{A:List (List Int)}{d:D}(h:kK st L m A d){w:Nat}(hA:Mx.cu m w A)(hi:i<m):st[L+i]?=some (fm (A.getD i [])):=by
 have hl:=hA.len
 rw[Mx.aS (by omega)]
 exact h.row i _ (List.getElem?_eq_getElem (by omega))
theorem ints_get{r:List Int}{j:Nat}(h:j<r.length):(aB r)[j]?=some (.int (r.getD j 0)):=by rw[List.getElem?_map,List.getElem?_eq_getElem h,Mx.aS h];rfl
theorem gZ{α:Type}{xs:List α}{i:Nat}{a x:α}(h:x∈xs.set i a):x∈xs∨x=a:=List.mem_or_eq_of_mem_set h
theorem Hd.ext{st st':af}{n:Nat}{b:Int}(B:Hd st n b)(X:Ext st st'):Hd st' n b:=B.cell (X.same n B.lt)
theorem Oi{d:D}(h:d∈mN):xJ d:=by
 unfold mN at h
 simp only[List.mem_cons,List.not_mem_nil,or_false]at h
 rcases h with rfl|rfl|rfl|rfl|rfl|rfl|rfl|rfl|rfl|rfl
 · exact⟨fun _=>⟨_,rfl⟩,fun i e=>by cases e⟩
 · exact⟨fun _=>⟨_,rfl⟩,fun i e=>by cases e⟩
 · exact⟨fun _=>⟨_,rfl⟩,fun i e=>by cases e⟩
 · exact⟨fun _=>⟨_,rfl⟩,fun i e=>by cases e⟩
 · exact⟨fun _=>⟨_,rfl⟩,fun i e=>by cases e⟩
 · exact⟨fun _=>⟨_,rfl⟩,fun i e=>by cases e⟩
 · exact⟨fun _=>⟨_,rfl⟩,fun i e=>by cases e⟩
 · exact⟨fun _=>⟨_,rfl⟩,fun i e=>by cases e⟩
 · exact B8 (by decide)
 · exact B8 (by decide)
theorem yB{i:Int}(h:i.natAbs≤5):xJ (.int i):=B8 (Nat.le_trans h (by decide))
theorem Ox{st:af}{n:Nat}{d:D}(h:d∈mN):vT st n d:=by
 unfold mN at h
 simp only[List.mem_cons,List.not_mem_nil,or_false]at h
 rcases h with rfl|rfl|rfl|rfl|rfl|rfl|rfl|rfl|rfl|rfl
 · exact .inl fun _=>⟨⟨_,rfl⟩,rfl⟩
 · exact .inl fun _=>⟨⟨_,rfl⟩,rfl⟩
 · exact .inl fun _=>⟨⟨_,rfl⟩,rfl⟩
 · refine .inr ⟨_,.inl rfl,by decide,fun x hx=>?_⟩
   simp only[List.mem_cons,List.not_mem_nil,or_false]at hx
   rcases hx with rfl|rfl<;>exact yB (by decide)
 · exact .inr ⟨_,.inr (.inl rfl),by decide,fun x hx=>by cases hx⟩
 · exact .inr ⟨_,.inl rfl,by decide,fun x hx=>by cases hx⟩
 · exact .inl fun _=>⟨⟨_,rfl⟩,rfl⟩
 · refine .inr ⟨_,.inl rfl,by decide,fun x hx=>?_⟩
   simp only[List.mem_cons,List.not_mem_nil,or_false]at hx
   subst hx
   exact⟨fun _=>⟨_,rfl⟩,fun i e=>by cases e⟩
 · exact .inl fun _=>⟨⟨_,rfl⟩,rfl⟩
 · exact .inl fun _=>⟨⟨_,rfl⟩,rfl⟩
theorem GA{st:af}{n:Nat}{i:Int}:vT st n (.int i):= .inl fun _=>⟨⟨_,rfl⟩,rfl⟩
theorem JU{st:af}{n:Nat}{d:D}(h:d∈mN):kG st n d:=by
 unfold mN at h
 simp only[List.mem_cons,List.not_mem_nil,or_false]at h
 rcases h with rfl|rfl|rfl|rfl|rfl|rfl|rfl|rfl|rfl|rfl
 · exact .inl fun _=>⟨⟨_,rfl⟩,rfl⟩
 · exact .inl fun _=>⟨⟨_,rfl⟩,rfl⟩
 · exact .inl fun _=>⟨⟨_,rfl⟩,rfl⟩
 · refine .inr ⟨_,.inl rfl,by decide,fun x hx=>?_⟩
   simp only[List.mem_cons,List.not_mem_nil,or_false]at hx
   rcases hx with rfl|rfl<;>exact GA
 · exact .inr ⟨_,.inr (.inl rfl),by decide,fun x hx=>by cases hx⟩
 · exact .inr ⟨_,.inl rfl,by decide,fun x hx=>by cases hx⟩
 · exact .inl fun _=>⟨⟨_,rfl⟩,rfl⟩
 · refine .inr ⟨_,.inl rfl,by decide,fun x hx=>?_⟩
   simp only[List.mem_cons,List.not_mem_nil,or_false]at hx
   subst hx
   refine .inr ⟨_,.inl rfl,by decide,fun x hx=>?_⟩
   simp only[List.mem_cons,List.not_mem_nil,or_false]at hx
   subst hx
   exact yB (by decide)
 · exact .inl fun _=>⟨⟨_,rfl⟩,rfl⟩
 · exact .inl fun _=>⟨⟨_,rfl⟩,rfl⟩
theorem CC:∀ds st K,j7 ds st K→ds.length=1∧EU {nx:=fun _ st'=>K .aA st',rt:=K} (a6 oq ds) st:=by
 rintro ds st K ⟨n,b,rfl,B,hb,k⟩
 refine⟨rfl,?_⟩
 refine⟨Nat.le_of_ble_eq_true rfl,Nat.le_of_ble_eq_true rfl,Nat.le_of_ble_eq_true rfl,Nat.le_of_ble_eq_true rfl,Nat.le_of_ble_eq_true rfl,eW (rg ⟨by decide,by decide,by decide⟩ ⟨Nat.le_of_ble_eq_true rfl,?_⟩)⟩
 refine cv (xs:=mN) rfl ?_
 refine⟨n,10,b,rfl,B,by omega,by decide,by decide,fun r st1 r0 r1 B1 U1=>?_⟩
 obtain⟨v,hv,ev⟩:=pick (xs:=mN) r0 r1
 exact aH (xs:=mN) rfl ev (k v st1 hv B1 U1)
noncomputable def kv:cC:=fun ds st K=>∃(n:Nat) (b:Int) (m w:Nat) (A:List (List Int)),ds=[.ref n,aL A]∧Hd st n b∧b≤600000000∧Mx.cu m w A∧m≤8∧1≤w∧w≤9∧(∀r∈A,∀x∈r,x.natAbs≤2^60000003)∧∀d st',kG st' (st.length-1) d→Hd st' n (b+4)→XU st n st'→K d st'
noncomputable def iG:List Str:=["_law_hand_here","_law_rows_here","_law_way","_law_k","_law_j"]
noncomputable def vh:DS:=(aE (bz 1 (kR (cZ (ab 1)) [none] (bB 0) bW (bF mr (ae (ab 0) aj))))
 (aE (bz 2 (aG bK (ae (ab 0) (ae (dC (.int 6)) aj))))
 (aE (cx (aM (aw zX (ab 1) (jv aj))) (ba (jv (ae (jv (ae (dC (.int 0)) aj)) aj))) bY)
 (aE (bz 3 (aG bK (ae (ab 0) (ae (bF cS (ae (ab 1) aj)) aj))))
 (aE (bz 4 (aG bK (ae (ab 0) (ae (bF zY (ae (dC (.int 1)) (ae (bF cS (ae (aw bp (ab 1) (ab 3)) aj)) aj))) aj))))
 (aE (cx (aM (aw eL (ab 2) (dC (.int 0)))) (dh (aw bp (ab 1) (ab 3)) (ab 4) (aw dE (aw bp (aw bp (ab 1) (ab 3)) (ab 4)) (aw bp (jv (ae (dC (.int 1)) (ae (j9 fN (dC (.int 1))) (ae (dC (.int 2)) (ae (j9 fN (dC (.int 7))) aj))))) (aG bK (ae (ab 0) (ae (dC (.int 4)) aj)))))) bY)
 (aE (cx (aM (aw eL (ab 2) (dC (.int 1)))) (jj (jP pX (ab 1) (ae (ab 3) aj))) bY)
 (aE (cx (aM (aw eL (ab 2) (dC (.int 2)))) (jj (jP oU (ab 1) (ae (ab 3) (ae (aw dm (jv (ae (dC (.int 0)) aj)) (bF cS (ae (aw bp (ab 1) (ab 3)) aj))) aj)))) bY)
 (aE (cx (aM (aw eL (ab 2) (dC (.int 3)))) (vd (vI (sS (ab 1) (ab 3)) (sS (ab 1) (j9 fN (dC (.int 1))))) (iy (ae (aw bp (ab 1) (j9 fN (dC (.int 1)))) (ae (aw bp (ab 1) (ab 3)) aj)))) bY)
 (aE (cx (aM (aw eL (ab 2) (dC (.int 4)))) (dh (aw bp (ab 1) (ab 3)) (ab 4) (aG j7 (ae (ab 0) aj))) bY)
 (aE (cx (aM (aw eL (ab 2) (dC (.int 5)))) (dh (ab 1) (ab 3) (aG j7 (ae (ab 0) aj))) bY)
 (ba (ab 1)))))))))))))
theorem IZ{σ:bM}{st:af}{K:DK}{n:Nat}{xs:List D}{to:DE}{ta:DA}(ho:∀K',K' (.ref n) st→to σ st K')(e:st[n]?=some (.lst xs))(ha:ta σ st fun ds st2=>(∃ys,st2[n]?=some (.lst ys))∧oU n ds st2 K):jP oU to ta σ st K:=by
 unfold jP
 refine ho _ ?_
 simp only[e]
 exact ha
theorem N_{st2:af}{K:DK}{n:Nat}{ys:List D}{i:Int}{d:D}(e2:st2[n]?=some (.lst ys))(h:0≤i∧i≤ys.length∧i<2^62∧ys.length<sizeLine)(k:K .aA (st2.set n (.lst (ys.take i.toNat++d::ys.drop i.toNat)))):(∃ys,st2[n]?=some (.lst ys))∧oU n [.int i,d] st2 K:=by
 refine⟨⟨ys,e2⟩,?_⟩
 unfold oU
 simp only[e2]
 exact⟨h,k⟩
theorem u3{st:af}:∀(A:List (List Int)) (L:Nat),(∀i r,A[i]?=some r→st[L+i]?=some (fm r))→pM st ((List.range A.length).map fun i=>L+i) (A.map aB)
 | [],_,_=>trivial
 |r::A,L,h=>by
  rw[List.length_cons,List.range_succ_eq_map,List.map_cons,List.map_map,List.map_cons]
  refine⟨h 0 r rfl,?_⟩
  have q:=u3 A (L+1) fun i r' e=>by
   have:=h (i+1) r' (by simpa using e)
   rwa [show L+(i+1)=L+1+i by omega]at this
  have e:(List.range A.length).map ((fun i=>L+i)∘Nat.succ)=(List.range A.length).map fun i=>L+1+i:=List.map_congr_left fun i _=>by
   show L+(i+1)=_
   omega
  rw[e]
  exact q
theorem HW{A:List (List Int)}:((A.map aB).map D.lst).all (pl 39)=true:=by
 refine List.all_eq_true.mpr fun d hd=>?_
 obtain⟨x,hx,rfl⟩:=List.mem_map.mp hd
 obtain⟨r,_,rfl⟩:=List.mem_map.mp hx
 unfold pl
 exact vU
theorem uj:∀ds st K,kv ds st K→ds.length=2∧vh {nx:=fun _ st'=>K .aA st',rt:=K} (a6 iG ds) st:=by
 rintro ds st K ⟨n,b,m,w,A,rfl,B0,hb,hA,hm8,hw1,hw9,oA,k⟩
 refine⟨rfl,?_⟩
 have hn:=B0.lt
 have hl:=hA.len
 obtain⟨p,hp⟩:∃p,p=st.length-1:=⟨_,rfl⟩
 rw[←hp]at k
 refine dk (fun σ' st'=>σ'=[some (.ref n),some (.ref (st.length+m)),none,none,none]∧st'=st++A.map fm++[.lst (dv st.length m)]) (fun nx hnx=>?_) ?_
 · refine ip ⟨bH (by simp;omega),?_⟩
   refine gd (fun rest acc st'=>∃A1 A2:List (List Int),A1++A2=A∧rest=A2.map cw∧acc=dv st.length A1.length∧st'=st++A1.map fm) ?_ ?_ _ _ _ ⟨[],A,rfl,rfl,rfl,by simp⟩
   · rintro acc st' ⟨A1,A2,he,hr,rfl,rfl⟩
     match A2,hr with
     | [],_=>
       rw[List.append_nil]at he
       subst he
       refine⟨trivial,?_⟩
       refine hnx _ _ ⟨?_,by rw[hl]⟩
       rw[List.length_append,List.length_map,hl]
       rfl
   · rintro d rest acc st' ⟨A1,A2,he,hr,rfl,rfl⟩ next
     match A2,hr with
     |r::A2,hr=>
      rw[List.map_cons,List.cons.injEq]at hr
      obtain⟨rfl,rfl⟩:=hr
      refine⟨trivial,_,rfl,p_ rfl ?_⟩
      show cP _ _ _ _ _ _ _ _ _
      rw[List.length_append,List.length_map,xM]
      exact next _ _ ⟨A1++[r],A2,by rw[←he];simp,rfl,by simp,by simp⟩
 rintro σ' st' ⟨rfl,rfl⟩
 have I1:kK (st++A.map fm++[.lst (dv st.length m)]) st.length m A (.ref (st.length+m)):=by
  refine⟨rfl,?_,fun i r e=>?_⟩
  · rw[List.getElem?_append_right (by simp;omega)]
    simp[hl]
  · have hi:=(List.getElem?_eq_some_iff.mp e).1
    rw[List.append_assoc,List.getElem?_append_right (by omega),List.getElem?_append_left (by simp;omega)]
    rw[Nat.add_sub_cancel_left,List.getElem?_map,e];rfl
 have X1:Ext st (st++A.map fm++[.lst (dv st.length m)]):=Ext.trans Ext.push Ext.push
 have B1:=B0.ext X1
 generalize(st++A.map fm++[.lst (dv st.length m)])=st1 at I1 X1 B1⊢
 refine⟨n,6,_,rfl,B1,by omega,by decide,by decide,fun kd st2 k0 k1 B2 U2=>?_⟩
 have I2:=I1.upd hn U2
 refine⟨Nat.le_of_ble_eq_true rfl,?_⟩
 refine Kn (ns:=(List.range A.length).map fun i=>st.length+i) (rs:=A.map aB) (by rw[List.map_map,hl];exact I2.top) (u3 A _ I2.row) HW rfl ?_
 by_cases h0:A=[]
 · subst h0
   have e0:cy (.lst ((([]:List (List Int)).map aB).map D.lst)) (.lst [])=true:=by unfold cy;show eU [] []=true;unfold eU;rfl
   rw[e0]
   refine⟨Nat.le_of_ble_eq_true rfl,Nat.le_of_ble_eq_true rfl,?_⟩
   refine k _ _ (.inr ⟨_,.inr (.inl rfl),by decide,fun x hx=>?_⟩) (B2.mono (by omega)) ((XU.ext X1).trans (XU.upd U2))
   simp only[List.mem_cons,List.not_mem_nil,or_false]at hx
   subst hx
   refine .inr ⟨_,.inr (.inl rfl),by decide,fun x hx=>?_⟩
   simp only[List.mem_cons,List.not_mem_nil,or_false]at hx
   subst hx
   exact yB (by decide)
 have hm1:1≤m:=by
  have:A.length≠0:=fun z=>h0 (List.length_eq_zero_iff.mp z)
  omega
 have e0:cy (.lst ((A.map aB).map D.lst)) (.lst [])=false:=by unfold cy;exact jW (by simp;omega)
 rw[e0]
 refine cv (az I2.top) ?_
 rw[dM]
 refine⟨n,m,_,rfl,B2,by omega,by omega,by omega,fun i st3 i0 i1 B3 U3=>?_⟩
 obtain⟨i,rfl⟩:=Int.eq_ofNat_of_zero_le i0
 have I3:=I2.upd hn U3
 have hi:i<m:=by omega
 have hri:(A.getD i []).length=w:=hA.row hi
 refine aH (az I3.top) (nD hi) (cv (az (I3.cell hA hi)) (Lb ?_))
 rw[List.length_map,hri]
 have emax:(if(w:Int)>1 then(w:Int)else 1)=w:=by split<;>omega
 rw[emax]
 refine⟨n,w,_,rfl,B3,by omega,by omega,by omega,fun j st4 j0 j1 B4 U4=>?_⟩
 obtain⟨j,rfl⟩:=Int.eq_ofNat_of_zero_le j0
 have I4:=I3.upd hn U4
 have hj:j<w:=by omega
 have X4:XU st n st4:=(XU.ext X1).trans ((XU.upd U2).trans ((XU.upd U3).trans (XU.upd U4)))
 have oR:∀x∈A.getD i [],x.natAbs≤2^60000003:=fun x hx=>oA _ (by rw[Mx.aS (by omega)];exact List.getElem_mem _) x hx
 let J:Int→bM→af→Prop:=fun q σ' st'=>∃d,σ'=[some (.ref n),some d,some (.int kd),some (.int (i:Int)),some (.int (j:Int))]∧kG st' p d∧XU st n st'∧(q≤kd→Hd st' n (b+3)∧kK st' st.length m A d)∧Hd st' n (b+4)
 have J0:J 0 [some (.ref n),some (.ref (st.length+m)),some (.int kd),some (.int (i:Int)),some (.int (j:Int))] st4:=⟨_,rfl,(I4.rws (n:=p) (by omega) hA hw9 oA).th (by omega) I4.top (by rw[dM];omega) fun x hx=> .inl (iP hx),X4,fun _=>⟨B4.mono (by omega),I4⟩,B4.mono (by omega)⟩
 have i4:∀ {q:Int} {σ':bM} {st':af},kd≠q→J q σ' st'→J (q+1) σ' st':=fun hq ⟨d,e,t,x,i,b⟩=>⟨d,e,t,x,fun h=>i (by omega),b⟩
 have done:∀ {q:Int} {d:D} {st':af},kd=q→kG st' p d→XU st n st'→Hd st' n (b+4)→J (q+1) [some (.ref n),some d,some (.int kd),some (.int (i:Int)),some (.int (j:Int))] st':=fun hq t x b=>⟨_,rfl,t,x,fun h=>absurd h (by omega),b⟩
 dsimp only
 refine dk (J 1) (fun nx hnx=>?_) ?_
 · refine eq2 (fun h=>dc ?_) fun h=>hnx _ _ (i4 h J0)
   refine aH (az I4.top) (nD hi) (aH (az (I4.cell hA hi)) (fR (by omega)) ?_)
   refine eW (eW ⟨Nat.le_of_ble_eq_true rfl,?_⟩)
   refine⟨n,4,_,rfl,B4,by omega,by decide,by decide,fun z st5 z0 z1 B5 U5=>?_⟩
   have I5:=I4.upd hn U5
   obtain⟨v,hv,ev⟩:=pick (xs:=[.int 1,.int (-1),.int 2,.int (-7)]) z0 z1
   refine aH rfl ev ?_
   obtain⟨y,rfl,hy⟩:∃y:Int,v= .int y∧y.natAbs≤2^60000003:=by
    have q7:(7:Nat)≤2^60000003:=Nat.le_trans (show 7≤2^3 by decide) (Nat.pow_le_pow_right (by decide) (by decide))
    simp only[List.mem_cons,List.not_mem_nil,or_false]at hv
    rcases hv with rfl|rfl|rfl|rfl
    · exact⟨_,rfl,Nat.le_trans (by decide) q7⟩
    · exact⟨_,rfl,Nat.le_trans (by decide) q7⟩
    · exact⟨_,rfl,Nat.le_trans (by decide) q7⟩
    · exact⟨_,rfl,Nat.le_trans (by decide) q7⟩
   refine d8 (aH (az I5.top) (nD hi) (eE (I5.cell hA hi) (lZ (by omega) (by rw[List.length_map];omega)) ?_))
   rw[Int.toNat_natCast]
   have R:=(I5.rws (n:=p) (by omega) hA hw9 oA).set hi (ys:=(aB (A.getD i [])).set j (.int ((A.getD i []).getD j 0+y))) (by rw[List.length_set,List.length_map];omega) fun q hq=>by
    rcases gZ hq with hq|rfl
    · obtain⟨z,hz,rfl⟩:=List.mem_map.mp hq
      exact vS (oR z hz)
    · exact IQ (oR _ (by rw[Mx.aS (show j<(A.getD i []).length by omega)];exact List.getElem_mem _)) hy
   exact hnx _ _ (done h (R.th (by omega) (by rw[List.getElem?_set_ne (by omega)];exact I5.top) (by rw[dM];omega) fun x hx=> .inl (iP hx)) ((X4.trans (XU.upd U5)).set (by omega)) ((B5.cell (List.getElem?_set_ne (by omega))).mono (by omega)))
 rintro σ' st' ⟨d,rfl,t,x,iq,bq⟩
 refine dk (J 2) (fun nx hnx=>?_) ?_
 · refine eq2 (fun h=>dc ?_) fun h=>hnx _ _ (i4 h ⟨d,rfl,t,x,iq,bq⟩)
   obtain⟨B5,I5⟩:=iq (by omega)
   have hd:=I5.is
   subst hd
   have ht:=(List.getElem?_eq_some_iff.mp I5.top).1
   have R5:=I5.rws (n:=p) (by omega) hA hw9 oA
   have ge:(dv st.length m)[i]?=some (.ref (st.length+i)):=by unfold dv;rw[List.getElem?_map,List.getElem?_range hi];rfl
   refine Be (i:=(i:Int)) (fun K' q=>q) (fun K' q=>q) I5.top ⟨by omega,by omega⟩ (lZ (by omega) (by rw[dM];omega)) (by rw[Int.toNat_natCast];exact ge) ?_
   rw[Int.toNat_natCast]
   exact hnx _ _ (done h ((R5.G7 (Nat.le_refl _)).th (by omega) (List.getElem?_set_self ht) (by have:=List.length_eraseIdx_le (dv st.length m) i;rw[dM]at this;omega) fun x hx=> .inl (iP (List.mem_of_mem_eraseIdx hx))) (x.set (by omega)) ((B5.cell (List.getElem?_set_ne (by omega))).mono (by omega)))
 clear iq bq t x d st'
 rintro σ' st' ⟨d,rfl,t,x,iq,bq⟩
 refine dk (J 3) (fun nx hnx=>?_) ?_
 · refine eq2 (fun h=>dc ?_) fun h=>hnx _ _ (i4 h ⟨d,rfl,t,x,iq,bq⟩)
   obtain⟨B5,I5⟩:=iq (by omega)
   have hd:=I5.is
   subst hd
   have ht:=(List.getElem?_eq_some_iff.mp I5.top).1
   have R5:=I5.rws (n:=p) (by omega) hA hw9 oA
   have c5:=I5.cell hA hi
   refine IZ (fun K' q=>q) I5.top ?_
   refine xD (Nat.le_of_ble_eq_true rfl) (aH (az I5.top) (nD hi) (cv (az c5) ?_))
   rw[List.length_map,hri]
   refine sN ⟨by omega,by omega,bH (by simp;omega)⟩ ?_
   rw[Int.toNat_natCast,nN]
   refine N_ I5.top ⟨by omega,by rw[dM];omega,by omega,by rw[sizeLine_eq,dM];omega⟩ ?_
   rw[Int.toNat_natCast]
   refine hnx _ _ (done h ((R5.G7 (Nat.le_refl _)).th (by omega) (List.getElem?_set_self ht) (by rw[List.length_append,List.length_cons,List.length_take,List.length_drop,dM];omega) fun x hx=>?_) (x.set (by omega)) ((B5.cell (List.getElem?_set_ne (by omega))).mono (by omega)))
   rcases List.mem_append.mp hx with hx|hx
   · exact .inl (iP (List.mem_of_mem_take hx))
   · rcases List.mem_cons.mp hx with rfl|hx
     · refine .inr (.inr ⟨_,.inr (.inl rfl),by rw[List.length_map,List.length_replicate];omega,fun y hy=>?_⟩)
       obtain⟨z,hz,rfl⟩:=List.mem_map.mp hy
       rw[(List.mem_replicate.mp hz).2]
       exact yB (by decide)
     · exact .inl (iP (List.mem_of_mem_drop hx))
 clear iq bq t x d st'
 rintro σ' st' ⟨d,rfl,t,x,iq,bq⟩
 refine dk (J 4) (fun nx hnx=>?_) ?_
 · refine eq2 (fun h=>dc ?_) fun h=>hnx _ _ (i4 h ⟨d,rfl,t,x,iq,bq⟩)
   obtain⟨B5,I5⟩:=iq (by omega)
   have hd:=I5.is
   subst hd
   have ht:=(List.getElem?_eq_some_iff.mp I5.top).1
   have R5:=I5.rws (n:=p) (by omega) hA hw9 oA
   have el:jA m (-1)=some (m-1):=nI (j:=1) (by decide) hm1
   have al:dQ (dv st.length m) (-1)=some (.ref (st.length+(m-1))):=by
    unfold dQ
    rw[dM,el]
    show(dv st.length m)[m-1]?=_
    unfold dv
    rw[List.getElem?_map,List.getElem?_range (by omega)];rfl
   refine eW (aH (az I5.top) al (aH (az I5.top) (nD hi) ⟨Nat.le_of_ble_eq_true rfl,?_⟩))
   refine eE I5.top (lZ (by omega) (by rw[dM];omega)) ?_
   rw[Int.toNat_natCast]
   refine eW (eE (List.getElem?_set_self ht) (by rw[List.length_set,dM];exact el) ?_)
   rw[List.set_set]
   refine hnx _ _ (done h ((R5.G7 (Nat.le_refl _)).th (by omega) (List.getElem?_set_self ht) (by rw[List.length_set,List.length_set,dM];omega) fun x hx=>?_) (x.set (by omega)) ((B5.cell (List.getElem?_set_ne (by omega))).mono (by omega)))
   rcases gZ hx with hx|rfl
   · rcases gZ hx with hx|rfl
     · exact .inl (iP hx)
     · exact .inl ⟨_,by omega,rfl⟩
   · exact .inl ⟨_,hi,rfl⟩
 clear iq bq t x d st'
 rintro σ' st' ⟨d,rfl,t,x,iq,bq⟩
 refine dk (J 5) (fun nx hnx=>?_) ?_
 · refine eq2 (fun h=>dc ?_) fun h=>hnx _ _ (i4 h ⟨d,rfl,t,x,iq,bq⟩)
   obtain⟨B5,I5⟩:=iq (by omega)
   have hd:=I5.is
   subst hd
   refine⟨n,_,rfl,B5,by omega,fun v st6 hv B6 U6=>?_⟩
   have I6:=I5.upd hn U6
   refine aH (az I6.top) (nD hi) (eE (I6.cell hA hi) (lZ (by omega) (by rw[List.length_map];omega)) ?_)
   rw[Int.toNat_natCast]
   have R:=(I6.rws (n:=p) (by omega) hA hw9 oA).set hi (ys:=(aB (A.getD i [])).set j v) (by rw[List.length_set,List.length_map];omega) fun q hq=>by
    rcases gZ hq with hq|rfl
    · obtain⟨z,hz,rfl⟩:=List.mem_map.mp hq
      exact vS (oR z hz)
    · exact Oi hv
   exact hnx _ _ (done h (R.th (by omega) (by rw[List.getElem?_set_ne (by omega)];exact I6.top) (by rw[dM];omega) fun x hx=> .inl (iP hx)) ((x.trans (XU.upd U6)).set (by omega)) ((B6.cell (List.getElem?_set_ne (by omega))).mono (by omega)))
 clear iq bq t x d st'
 rintro σ' st' ⟨d,rfl,t,x,iq,bq⟩
 refine dk (J 6) (fun nx hnx=>?_) ?_
 · refine eq2 (fun h=>dc ?_) fun h=>hnx _ _ (i4 h ⟨d,rfl,t,x,iq,bq⟩)
   obtain⟨B5,I5⟩:=iq (by omega)
   have hd:=I5.is
   subst hd
   refine⟨n,_,rfl,B5,by omega,fun v st6 hv B6 U6=>?_⟩
   have I6:=I5.upd hn U6
   have ht6:=(List.getElem?_eq_some_iff.mp I6.top).1
   refine eE I6.top (lZ (by omega) (by rw[dM];omega)) ?_
   rw[Int.toNat_natCast]
   refine hnx _ _ (done h (((I6.rws (n:=p) (by omega) hA hw9 oA).G7 (Nat.le_refl _)).th (by omega) (List.getElem?_set_self ht6) (by rw[List.length_set,dM];omega) fun x hx=>?_) ((x.trans (XU.upd U6)).set (by omega)) ((B6.cell (List.getElem?_set_ne (by omega))).mono (by omega)))
   rcases gZ hx with hx|rfl
   · exact .inl (iP hx)
   · exact .inr (Ox hv)
 clear iq bq t x d st'
 rintro σ' st' ⟨d,rfl,t,x,iq,bq⟩
 exact k d st' t bq x
noncomputable def Ka(st:af)(n:Nat)(d:D):Prop:=Flat d∨∃xs,tZ st n d xs∧∀x∈xs,kG st n x
theorem Ka.lK{st:af}{n:Nat}{d:D}(h:Ka st n d):r8 st d:=by
 rcases h with h|⟨xs,l,q⟩
 · exact⟨(h st).1,fun ys e=>by rw[(h st).2]at e;cases e⟩
 · refine⟨l.any,fun ys e x hx=>?_⟩
   rw[l.items]at e
   cases e
   exact⟨(q x hx).lK,(q x hx).small⟩
noncomputable def Hb(m w:Nat)(A:List (List Int)):Prop:=Mx.cu m w A∧m≤8∧1≤w∧w≤9∧∀r∈A,∀x∈r,x.natAbs≤2^60000003
noncomputable def qx:cC:=fun ds st K=>∃(n:Nat) (b:Int) (F U V:List (List Int)),ds=[.ref n,.tup [aL F,aL U,aL V]]∧Hd st n b∧b≤500000000∧(∀x∈[F,U,V],∃m w,Hb m w x)∧∀d st',r8 st' d→Hd st' n (b+8)→XU st n st'→K d st'
noncomputable def ng:List Str:=["_law_hand_here","_law_told","_law_bent_here","_law_at","_law_way"]
noncomputable def Ce:DS:=(aE (bz 2 (bF mr (ae (ab 1) aj)))
 (aE (bz 3 (aG bK (ae (ab 0) (ae (dC (.int 3)) aj))))
 (aE (bz 4 (aG bK (ae (ab 0) (ae (dC (.int 12)) aj))))
 (aE (cx (aM (aw eL (ab 4) (dC (.int 0)))) (dh (ab 2) (ab 3) (aG j7 (ae (ab 0) aj))) (cx (aM (aw eL (ab 4) (dC (.int 1)))) (jj (jP pX (ab 2) (ae (ab 3) aj))) (cx (aM (aw eL (ab 4) (dC (.int 2)))) (jj (nv (ab 2) (iy aj))) (cx (aM (aw eL (ab 4) (dC (.int 3)))) (ba (aG j7 (ae (ab 0) aj))) (dh (ab 2) (ab 3) (aG kv (ae (ab 0) (ae (aw bp (ab 1) (ab 3)) aj))))))))
 (ba (aw bp (jv (ae (ab 2) (ae (bF dB (ae (ab 2) aj)) aj))) (aG bK (ae (ab 0) (ae (dC (.int 2)) aj)))))))))
theorem D2{st:af}{n m w:Nat}{A:List (List Int)}(h:Hb m w A):kG st n (aL A):=by
 obtain⟨hA,hm,_,hw,oA⟩:=h
 refine .inr ⟨_,.inl rfl,by rw[List.length_map,hA.len];omega,fun x hx=>?_⟩
 obtain⟨r,hr,rfl⟩:=List.mem_map.mp hx
 refine .inr ⟨_,.inl rfl,by rw[List.length_map,hA.gW r hr];omega,fun y hy=>?_⟩
 obtain⟨z,hz,rfl⟩:=List.mem_map.mp hy
 exact vS (oA r hr z hz)
theorem N0{st:af}{n:Nat}{d:D}(h:d∈mN):Ka st n d:=by
 rcases JU (st:=st) (n:=n) h with h|⟨xs,l,_,q⟩
 · exact .inl h
 · refine .inr ⟨xs,l,?_⟩
   unfold mN at h
   simp only[List.mem_cons,List.not_mem_nil,or_false]at h
   have tf:∀i:Int,kG st n (.int i):=fun i=> .inl fun _=>⟨⟨_,rfl⟩,rfl⟩
   rcases h with rfl|rfl|rfl|rfl|rfl|rfl|rfl|rfl|rfl|rfl
   · cases l.items
   · cases l.items
   · cases l.items
   · cases l.items
     intro x hx
     simp only[List.mem_cons,List.not_mem_nil,or_false]at hx
     rcases hx with rfl|rfl<;>exact tf _
   · cases l.items
     intro x hx;cases hx
   · cases l.items
     intro x hx;cases hx
   · cases l.items
   · cases l.items
     intro x hx
     simp only[List.mem_cons,List.not_mem_nil,or_false]at hx
     subst hx
     refine .inr ⟨_,.inl rfl,by decide,fun x hx=>?_⟩
     simp only[List.mem_cons,List.not_mem_nil,or_false]at hx
     subst hx
     exact GA
   · cases l.items
   · cases l.items
theorem AS:∀ds st K,qx ds st K→ds.length=2∧Ce {nx:=fun _ st'=>K .aA st',rt:=K} (a6 ng ds) st:=by
 rintro ds st K ⟨n,b,F,U,V,rfl,B0,hb,hB,k⟩
 refine⟨rfl,?_⟩
 have hn:=B0.lt
 have hF:∀x∈[aL F,aL U,aL V],∃m w A,Hb m w A∧x=aL A:=fun x hx=>by
  simp only[List.mem_cons,List.not_mem_nil,or_false]at hx
  rcases hx with rfl|rfl|rfl
  · obtain⟨m,w,h⟩:=hB F (by simp);exact⟨m,w,F,h,rfl⟩
  · obtain⟨m,w,h⟩:=hB U (by simp);exact⟨m,w,U,h,rfl⟩
  · obtain⟨m,w,h⟩:=hB V (by simp);exact⟨m,w,V,h,rfl⟩
 refine p_ (xs:=[aL F,aL U,aL V]) rfl ?_
 have X1:Ext st (st++[.lst [aL F,aL U,aL V]]):=Ext.push
 have B1:=B0.ext X1
 have c1:(st++[Cell.lst [aL F,aL U,aL V]])[st.length]?=some (.lst [aL F,aL U,aL V]):=by simp
 have l1:(st++[Cell.lst [aL F,aL U,aL V]]).length=st.length+1:=by simp
 generalize(st++[Cell.lst [aL F,aL U,aL V]])=st1 at X1 B1 c1 l1⊢
 refine⟨n,3,_,rfl,B1,by omega,by decide,by decide,fun a st2 a0 a1 B2 U2=>?_⟩
 refine⟨n,12,_,rfl,B2,by omega,by decide,by decide,fun y st3 y0 y1 B3 U3=>?_⟩
 have c3:st3[st.length]?=some (.lst [aL F,aL U,aL V]):=(U3.same _ (by omega)).trans ((U2.same _ (by omega)).trans c1)
 have l3:st3.length=st.length+1:=by rw[U3.len,U2.len,l1]
 have X3:XU st n st3:=(XU.ext X1).trans ((XU.upd U2).trans (XU.upd U3))
 obtain⟨v,hv,ev⟩:=pick (xs:=[aL F,aL U,aL V]) a0 a1
 have ia:jA ([aL F,aL U,aL V]:List D).length a=some a.toNat:=lZ a0 (by show a.toNat<3;omega)
 have base:∀ {st':af},∀x∈[aL F,aL U,aL V],kG st' st.length x:=fun x hx=>by
  obtain⟨m,w,A,h,rfl⟩:=hF x hx
  exact D2 h
 dsimp only
 refine dk (fun σ' st'=>∃xs,σ'=[some (.ref n),some (.tup [aL F,aL U,aL V]),some (.ref st.length),some (.int a),some (.int y)]∧st'[st.length]?=some (.lst xs)∧(∀x∈xs,kG st' st.length x)∧Hd st' n (b+7)∧XU st n st') (fun nx hnx=>?_) ?_
 · refine eq2 (fun h=>dc ?_) fun h=>wb (eq2 (fun h=>dc ?_) fun h=>wb (eq2 (fun h=>dc ?_) fun h=>wb (eq2 (fun h=>dc ?_) fun h=>wb ?_)))
   · refine⟨n,_,rfl,B3,by omega,fun d st4 hd B4 U4=>?_⟩
     have c4:=(U4.same st.length (by omega)).trans c3
     refine eE c4 ia ?_
     refine hnx _ _ ⟨_,rfl,List.getElem?_set_self (List.getElem?_eq_some_iff.mp c4).1,fun x hx=>?_,(B4.cell (List.getElem?_set_ne (by omega))).mono (by omega),(X3.trans (XU.upd U4)).set (Nat.le_refl _)⟩
     rcases gZ hx with hx|rfl
     · exact base x hx
     · exact JU hd
   · refine Be (i:=a) (fun K' q=>q) (fun K' q=>q) c3 ⟨by omega,by omega⟩ ia (by
      have:=ev;unfold dQ at this;rw[ia]at this;exact this) ?_
     exact hnx _ _ ⟨_,rfl,List.getElem?_set_self (List.getElem?_eq_some_iff.mp c3).1,fun x hx=>base x (List.mem_of_mem_eraseIdx hx),(B3.cell (List.getElem?_set_ne (by omega))).mono (by omega),X3.set (Nat.le_refl _)⟩
   · refine EW (by rfl) c3 ⟨Nat.le_of_ble_eq_true rfl,BR c3 (by rw[sizeLine_eq];show 3<16777216;decide) ?_⟩
     refine hnx _ _ ⟨_,rfl,List.getElem?_set_self (List.getElem?_eq_some_iff.mp c3).1,fun x hx=>?_,(B3.cell (List.getElem?_set_ne (by omega))).mono (by omega),X3.set (Nat.le_refl _)⟩
     rcases List.mem_append.mp hx with hx|hx
     · exact base x hx
     · have:x= .tup []:=by simpa using hx
       subst this
       exact .inr ⟨[],.inl rfl,by simp,by simp⟩
   · refine⟨n,_,rfl,B3,by omega,fun d st4 hd B4 U4=>?_⟩
     exact k d st4 (N0 (n:=0) hd).lK (B4.mono (by omega)) (X3.trans (XU.upd U4))
   · obtain⟨m,w,A,⟨hA,hm,hw1,hw,oA⟩,rfl⟩:=hF v hv
     refine aH rfl ev ⟨n,_,m,w,A,rfl,B3,by omega,hA,hm,hw1,hw,oA,fun d st4 td B4 X4=>?_⟩
     have c4:=(X4.same st.length (by omega) (by omega)).trans c3
     rw[l3]at td
     refine eE c4 ia ?_
     refine hnx _ _ ⟨_,rfl,List.getElem?_set_self (List.getElem?_eq_some_iff.mp c4).1,fun x hx=>?_,(B4.cell (List.getElem?_set_ne (by omega))).mono (by omega),(X3.trans X4).set (Nat.le_refl _)⟩
     rcases gZ hx with hx|rfl
     · exact base x hx
     · exact kG.xb td (XB.set (Nat.le_refl _))
 rintro σ' st' ⟨xs,rfl,c,tx,B,X⟩
 refine dg (az c) ⟨Nat.le_of_ble_eq_true rfl,?_⟩
 refine⟨n,2,_,rfl,B,by omega,by decide,by decide,fun z st4 z0 z1 B4 U4=>?_⟩
 obtain⟨u,hu,eu⟩:=pick (xs:=[.ref st.length,.tup xs]) z0 z1
 refine aH rfl eu ?_
 have c4:=(U4.same st.length (by omega)).trans c
 have t4:∀x∈xs,kG st4 st.length x:=fun x hx=>(tx x hx).xb (XB.upd U4 (by omega))
 have t5:∀x∈xs,jD st4 x∧oZ st4 x:=fun x hx=>⟨(t4 x hx).lK,(t4 x hx).small⟩
 refine k u st4 ?_ (B4.mono (by omega)) (X.trans (XU.upd U4))
 simp only[List.mem_cons,List.not_mem_nil,or_false]at hu
 rcases hu with rfl|rfl
 · exact⟨⟨_,zx c4⟩,fun ys e=>by rw[az c4]at e;cases e;exact t5⟩
 · exact⟨⟨_,rfl⟩,fun ys e=>by cases e;exact t5⟩
noncomputable def Ae(N k:Nat)(o:Int)(r:List Int):List Int:=r.set (N-1) (r.getD (N-1) 0-o*r.getD k 0)
noncomputable def i6(V:List (List Int))(N k:Nat)(o:Int):List (List Int):=V.map (Ae N k o)
noncomputable def pj:cC:=fun ds st K=>∃(n:Nat) (b:Int) (N:Nat) (F U V:List (List Int)),ds=[.ref n,.tup [aL F,aL U,aL V]]∧Hd st n b∧b≤400000000∧2≤N∧N≤8∧F.length≤N∧Mx.cu N N U∧Mx.cu N N V∧
 (F.length=N→K (.tup [aL F,aL U,aL V]) st)∧
 (F.length<N→∀(k:Nat) (o:Int) (t v:D) (st':af),k<N-1→1≤o→o≤5→cV st' t (Mx.bw U k (-o) (N-1))→cV st' v (i6 V N k o)→Hd st' n (b+2)→XU st n st'→K (.tup [aL F,t,v]) st')
noncomputable def lI:List Str:=["_law_hand_here","_law_told","_law_form","_law_turn","_law_back","_law_often","_law_k","_law_turned","_law_behind","_law_row"]
noncomputable def AR:DS:=(aE (C1 (sJ 2 3 4) (ab 1))
 (aE (cx (aM (aw eL (bF cS (ae (ab 2) aj)) (bF cS (ae (ab 3) aj)))) (ba (ab 1)) bY)
 (aE (bz 5 (aw dE (dC (.int 1)) (aG bK (ae (ab 0) (ae (dC (.int 5)) aj)))))
 (aE (bz 6 (aG bK (ae (ab 0) (ae (aw mE (bF cS (ae (ab 3) aj)) (dC (.int 1))) aj))))
 (aE (bz 7 (kR (cZ (ab 3)) [none] (bB 0) bW (bF kE (ae (ab 0) aj))))
 (aE (dh (ab 7) (ab 6) (cM (rk (ae (aw bp (ab 3) (ab 6)) (ae (aw bp (ab 3) (j9 fN (dC (.int 1)))) aj))) [none,none,some 5] (iJ 0 1) bW (aw dE (ab 0) (aw dm (ab 2) (ab 1)))))
 (aE (bz 8 (cM (cZ (ab 4)) [none] (bB 0) bW (bF mr (ae (ab 0) aj))))
 (aE (i9 (cZ (ab 8)) (bB 9) (dh (ab 9) (j9 fN (dC (.int 1))) (aw mE (aw bp (ab 9) (j9 fN (dC (.int 1)))) (aw dm (ab 5) (aw bp (ab 9) (ab 6))))))
 (ba (iy (ae (ab 2) (ae (ab 7) (ae (ab 8) aj)))))))))))))
noncomputable def pC(d:D):D:=match d with| .tup xs=> .lst xs|_=>d
theorem pQ(A:List (List Int)):(A.map cw).map pC=A.map a7:=by rw[List.map_map];rfl
theorem tV{st:af}:∀ {A:List (List Int)},br st (A.map a7) A
 | []=>trivial
 |_::_=>⟨rfl,tV⟩
theorem Ic{U:List (List Int)}{N:Nat}{f:List Int→D}(h:U.length=N)(hN:1≤N):dQ (U.map f) (-1)=some (f (U.getD (N-1) [])):=by
 unfold dQ
 rw[List.length_map,h,show((-1:Int))= -((1:Nat):Int)from rfl,nI (by decide) hN]
 show(U.map f)[N-1]?=_
 rw[List.getElem?_map,List.getElem?_eq_getElem (by omega),Mx.aS (by omega)];rfl
theorem ug{st:af}{L:Nat}:∀ {V:List (List Int)} {s:Nat},(∀i r,V[i]?=some r→st[L+(s+i)]?=some (fm r))→br st ((List.range V.length).map fun i=>D.ref (L+(s+i))) V
 | [],_,_=>trivial
 |r::V,s,h=>by
  rw[List.length_cons,List.range_succ_eq_map,List.map_cons,List.map_map]
  refine⟨az (h 0 r rfl),?_⟩
  have q:=ug (V:=V) (s:=s+1) fun i r' e=>by
   have:=h (i+1) r' (by simpa using e)
   rwa [show s+(i+1)=s+1+i by omega]at this
  have e:(List.range V.length).map ((fun i=>D.ref (L+(s+i)))∘Nat.succ)=(List.range V.length).map fun i=>D.ref (L+(s+1+i)):=List.map_congr_left fun i _=>by
   show D.ref (L+(s+(i+1)))=_
   rw[show s+(i+1)=s+1+i by omega]
  rw[e]
  exact q
theorem yK:∀ds st K,pj ds st K→ds.length=2∧AR {nx:=fun _ st'=>K .aA st',rt:=K} (a6 lI ds) st:=by
 rintro ds st K ⟨n,b,N,F,U,V,rfl,B0,hb,hN2,hN8,hF,hU,hV,k1,k2⟩
 refine⟨rfl,?_⟩
 have hn:=B0.lt
 have lU:=hU.len
 have lV:=hV.len
 refine⟨_,rfl,?_⟩
 refine cv (xs:=F.map cw) rfl (cv (xs:=U.map cw) rfl ?_)
 rw[List.length_map,List.length_map,lU]
 refine eq2 (fun h=>dc (k1 (by omega))) fun h=>wb ?_
 have hFN:F.length<N:=by omega
 refine⟨n,5,_,rfl,B0,by omega,by decide,by decide,fun o st1 o0 o1 B1 U1=>?_⟩
 refine d8 (cv (xs:=U.map cw) rfl (my ?_))
 rw[List.length_map,lU]
 refine⟨n,(N:Int)-1,_,rfl,B1,by omega,by omega,by omega,fun kk st2 q0 q1 B2 U2=>?_⟩
 obtain⟨kk,rfl⟩:=Int.eq_ofNat_of_zero_le q0
 have hk:kk<N-1:=by omega
 have X2:XU st n st2:=(XU.upd U1).trans (XU.upd U2)
 have l2:st2.length=st.length:=by rw[U2.len,U1.len]
 have n2:n<st2.length:=by omega
 refine ip (xs:=U.map cw) ⟨bH (by rw[List.length_map];omega),comp_map (g:=pC) trivial _ (fun y hy K2 q2=>?_) ?_⟩
 · obtain⟨r,_,rfl⟩:=List.mem_map.mp hy
   exact⟨_,rfl,kY rfl q2⟩
 rw[pQ]
 have B3:=B2.ext (Ext.push (c:=[Cell.lst (U.map a7)]))
 have X3:XU st n (st2++[Cell.lst (U.map a7)]):=X2.trans (XU.ext Ext.push)
 have c3:(st2++[Cell.lst (U.map a7)])[st2.length]?=some (.lst (U.map a7)):=by simp
 have l3:(st2++[Cell.lst (U.map a7)]).length=st2.length+1:=by simp
 dsimp only
 generalize(st2++[Cell.lst (U.map a7)])=st3 at B3 X3 c3 l3⊢
 have ak:dQ (U.map cw) (kk:Int)=some (cw (U.getD kk [])):=gz (by rw[List.getElem?_map,List.getElem?_eq_getElem (by omega),Mx.aS (by omega)];rfl)
 have wk:(U.getD kk []).length=N:=hU.row (by omega)
 have wl:(U.getD (N-1) []).length=N:=hU.row (by omega)
 refine aH (xs:=U.map cw) rfl ak (eW (aH (xs:=U.map cw) rfl (Ic lU (by omega)) ?_))
 refine pw (xs:=aB (U.getD kk [])) (ys:=aB (U.getD (N-1) [])) rfl rfl fun ok aI=>⟨bH (by rw[nJ,List.length_map,List.length_map];omega),?_⟩
 refine comp_map (g:=fun d=>match d with| .tup [.int x,.int y]=> .int (x+(1+o)*y)|_=> .aA) (aI st3 rfl rfl) _ (fun d hd K' q=>?_) ?_
 · obtain⟨x,y,_,_,rfl⟩:=qf hd
   exact⟨_,rfl,fI (jd (by omega) (by omega)) (d8 q)⟩
 have ea:(g7 (aB (U.getD kk [])) (aB (U.getD (N-1) []))).map (fun d=>match d with| .tup [.int x,.int y]=> .int (x+(1+o)*y)|_=> .aA)=aB (Mx.fH (U.getD kk []) (1+o) (U.getD (N-1) [])):=oh _ _
 rw[ea]
 refine eE c3 (lZ (by omega) (by rw[List.length_map];omega)) ?_
 rw[Int.toNat_natCast]
 have eT:(U.map a7).set kk (.lst (aB (Mx.fH (U.getD kk []) (1+o) (U.getD (N-1) []))))=(Mx.bw U kk (-(1+o)) (N-1)).map a7:=by
  unfold Mx.bw
  rw[List.map_set,Int.neg_neg]
 rw[eT]
 have c4:(st3.set st2.length (.lst ((Mx.bw U kk (-(1+o)) (N-1)).map a7)))[st2.length]?=some (.lst ((Mx.bw U kk (-(1+o)) (N-1)).map a7)):=List.getElem?_set_self (by omega)
 have B4:Hd (st3.set st2.length (.lst ((Mx.bw U kk (-(1+o)) (N-1)).map a7))) n (b+2):=(B3.cell (List.getElem?_set_ne (by omega))).mono (by omega)
 have X4:XU st n (st3.set st2.length (.lst ((Mx.bw U kk (-(1+o)) (N-1)).map a7))):=X3.set (by omega)
 have l4:(st3.set st2.length (.lst ((Mx.bw U kk (-(1+o)) (N-1)).map a7))).length=st2.length+1:=by rw[List.length_set,l3]
 dsimp only
 generalize(st3.set st2.length (Cell.lst ((Mx.bw U kk (-(1+o)) (N-1)).map a7)))=st4 at B4 X4 c4 l4⊢
 refine dk (fun σ' st'=>σ'=[some (.ref n),some (.tup [aL F,aL U,aL V]),some (aL F),some (aL U),some (aL V),some (.int (1+o)),some (.int (kk:Int)),some (.ref st2.length),some (.lst (dv st4.length N)),none]∧st'=st4++V.map fm) (fun nx hnx=>?_) ?_
 · refine ip (xs:=V.map cw) ⟨bH (by simp;omega),?_⟩
   refine gd (fun rest acc st'=>∃A1 A2:List (List Int),A1++A2=V∧rest=A2.map cw∧acc=dv st4.length A1.length∧st'=st4++A1.map fm) ?_ ?_ _ _ _ ⟨[],V,rfl,rfl,rfl,by simp⟩
   · rintro acc st' ⟨A1,A2,he,hr,rfl,rfl⟩
     match A2,hr with
     | [],_=>
       rw[List.append_nil]at he
       subst he
       refine⟨trivial,?_⟩
       refine hnx _ _ ⟨?_,rfl⟩
       rw[lV]
       rfl
   · rintro d rest acc st' ⟨A1,A2,he,hr,rfl,rfl⟩ next
     match A2,hr with
     |r::A2,hr=>
      rw[List.map_cons,List.cons.injEq]at hr
      obtain⟨rfl,rfl⟩:=hr
      refine⟨trivial,_,rfl,p_ rfl ?_⟩
      show cP _ _ _ _ _ _ _ _ _
      rw[List.length_append,List.length_map,xM]
      exact next _ _ ⟨A1++[r],A2,by rw[←he];simp,rfl,by simp,by simp⟩
 rintro σ' st' ⟨rfl,rfl⟩
 have B5:=B4.ext (Ext.push (c:=V.map fm))
 have X5:XU st n (st4++V.map fm):=X4.trans (XU.ext Ext.push)
 have c5:(st4++V.map fm)[st2.length]?=some (.lst ((Mx.bw U kk (-(1+o)) (N-1)).map a7)):=by rw[List.getElem?_append_left (by omega)];exact c4
 have v5:∀i,i<N→(st4++V.map fm)[st4.length+i]?=some (fm (V.getD i [])):=fun i hi=>by
  rw[List.getElem?_append_right (by omega),Nat.add_sub_cancel_left,List.getElem?_map,List.getElem?_eq_getElem (by omega),Mx.aS (by omega)];rfl
 generalize(st4++V.map fm)=st5 at B5 X5 c5 v5⊢
 refine HF (xs:=dv st4.length N) rfl fun ok aI=>?_
 refine ji (fun rest σ st'=>∃(s:Nat) (v9:Option D),s≤N∧rest=((List.range N).drop s).map (fun i=>D.ref (st4.length+i))∧σ=[some (.ref n),some (.tup [aL F,aL U,aL V]),some (aL F),some (aL U),some (aL V),some (.int (1+o)),some (.int (kk:Int)),some (.ref st2.length),some (.lst (dv st4.length N)),v9]∧(∀i,i<N→st'[st4.length+i]?=some (fm (if i<s then Ae N kk (1+o) (V.getD i [])else V.getD i [])))∧st'[st2.length]?=some (.lst ((Mx.bw U kk (-(1+o)) (N-1)).map a7))∧Hd st' n (b+2)∧XU st n st') ?_ ?_ _ _ _ ⟨0,none,Nat.zero_le _,rfl,rfl,fun i hi=>(by rw[if_neg (by omega)];exact v5 i hi),c5,B5,X5⟩
 · rintro σ st' ⟨s,v9,hs,hr,rfl,hc,ct,B,X⟩
   refine⟨aI _ rfl,?_⟩
   have hsN:s=N:=by
    by_cases h:s<N
    · rw[List.drop_eq_getElem_cons (by simp;omega)]at hr;cases hr
    · omega
   subst hsN
   refine⟨Nat.le_of_ble_eq_true rfl,?_⟩
   refine k2 hFN kk (1+o) _ _ st' hk (by omega) (by omega) ⟨_,az ct,tV⟩ ⟨_,rfl,?_⟩ B X
   have q:=ug (st:=st') (L:=st4.length) (V:=i6 V s kk (1+o)) (s:=0) fun i r e=>by
    unfold i6 at e
    rw[List.getElem?_map]at e
    obtain⟨r0,e0,rfl⟩:=Option.map_eq_some_iff.mp e
    have hi:=(List.getElem?_eq_some_iff.mp e0).1
    rw[Nat.zero_add,hc i (by omega),if_pos (by omega),Mx.aS hi,(List.getElem?_eq_some_iff.mp e0).2]
   have lb:(i6 V s kk (1+o)).length=s:=by unfold i6;rw[List.length_map,lV]
   rw[lb]at q
   simpa[dv]using q
 · rintro x rest σ st' ⟨s,v9,hs,hr,rfl,hc,ct,B,X⟩ next
   have hsN:s<N:=by
    by_cases h:s<N
    · exact h
    · rw[List.drop_eq_nil_of_le (by simp;omega)]at hr;cases hr
   rw[List.drop_eq_getElem_cons (by simp;omega),List.map_cons,List.cons.injEq,List.getElem_range]at hr
   obtain⟨rfl,rfl⟩:=hr
   refine⟨aI _ rfl,_,rfl,?_⟩
   have c:=hc s hsN
   rw[if_neg (by omega)]at c
   have hw:(V.getD s []).length=N:=hV.row hsN
   have el:jA N (-1)=some (N-1):=nI (j:=1) (by decide) (by omega)
   have al:dQ (aB (V.getD s [])) (-1)=some (.int ((V.getD s []).getD (N-1) 0)):=by
    unfold dQ
    rw[List.length_map,hw,el]
    show(aB (V.getD s []))[N-1]?=_
    exact ints_get (by omega)
   refine eW (aH (az c) al (aH (az c) (fR (by omega)) (fI (jd (by omega) (by omega)) (my (eW (eE c (by rw[List.length_map,hw];exact el) ?_))))))
   refine next _ _ ⟨s+1,_,hsN,rfl,rfl,fun i hi=>?_,by rw[List.getElem?_set_ne (by omega)];exact ct,B.cell (List.getElem?_set_ne (by have:=B.lt;omega)),X.set (by omega)⟩
   by_cases h:i=s
   · subst h
     rw[List.getElem?_set_self (List.getElem?_eq_some_iff.mp c).1,if_pos (by omega)]
     unfold Ae fm aB
     rw[List.map_set]
   · rw[List.getElem?_set_ne (by omega),hc i hi]
     by_cases h2:i<s
     · rw[if_pos h2,if_pos (by omega)]
     · rw[if_neg h2,if_neg (by omega)]
noncomputable def lS:cC:=fun ds st K=>∃As:List (List (List Int)),ds=[.tup (As.map aL)]∧As.length≤1000∧(∀A∈As,A.length≤1000)∧K (.lst (As.map mS)) st
noncomputable def lL:List Str:=["_law_told"]
noncomputable def AW:DS:=(ba (cM (cZ (ab 0)) [none] (bB 0) bW (cM (cZ (ab 0)) [none] (bB 0) bW (bF kE (ae (ab 0) aj)))))
noncomputable def Bg(d:D):D:=match d with| .tup xs=> .lst (xs.map pC)|_=>d
theorem AU(As:List (List (List Int))):(As.map aL).map Bg=As.map mS:=by
 rw[List.map_map]
 refine List.map_congr_left fun A _=>?_
 show D.lst ((A.map cw).map pC)=_
 rw[pQ]
theorem yS:∀ds st K,lS ds st K→ds.length=1∧AW {nx:=fun _ st'=>K .aA st',rt:=K} (a6 lL ds) st:=by
 rintro ds st K ⟨As,rfl,h1,h2,k⟩
 refine⟨rfl,?_⟩
 refine ip ⟨bH (by rw[List.length_map];exact h1),comp_map (g:=Bg) trivial _ (fun x hx K' q=>?_) ?_⟩
 · obtain⟨A,hA,rfl⟩:=List.mem_map.mp hx
   refine⟨_,rfl,ip ⟨bH (by rw[List.length_map];exact h2 A hA),comp_map (g:=pC) trivial _ (fun y hy K2 q2=>?_) q⟩⟩
   obtain⟨r,_,rfl⟩:=List.mem_map.mp hy
   exact⟨_,rfl,kY rfl q2⟩
 · rw[AU]
   exact k
noncomputable abbrev Hg:cC:=D6 Jv
noncomputable def yz:List Str:=["_law_script","_law_hand_here","_law_rows_here","_law_told","_law_listed_here","_law_other_here","_law_some","_law_turn","_law_bent_here","_law_found"]
noncomputable def MU:DS:=(aE (bz 1 (aG pS (ae (ab 0) aj)))
 (aE (bz 2 (aG kB (ae (ab 1) (ae (dC (.int 8)) aj))))
 (aE (bz 3 (aG qi (ae (ab 2) aj)))
 (aE (bz 4 (aG lS (ae (ab 3) aj)))
 (aE (bz 5 (ab 3))
 (aE (cx (aM (aw oF (bF cS (ae (ab 2) aj)) (dC (.int 1)))) (bz 5 (aG pj (ae (ab 1) (ae (ab 3) aj)))) bY)
 (aE (i9 (cZ (iy (ae (ab 3) (ae (ab 4) (ae (ab 5) aj))))) (bB 6) (cx (gD (aM (aw m9 (aG fG (ae (ab 2) (ae (ab 6) aj))) (dC (.bl true)))) (d7 (aM (aG oy (ae (ab 2) (ae (ab 6) aj)))))) (ba (dC (.bl false))) bY))
 (aE (cx (aM (aw wq (ab 4) (aG lS (ae (ab 3) aj)))) (ba (dC (.bl false))) bY)
 (aE (i9 (eA (ae (dC (.int 6)) aj)) (bB 7) (aE (bz 8 (aG qx (ae (ab 1) (ae (ab 3) aj))))
 (aE (bz 9 (aG fG (ae (ab 2) (ae (ab 8) aj))))
 (cx (gD (d7 (aM (bF ix (ae (ab 9) (ae (dC (.ty "bool")) aj))))) (aM (aw kT (ab 9) (aG oy (ae (ab 2) (ae (ab 8) aj)))))) (ba (dC (.bl false))) bY))))
 (ba (aw xo (aG fG (ae (cM (cZ (ab 2)) [none] (bB 0) bW (bF kE (ae (ab 0) aj))) (ae (ab 3) aj))) (dC (.bl true)))))))))))))
structure Told(A:List (List Int))(N w:Nat)(top:Nat)(c:Mx.B3):Prop where
 tn:Mx.Tn A c.A c.U c.C N w
 le:top≤N
 zs:∀i q,top≤i→i<N→q<w→Mx.g c.A i q=0
 st:di [] (-1) (c.A.take top)=true
 sA:∀i q,i<N→(Mx.g c.A i q).natAbs≤2^60000000
 sU:∀i q,i<N→(Mx.g c.U i q).natAbs≤2^60000000
 sC:∀i q,i<N→(Mx.g c.C i q).natAbs≤2^60000000
noncomputable abbrev vC(N top:Nat)(c:Mx.B3):D:= .tup [aL (c.A.take top),aL c.U,aL (Mx.dZ c.C N)]
theorem By{A:List (List Int)}{N w top:Nat}(hA:Mx.cu N w A)(h:top≤N):Mx.cu top w (A.take top):=
 ⟨by rw[List.length_take,hA.len];omega,fun r hr=>hA.gW r (List.mem_of_mem_take hr)⟩
theorem va{X:List (List Int)}{N w:Nat}(hX:Mx.cu N w X){r:List Int}(hr:r∈X){x:Int}(hx:x∈r):∃i q,i<N∧x=Mx.g X i q:=by
 obtain⟨i,hi,rfl⟩:=List.mem_iff_getElem.mp hr
 refine⟨i,?_⟩
 obtain⟨q,e⟩:=yu (X:=X) (i:=i) (x:=x) (by rw[Mx.aS hi];exact hx)
 exact⟨q,by rw[←hX.len];exact hi,e⟩
theorem Mg{w n q:Nat}:(List.replicate n (0:Int)).getD q 0=0:=by
 rw[List.getD_eq_getElem?_getD,List.getElem?_replicate]
 split<;>rfl
theorem CT{X:List (List Int)}{N w top:Nat}(hX:Mx.cu N w X)(ht:top≤N)(hz:∀i q,top≤i→i<N→q<w→Mx.g X i q=0):X=X.take top++List.replicate (N-top) (List.replicate w 0):=by
 have h2:Mx.cu N w (X.take top++List.replicate (N-top) (List.replicate w 0)):=by
  refine⟨by rw[List.length_append,List.length_take,List.length_replicate,hX.len];omega,fun r hr=>?_⟩
  rcases List.mem_append.mp hr with h|h
  · exact hX.gW r (List.mem_of_mem_take h)
  · rw[(List.mem_replicate.mp h).2,List.length_replicate]
 refine hX.ext h2 fun i q hi hq=>?_
 have lt:(X.take top).length=top:=by rw[List.length_take,hX.len];omega
 by_cases h:i<top
 · unfold Mx.g
   have e:X.getD i []=(X.take top++List.replicate (N-top) (List.replicate w 0)).getD i []:=by
    rw[List.getD_eq_getElem?_getD (l:=X),List.getD_eq_getElem?_getD (l:=X.take top++_),List.getElem?_append_left (by omega),List.getElem?_take_of_lt h]
   rw[e]
 · rw[hz i q (by omega) hi hq]
   unfold Mx.g
   rw[List.getD_eq_getElem?_getD (l:=X.take top++_),List.getElem?_append_right (by omega),List.getElem?_replicate,if_pos (by omega)]
   exact(Mg (w:=w)).symm
theorem zA:∀(r:List Int) (i l:Nat),(∀c,c<l→r.getD c 0=0)→r.getD l 0≠0→fY r i=some (i+l)
 | [],_,_,_,h=>(h rfl).elim
 |x::r,i,0,_,h=>by
  unfold fY
  rw[if_neg (show¬x=0 from h)];rfl
 |x::r,i,l+1,hz,h=>by
  unfold fY
  rw[if_pos (show x=0 from hz 0 (Nat.zero_lt_succ _)),zA r (i+1) l (fun c hc=>hz (c+1) (Nat.succ_lt_succ hc)) h,Nat.add_right_comm]
  rfl
theorem zI{A0:List (List Int)}{N w top e u:Nat}{c:Mx.B3}{ld:Nat→Nat}(S:Mx.mP A0 N w c top w ld e u):∀(m k:Nat) (a:Int),k+m=top→(k<top→a<(ld k:Int))→di (c.A.take k) a ((c.A.take top).drop k)=true
 |0,k,a,hk,_=>by
  rw[List.drop_eq_nil_of_le (by rw[List.length_take];omega)]
  rfl
 |m+1,k,a,hk,ha=>by
  have hkt:k<top:=by omega
  have hA:=S.tn.isA
  have hl:=hA.len
  have hle:=S.le
  have hk2:k<c.A.length:=by omega
  obtain⟨_,h2,h3⟩:=S.lead k hkt
  have e1:(c.A.take top).drop k=c.A.getD k []::(c.A.take top).drop (k+1):=by
   rw[Mx.aS hk2,List.drop_eq_getElem_cons (by rw[List.length_take];omega),List.getElem_take]
  have e2:c.A.take (k+1)=c.A.take k++[c.A.getD k []]:=by rw[Mx.aS hk2];exact List.take_succ_eq_append_getElem hk2
  have e3:h8 (c.A.getD k [])=some (ld k):=by
   have:=zA (c.A.getD k []) 0 (ld k) h3 (Int.ne_of_gt h2)
   rw[Nat.zero_add]at this
   exact this
  have h4:¬((ld k:Int)≤a∨(c.A.getD k []).getD (ld k) 0<0):=fun h=>h.elim (fun h=>Int.not_le.mpr (ha hkt) h) fun h=>Int.lt_irrefl _ (Int.lt_trans h2 h)
  have h5:((c.A.take k).all fun a=>decide (0≤a.getD (ld k) 0)&&decide (a.getD (ld k) 0<(c.A.getD k []).getD (ld k) 0))=true:=List.all_eq_true.mpr fun r hr=>by
   obtain⟨i,hi,rfl⟩:=List.mem_iff_getElem.mp hr
   rw[List.length_take]at hi
   have r1:=S.red i k (by omega) hkt
   unfold Mx.g at r1
   rw[Mx.aS (show i<c.A.length by omega)]at r1
   rw[List.getElem_take,decide_eq_true r1.1,decide_eq_true r1.2];rfl
  rw[e1,kX,e3]
  simp only[if_neg h4,if_pos h5]
  rw[←e2]
  exact zI S m (k+1) _ (by omega) fun h=>Int.ofNat_lt.mpr (S.mono k (k+1) (Nat.lt_succ_self _) h)
theorem IX{A:List (List Int)}{N w top:Nat}{c:Mx.B3}{ld:Nat→Nat}(hN:N<9)(S:Mx.mP A N w c top w ld (Mx.Ez N 48 top) (Mx.Vz N 48 top)):Told A N w top c:=by
 have hz:=Mx.Ld N hN top (Nat.lt_succ_of_le S.le)
 have hE:2^Mx.Ez N 48 top≤2^60000000:=Nat.pow_le_pow_right (by decide) (Nat.le_trans hz.1 (by decide))
 have hV:2^Mx.Vz N 48 top≤2^60000000:=Nat.pow_le_pow_right (by decide) hz.2
 refine⟨S.tn,S.le,S.zs,zI S top 0 (-1) (Nat.zero_add _) (fun _=>by omega),fun i q hi=>?_,fun i q hi=>?_,fun i q hi=>?_⟩
 · by_cases h:i<top
   · exact Nat.le_trans (S.hi i q h).1 hV
   · exact Nat.le_trans (S.lo.1 i q (Nat.le_of_not_lt h) hi) hE
 · by_cases h:i<top
   · exact Nat.le_trans (S.hi i q h).2.1 hV
   · exact Nat.le_trans (S.lo.2.1 i q (Nat.le_of_not_lt h) hi) hE
 · by_cases h:i<top
   · exact Nat.le_trans (S.hi i q h).2.2 hV
   · exact Nat.le_trans (S.lo.2.2 i q (Nat.le_of_not_lt h) hi) hE
theorem rF{st:af}{d:D}{xs:List D}(e:items? st d=some xs):Any st d:=by
 cases d<;>first|(cases e;done)|exact⟨_,rfl⟩|exact⟨_,zx (mn e)⟩
theorem mX{st:af}:∀ {xs:List D} {F:List (List Int)},br st xs F→∀x∈xs,∃r∈F,items? st x=some (aB r)
 | [],[],_,x,hx=>by cases hx
 |y::xs,r::F,h,x,hx=>by
  rcases List.mem_cons.mp hx with rfl|hx
  · exact⟨r,List.mem_cons_self,h.1⟩
  · obtain⟨r',h1,h2⟩:=mX h.2 x hx
    exact⟨r',List.mem_cons_of_mem _ h1,h2⟩
theorem vF{st:af}:∀ {xs:List D} {F:List (List Int)},br st xs F→xs.map (intsOf st)=F
 | [],[],_=>rfl
 |_::_,_::_,h=>by rw[List.map_cons,oO h.1,vF h.2]
theorem pf{st:af}{d:D}{F:List (List Int)}(h:cV st d F)(hl:F.length≤1000)(hw:∀r∈F,r.length≤1000):jD st d:=by
 obtain⟨xs,e,ri⟩:=h.ex
 refine⟨rF e,fun ys e'=>?_⟩
 rw[e]at e'
 cases e'
 refine⟨fun x hx=>?_,bH (by rw[ri.len];exact hl)⟩
 obtain⟨r,hr,er⟩:=mX ri x hx
 refine⟨rF er,fun zs ez=>?_⟩
 rw[er]at ez
 cases ez
 refine⟨fun z hz=>?_,bH (by rw[List.length_map];exact hw r hr)⟩
 obtain⟨i,_,rfl⟩:=List.mem_map.mp hz
 exact⟨_,rfl⟩
theorem rJ{st:af}{d:D}{F:List (List Int)}(h:cV st d F)(hl:F.length≤1000)(hb:∀r∈F,∀x∈r,x.natAbs≤2^60000003):oZ st d:=by
 obtain⟨xs,e,ri⟩:=h.ex
 refine⟨fun ys e'=>?_,fun ys e' x hx zs ez i hi=>?_⟩
 · rw[e]at e'
   cases e'
   rw[ri.len];exact hl
 · rw[e]at e'
   cases e'
   obtain⟨r,hr,er⟩:=mX ri x hx
   rw[er]at ez
   cases ez
   obtain⟨j,hj,ej⟩:=List.mem_map.mp hi
   cases ej
   exact G_ (hb r hr _ hj)
theorem uI{st:af}{d m:D}{F:List (List Int)}{w:Nat}(h:cV st d F)(hw:∀r∈F,r.length=w)(hm:mz F.length m=true):cR st d m w=true∧rowsOf st d=F:=by
 obtain⟨xs,e,ri⟩:=h.ex
 refine⟨?_,by unfold rowsOf;rw[e];exact vF ri⟩
 unfold cR
 rw[e]
 show(mz xs.length m&&_)=true
 rw[ri.len,hm,Bool.true_and]
 refine List.all_eq_true.mpr fun x hx=>?_
 obtain⟨r,hr,er⟩:=mX ri x hx
 unfold dX
 rw[er]
 show(decide (((aB r).length:Int)=w)&&(aB r).all isInt)=true
 rw[List.length_map,hw r hr,decide_eq_true rfl,Bool.true_and]
 refine List.all_eq_true.mpr fun z hz=>?_
 obtain⟨i,_,rfl⟩:=List.mem_map.mp hz
 rfl
structure Gd(st:af)(A:List (List Int))(N w:Nat)(d:D):Prop where
 pD:pD st A N w d=true
 lK:r8 st d
theorem CO{st:af}{A cA U C:List (List Int)}{N w top:Nat}{d f t v:D}(T:Mx.Tn A cA U C N w)(hA:Mx.cu N w A)(ht:top≤N)(hN:N≤8)(hw:w≤9)(hz:∀i q,top≤i→i<N→q<w→Mx.g cA i q=0)(hs:di [] (-1) (cA.take top)=true)
 (bA:∀i q,i<N→(Mx.g cA i q).natAbs≤2^60000003) (bU:∀i q,i<N→(Mx.g U i q).natAbs≤2^60000003) (bC:∀i q,i<N→(Mx.g C i q).natAbs≤2^60000003)
 (e:items? st d=some [f,t,v]) (rf:cV st f (cA.take top)) (rt:cV st t U) (rv:cV st v (Mx.dZ C N)):Gd st A N w d:=by
 have iF:=By T.isA ht
 have iB:Mx.cu N N (Mx.dZ C N):=Mx.vH T.eZ
 have eUA:Mx.mulM U A w=cA:=(Mx.vW T.dH hA).ext T.isA fun i j hi hj=>by rw[Mx.Bp T.dH hA hi,T.ua i j hi hj]
 have eUB:Mx.mulM U (Mx.dZ C N) N=Mx.units N:=(Mx.vW T.dH iB).ext (Mx.qb N) fun i j hi hj=>by
  rw[Mx.Bp T.dH iB hi,Mx.j5 hi hj,←T.ub i j hi hj]
  exact Mx.de fun k hk=>by rw[Mx.rS T.eZ hj hk]
 obtain⟨f1,f2⟩:=uI (m:= .aA) rf iF.gW rfl
 obtain⟨t1,t2⟩:=uI (m:= .int N) rt T.dH.gW (by rw[T.dH.len];exact decide_eq_true rfl)
 obtain⟨v1,v2⟩:=uI (m:= .int N) rv iB.gW (by rw[iB.len];exact decide_eq_true rfl)
 have gF:∀r∈cA.take top,∀x∈r,x.natAbs≤2^60000003:=fun r hr x hx=>by
  obtain⟨i,q,hi,rfl⟩:=va T.isA (List.mem_of_mem_take hr) hx
  exact bA i q hi
 have gU:∀r∈U,∀x∈r,x.natAbs≤2^60000003:=fun r hr x hx=>by
  obtain⟨i,q,hi,rfl⟩:=va T.dH hr hx
  exact bU i q hi
 have gB:∀r∈Mx.dZ C N,∀x∈r,x.natAbs≤2^60000003:=fun r hr x hx=>by
  obtain⟨i,hi,rfl⟩:=List.mem_iff_getElem.mp hr
  obtain⟨q,hq,rfl⟩:=List.mem_iff_getElem.mp hx
  have li:i<N:=by rw[←iB.len];exact hi
  have lq:q<N:=by rw[←Mx.cH iB li,Mx.aS hi];exact hq
  have e:((Mx.dZ C N)[i])[q]=Mx.g (Mx.dZ C N) i q:=by unfold Mx.g;rw[Mx.aS hi,Mx.aS hq]
  rw[e,Mx.rS T.eZ lq li]
  exact bC q i lq
 refine⟨?_,rF e,fun xs ex=>?_⟩
 · rw[uB e]
   unfold Aw tX Ea
   rw[f1,f2,hs,t1,t2,v1,v2,eUA,eUB,decide_eq_true rfl,iF.len]
   unfold kU
   rw[←CT T.isA ht hz,decide_eq_true rfl];rfl
 · rw[e]at ex
   cases ex
   intro x hx
   simp only[List.mem_cons,List.not_mem_nil,or_false]at hx
   rcases hx with rfl|rfl|rfl
   · exact⟨pf rf (by rw[iF.len];omega) (fun r hr=>by rw[iF.gW r hr];omega),rJ rf (by rw[iF.len];omega) gF⟩
   · exact⟨pf rt (by rw[T.dH.len];omega) (fun r hr=>by rw[T.dH.gW r hr];omega),rJ rt (by rw[T.dH.len];omega) gU⟩
   · exact⟨pf rv (by rw[iB.len];omega) (fun r hr=>by rw[iB.gW r hr];omega),rJ rv (by rw[iB.len];omega) gB⟩
theorem Ey{C:List (List Int)}{N k:Nat}{o:Int}(hC:Mx.cu N N C)(hk:k<N-1):i6 (Mx.dZ C N) N k o=Mx.dZ (Mx.bw C (N-1) (- -o) k) N:=by
 have iB:Mx.cu N N (Mx.dZ C N):=Mx.vH hC
 have i2:Mx.cu N N (Mx.bw C (N-1) (- -o) k):=Mx.nL hC (by omega) (by omega)
 have i3:Mx.cu N N (i6 (Mx.dZ C N) N k o):=⟨by unfold i6;rw[List.length_map];exact iB.len,fun r hr=>by
  unfold i6 at hr
  obtain⟨r0,h0,rfl⟩:=List.mem_map.mp hr
  unfold Ae
  rw[List.length_set];exact iB.gW r0 h0⟩
 refine i3.ext (Mx.vH i2) fun i j hi hj=>?_
 rw[Mx.rS i2 hj hi,Mx.dS hC (by omega) (by omega)]
 have hi2:i<(Mx.dZ C N).length:=by rw[iB.len];exact hi
 have e1:Mx.g (i6 (Mx.dZ C N) N k o) i j=(Ae N k o ((Mx.dZ C N).getD i [])).getD j 0:=by
  unfold Mx.g i6
  rw[Mx.aS (l:=(Mx.dZ C N).map (Ae N k o)) (i:=i) (by rw[List.length_map];exact hi2),List.getElem_map,Mx.aS hi2]
 have ga:∀q,q<N→((Mx.dZ C N).getD i []).getD q 0=Mx.g C q i:=fun q hq=>Mx.rS hC hq hi
 rw[e1]
 unfold Ae
 rw[ga (N-1) (by omega),ga k (by omega),Int.neg_neg]
 have hl:((Mx.dZ C N).getD i []).length=N:=Mx.cH iB hi
 by_cases h:j=N-1
 · subst h
   rw[if_pos rfl,List.getD_eq_getElem?_getD,List.getElem?_set_self (by omega)];rfl
 · rw[if_neg h,List.getD_eq_getElem?_getD,List.getElem?_set_ne (by omega),←List.getD_eq_getElem?_getD,ga j hj]
theorem O5{n:Nat}{x y p:Int}(hx:x.natAbs≤2^n)(hy:y.natAbs≤2^n)(h5:p.natAbs≤5):(x-p*y).natAbs≤2^(n+3):=by
 rw[Nat.pow_add]
 generalize(2:Nat)^n=B at hx hy⊢
 have h:(p*y).natAbs≤5*B:=by
  rw[Int.natAbs_mul]
  exact Nat.mul_le_mul h5 hy
 generalize p*y=z at h⊢
 omega
theorem b6{x y p:Int}(hx:x.natAbs≤2^60000000)(hy:y.natAbs≤2^60000000)(h5:p.natAbs≤5):(x-p*y).natAbs≤2^60000003:=Nat.le_trans (O5 hx hy h5) (Nat.pow_le_pow_right (by decide) (show 60000000+3≤60000003 by decide))
theorem Kc{x:Nat}(h:x≤2^60000000):x≤2^60000003:=Nat.le_trans h (Nat.pow_le_pow_right (by decide) (by decide))
theorem FU{n:Nat}{As:List (List (List Int))}:pl (n+3) (.lst (As.map mS))=true:=by
 unfold pl
 refine List.all_eq_true.mpr fun d hd=>?_
 obtain⟨A,_,rfl⟩:=List.mem_map.mp hd
 exact Fu
theorem KO{i:Nat}{σ:bM}{st:af}{K:DK}{d:D}(h:σ[i]?=some (some d))(k:K d st):ab i σ st K:=by
 unfold ab
 simp only[h]
 exact k
theorem Kg:∀ds st K,Hg ds st K→ds.length=1∧MU {nx:=fun _ st'=>K .aA st',rt:=K} (a6 yz ds) st:=by
 rintro ds st K ⟨ns,rfl,hl,hst,k⟩
 refine⟨rfl,?_⟩
 have l0:st.length=1:=by rw[hst];rfl
 have t0:st[0]?=some (iz false):=by rw[hst];rfl
 clear hst
 refine⟨ns,rfl,hl,fun st1 B1 X1=>?_⟩
 refine⟨_,_,8,rfl,B1,by decide,by decide,by decide,fun N w A st2 N1 N8 w1 w8 hA hb B2 X2=>?_⟩
 have t1:st1[0]?=some (iz false):=by rw[X1.same 0 (by omega)];exact t0
 have l1:=X1.len
 have l2:=X2.len
 have t2:st2[0]?=some (iz false):=by rw[X2.same 0 (by omega) (by omega)];exact t1
 clear B1 X1 X2 t0 t1
 have oA:∀r∈A,∀x∈r,x.natAbs≤2^48:=fun r hr x hx=>Nat.le_trans (hb r hr x hx) (by decide)
 have hlo:Mx.jE A N 0 (2^48):=fun i q _ hi=>by
  by_cases hq:q<w
  · have li:i<A.length:=by rw[hA.len];exact hi
    have lq:q<(A[i]).length:=by rw[hA.gW _ (List.getElem_mem li)];exact hq
    unfold Mx.g
    rw[Mx.aS li,Mx.aS lq]
    exact oA _ (List.getElem_mem li) _ (List.getElem_mem lq)
  · have:Mx.g A i q=0:=by
     unfold Mx.g
     rw[Mx.nr (by rw[Mx.cH hA hi];exact Nat.le_of_not_lt hq)]
    rw[this];exact Nat.zero_le _
 have hN9:N<9:=Nat.lt_succ_of_le N8
 have hw9:w≤9:=Nat.le_succ_of_le w8
 have hsz:∀t,t≤N→Mx.Ez N 48 t≤50000000∧Mx.Vz N 48 t≤60000000:=fun t ht=>Mx.Ld N hN9 t (Nat.lt_succ_of_le ht)
 refine⟨_,N,w,48,A,_,rfl,jq,hA,N1,N8,hw9,hlo,hsz,t2,fun st3 top c ld hC S K3=>?_⟩
 have T:=IX hN9 S
 have B3:Hd st3 st.length 310:=B2.cell (K3.fr _ B2.lt (by omega))
 have iF:=By T.tn.isA T.le
 have iU:=T.tn.dH
 have iB:Mx.cu N N (Mx.dZ c.C N):=Mx.vH T.tn.eZ
 have bA:∀i q,i<N→(Mx.g c.A i q).natAbs≤2^60000003:=fun i q hi=>Kc (T.sA i q hi)
 have bU:∀i q,i<N→(Mx.g c.U i q).natAbs≤2^60000003:=fun i q hi=>Kc (T.sU i q hi)
 have bC:∀i q,i<N→(Mx.g c.C i q).natAbs≤2^60000003:=fun i q hi=>Kc (T.sC i q hi)
 have told:∀st',Gd st' A N w (vC N top c):=fun st'=>CO T.tn hA T.le N8 hw9 T.zs T.st bA bU bC rfl jq jq jq
 have lists:∀st',Gd st' A N w (.lst ([c.A.take top,c.U,Mx.dZ c.C N].map mS)):=fun st'=>CO T.tn hA T.le N8 hw9 T.zs T.st bA bU bC rfl sM sM sM
 have ll:∀X∈[c.A.take top,c.U,Mx.dZ c.C N],X.length≤1000:=fun X hX=>by
  have:=T.le
  simp only[List.mem_cons,List.not_mem_nil,or_false]at hX
  rcases hX with rfl|rfl|rfl
  · rw[iF.len];omega
  · rw[iU.len];omega
  · rw[iB.len];omega
 have bent:∀X∈[c.A.take top,c.U,Mx.dZ c.C N],∃m w,Hb m w X:=fun X hX=>by
  have:=T.le
  simp only[List.mem_cons,List.not_mem_nil,or_false]at hX
  rcases hX with rfl|rfl|rfl
  · refine⟨top,w,iF,by omega,w1,hw9,fun r hr x hx=>?_⟩
    obtain⟨i,q,hi,rfl⟩:=va T.tn.isA (List.mem_of_mem_take hr) hx
    exact bA i q hi
  · refine⟨N,N,iU,N8,N1,by omega,fun r hr x hx=>?_⟩
    obtain⟨i,q,hi,rfl⟩:=va iU hr hx
    exact bU i q hi
  · refine⟨N,N,iB,N8,N1,by omega,fun r hr x hx=>?_⟩
    obtain⟨i,hi,rfl⟩:=List.mem_iff_getElem.mp hr
    obtain⟨q,hq,rfl⟩:=List.mem_iff_getElem.mp hx
    have li:i<N:=by rw[←iB.len];exact hi
    have lq:q<N:=by rw[←Mx.cH iB li,Mx.aS hi];exact hq
    have e:((Mx.dZ c.C N)[i])[q]=Mx.g (Mx.dZ c.C N) i q:=by unfold Mx.g;rw[Mx.aS hi,Mx.aS hq]
    rw[e,Mx.rS T.tn.eZ lq li]
    exact bC q i lq
 refine⟨[c.A.take top,c.U,Mx.dZ c.C N],rfl,(show 3≤1000 by decide),ll,?_⟩
 dsimp only
 refine Bm (k:=5) (te:=ab 3) ?_
 refine KO (i:=3) (d:=vC N top c) rfl ?_
 refine dk (fun σ' st'=>∃oth,σ'=[some (.lst (ns.map .int)),some (.ref st.length),some (aL A),some (vC N top c),some (.lst ([c.A.take top,c.U,Mx.dZ c.C N].map mS)),some oth,none,none,none,none]∧Gd st' A N w oth∧Hd st' st.length 320) (fun nx hnx=>?_) ?_
 · refine cv (xs:=A.map cw) rfl ?_
   rw[List.length_map,hA.len]
   refine Lo (fun h=>dc ?_) fun h=>hnx _ _ ⟨_,rfl,told _,B3.mono (by decide)⟩
   refine⟨st.length,310,N,c.A.take top,c.U,Mx.dZ c.C N,rfl,B3,by decide,by omega,N8,by rw[iF.len];exact T.le,iU,iB,fun _=>hnx _ _ ⟨_,rfl,told _,B3.mono (by decide)⟩,fun hF kk o t v st4 hk h1 h5 rt rv B4 X4=>hnx _ _ ⟨_,rfl,?_,B4.mono (by decide)⟩⟩
   have htop:top<N:=by rw[iF.len]at hF;exact hF
   have T4:=T.tn.take (q:= -o) (k:=kk) (j:=N-1) (by omega) (by omega) (by omega)
   have ec:Mx.bw c.A kk (-o) (N-1)=c.A:=(Mx.nL T.tn.isA (by omega) (by omega)).ext T.tn.isA fun i q hi hq=>by
    rw[Mx.dS T.tn.isA (by omega) (by omega)]
    split
    · rename_i h
      subst h
      rw[T.zs (N-1) q (by omega) (by omega) hq,Int.mul_zero,Int.sub_zero]
    · rfl
   rw[ec]at T4
   rw[Ey T.tn.eZ hk]at rv
   refine CO T4 hA T.le N8 hw9 T.zs T.st bA (fun i q hi=>?_) (fun i q hi=>?_) rfl jq rt rv
   · rw[Mx.dS iU (by omega) (by omega)]
     split
     · exact b6 (T.sU kk q (by omega)) (T.sU (N-1) q (by omega)) (by omega)
     · exact bU i q hi
   · rw[Mx.dS T.tn.eZ (by omega) (by omega)]
     split
     · exact b6 (T.sC (N-1) q (by omega)) (T.sC kk q (by omega)) (by omega)
     · exact bC i q hi
 rintro σ' st' ⟨oth,rfl,G5,B5⟩
 refine⟨Nat.le_of_ble_eq_true rfl,ip ?_⟩
 refine ji (fun rest σ st''=>st''=st'∧(∃v6:Option D,σ=[some (.lst (ns.map .int)),some (.ref st.length),some (aL A),some (vC N top c),some (.lst ([c.A.take top,c.U,Mx.dZ c.C N].map mS)),some oth,v6,none,none,none])∧∀x∈rest,Gd st' A N w x) ?_ ?_ _ _ _ ⟨rfl,⟨none,rfl⟩,fun x hx=>?_⟩
 · rintro σ st'' ⟨rfl,⟨v6,rfl⟩,_⟩
   refine⟨trivial,?_⟩
   refine⟨[c.A.take top,c.U,Mx.dZ c.C N],rfl,(show 3≤1000 by decide),ll,FQ FU ?_⟩
   refine fB ⟨by decide,by decide⟩ ?_
   refine iR 6 (fun i σ st2=>∃v7 v8 v9:Option D,σ=[some (.lst (ns.map .int)),some (.ref st.length),some (aL A),some (vC N top c),some (.lst ([c.A.take top,c.U,Mx.dZ c.C N].map mS)),some oth,v6,v7,v8,v9]∧Hd st2 st.length (320+8*i)) ?_ ?_ ⟨none,none,none,rfl,B5.mono (by omega)⟩
   · rintro σ st2 ⟨v7,v8,v9,rfl,_⟩
     refine ip (xs:=A.map cw) ⟨bH (by rw[List.length_map,hA.len];omega),comp_map (g:=pC) trivial _ (fun y hy K2 q2=>?_) ?_⟩
     · obtain⟨r,_,rfl⟩:=List.mem_map.mp hy
       exact⟨_,rfl,kY rfl q2⟩
     rw[pQ]
     refine⟨_,_,A,N,w,rfl,sM,hA,N1,N8,hw9,oA,(told _).lK,?_⟩
     rw[(told _).pD]
     exact KI rfl (k _)
   · rintro i σ st2 rest hi ⟨v7,v8,v9,rfl,B⟩ next
     refine⟨_,rfl,?_⟩
     refine⟨st.length,_,c.A.take top,c.U,Mx.dZ c.C N,rfl,B,by omega,bent,fun d st4 td B4 X4=>?_⟩
     refine⟨_,d,A,N,w,rfl,jq,hA,N1,N8,hw9,oA,td,?_⟩
     refine kO (t:="bool") rfl (by decide) ?_
     refine⟨_,d,A,N,w,rfl,jq,hA,N1,N8,hw9,oA,td,?_⟩
     refine Lz ?_
     rw[decide_eq_true rfl]
     exact next _ _ ⟨_,_,_,rfl,B4.mono (by omega)⟩
 · rintro x rest σ st'' ⟨rfl,⟨v6,rfl⟩,hG⟩ next
   have G:=hG x List.mem_cons_self
   refine⟨trivial,_,rfl,?_⟩
   refine⟨_,x,A,N,w,rfl,jq,hA,N1,N8,hw9,oA,G.lK,?_⟩
   rw[G.pD]
   refine MF rfl ?_
   refine⟨_,x,A,N,w,rfl,jq,hA,N1,N8,hw9,oA,G.lK,?_⟩
   rw[G.pD]
   exact next _ _ ⟨rfl,⟨_,rfl⟩,fun y hy=>hG y (List.mem_cons_of_mem _ hy)⟩
 · simp only[List.mem_cons,List.not_mem_nil,or_false]at hx
   rcases hx with rfl|rfl|rfl
   · exact told _
   · exact lists _
   · exact G5
end Prog
namespace Row
open PySem L2 L3 Prog
open PySem.Spec hiding items?
open PyProof.Rows hiding St
theorem zC:(("int":Str))≠"__name__":=by decide+kernel
theorem eB:(("isinstance":Str))≠"__name__":=by decide+kernel
theorem wm:(("bool":Str))≠"__name__":=by decide+kernel
theorem cW:(("tuple":Str))≠"__name__":=by decide+kernel
theorem fA:(("list":Str))≠"__name__":=by decide+kernel
theorem cq:(("len":Str))≠"__name__":=by decide+kernel
theorem vP:(("all":Str))≠"__name__":=by decide+kernel
theorem DZ:(("abs":Str))≠"__name__":=by decide+kernel
theorem LW:(("max":Str))≠"__name__":=by decide+kernel
structure Bl(mg:Str→Option Value):Prop where
 CU:mg "int"=none
 eX:mg "isinstance"=none
 zk:mg "bool"=none
 du:mg "tuple"=none
 gN:mg "list"=none
 cN:mg "len"=none
 yt:mg "all"=none
 sG:mg "zip"=none
 e9:mg "range"=none
 tL:mg "enumerate"=none
 Gz:mg "abs"=none
 FW:mg "sorted"=none
 L0:mg "max"=none
structure Kl(K:PySem.W.Frag)(mg:Str→Option Value):Prop where
 a_:ClsAt K mg "Bench" aF
 cn:fT K aF "body"
 et:fT K aF "turn"
 cz:fT K aF "back_columns"
theorem d5:VS (ag ir) lP ["int","isinstance","bool"]:=⟨by decide+kernel⟩
theorem y6:aT lP ["thing"] (ag ir):=⟨rfl,rfl,rfl,by decide+kernel,rfl,by decide+kernel,by decide+kernel⟩
theorem gb:VS (ag h_) lD ["tuple","list","isinstance"]:=⟨by decide+kernel⟩
theorem Ay:aT lD ["thing"] (ag h_):=⟨rfl,rfl,rfl,by decide+kernel,rfl,by decide+kernel,by decide+kernel⟩
theorem eG:VS (ag fz) jn ["is_listed","len"]:=⟨by decide+kernel⟩
theorem u9:aT jn ["thing","many"] (ag fz):=⟨rfl,rfl,rfl,by decide+kernel,rfl,by decide+kernel,by decide+kernel⟩
theorem fi:VS (ag ff) jR ["is_listed_of","all"]:=⟨by decide+kernel⟩
theorem wC:aT jR ["thing","many"] (ag ff):=⟨rfl,rfl,rfl,by decide+kernel,rfl,by decide+kernel,by decide+kernel⟩
theorem rO:VS (ag iY) ou ["tuple"]:=⟨by decide+kernel⟩
theorem C2:aT ou ["rows"] (ag iY):=⟨rfl,rfl,rfl,by decide+kernel,rfl,by decide+kernel,by decide+kernel⟩
theorem wx:VS (ag ly) sQ ["zip"]:=⟨by decide+kernel⟩
theorem Gb:aT sQ ["row","times","other"] (ag ly):=⟨rfl,rfl,rfl,by decide+kernel,rfl,by decide+kernel,by decide+kernel⟩
theorem d_:VS (ag lz) qt ["zip","added","tuple"]:=⟨by decide+kernel⟩
theorem oW:aT qt ["weights","rows","wide"] (ag lz):=⟨rfl,rfl,rfl,by decide+kernel,rfl,by decide+kernel,by decide+kernel⟩
theorem iQ:VS (ag iO) oo ["len","tuple"]:=⟨by decide+kernel⟩
theorem u0:aT oo ["one","other"] (ag iO):=⟨rfl,rfl,rfl,by decide+kernel,rfl,by decide+kernel,by decide+kernel⟩
theorem uE:VS (ag j4) qo ["tuple"]:=⟨by decide+kernel⟩
theorem EG:aT qo ["rows","place"] (ag j4):=⟨rfl,rfl,rfl,by decide+kernel,rfl,by decide+kernel,by decide+kernel⟩
theorem jJ:VS (ag fe) jO ["range","tuple"]:=⟨by decide+kernel⟩
theorem wy:aT jO ["rows","wide"] (ag fe):=⟨rfl,rfl,rfl,by decide+kernel,rfl,by decide+kernel,by decide+kernel⟩
theorem nh:VS (ag g5) ni ["range","tuple"]:=⟨by decide+kernel⟩
theorem A7:aT ni ["n","place"] (ag g5):=⟨rfl,rfl,rfl,by decide+kernel,rfl,by decide+kernel,by decide+kernel⟩
theorem lH:VS (ag f9) lO ["range","tuple"]:=⟨by decide+kernel⟩
theorem yJ:aT lO ["n"] (ag f9):=⟨rfl,rfl,rfl,by decide+kernel,rfl,by decide+kernel,by decide+kernel⟩
theorem qG:VS (ag fP) jI []:=⟨by decide+kernel⟩
theorem wO:aT jI ["many","wide"] (ag fP):=⟨rfl,rfl,rfl,by decide+kernel,rfl,by decide+kernel,by decide+kernel⟩
theorem eV:VS (ag jb) mD ["is_listed","len","all"]:=⟨by decide+kernel⟩
theorem Cf:aT mD ["thing","many","wide"] (ag jb):=⟨rfl,rfl,rfl,by decide+kernel,rfl,by decide+kernel,by decide+kernel⟩
theorem bI:VS (ag jm) nq ["is_listed","len","is_rows","product","unit_rows"]:=⟨by decide+kernel⟩
theorem ue:aT nq ["turn","back"] (ag jm):=⟨rfl,rfl,rfl,by decide+kernel,rfl,by decide+kernel,by decide+kernel⟩
theorem d9:VS (ag gO) kq ["is_rows","are_back"]:=⟨by decide+kernel⟩
theorem yd:aT kq ["turn","back","many"] (ag gO):=⟨rfl,rfl,rfl,by decide+kernel,rfl,by decide+kernel,by decide+kernel⟩
theorem ox:VS (ag j_) oj ["enumerate"]:=⟨by decide+kernel⟩
theorem vL:aT oj ["row"] (ag j_):=⟨rfl,rfl,rfl,by decide+kernel,rfl,by decide+kernel,by decide+kernel⟩
theorem bN:VS (ag fh) jQ ["enumerate","lead_of","all"]:=⟨by decide+kernel⟩
theorem gM:aT jQ ["rows"] (ag fh):=⟨rfl,rfl,rfl,by decide+kernel,rfl,by decide+kernel,by decide+kernel⟩
theorem i_:VS (ag dR) fV []:=⟨by decide+kernel⟩
theorem iu:aT fV ["top","bottom"] (ag dR):=⟨rfl,rfl,rfl,by decide+kernel,rfl,by decide+kernel,by decide+kernel⟩
theorem c6:VS (ag ig) lW ["list"]:=⟨by decide+kernel⟩
theorem rT:aT lW ["rows","k","other"] (ag ig):=⟨rfl,rfl,rfl,by decide+kernel,rfl,by decide+kernel,by decide+kernel⟩
theorem DR:VS (ag ja) n_ []:=⟨by decide+kernel⟩
theorem BX:aT n_ ["row"] (ag ja):=⟨rfl,rfl,rfl,by decide+kernel,rfl,by decide+kernel,by decide+kernel⟩
theorem bS:VS (ag cU) g9 ["len","unit_rows"]:=⟨by decide+kernel⟩
theorem tG:aT g9 ["self","rows"] (ag cU):=⟨rfl,rfl,rfl,by decide+kernel,rfl,by decide+kernel,by decide+kernel⟩
theorem a8:VS (ag gE) kM ["added"]:=⟨by decide+kernel⟩
theorem x_:aT kM ["self","k","times","other"] (ag gE):=⟨rfl,rfl,rfl,by decide+kernel,rfl,by decide+kernel,by decide+kernel⟩
theorem bx:VS (ag eK) g0 ["exchanged"]:=⟨by decide+kernel⟩
theorem tw:aT g0 ["self","k","other"] (ag eK):=⟨rfl,rfl,rfl,by decide+kernel,rfl,by decide+kernel,by decide+kernel⟩
theorem aZ:VS (ag dz) fJ ["negated"]:=⟨by decide+kernel⟩
theorem qm:aT fJ ["self","k"] (ag dz):=⟨rfl,rfl,rfl,by decide+kernel,rfl,by decide+kernel,by decide+kernel⟩
theorem c8:VS (ag c7) gq ["len","range","sorted"]:=⟨by decide+kernel⟩
theorem mB:aT gq ["self","top","place"] (ag c7):=⟨rfl,rfl,rfl,by decide+kernel,rfl,by decide+kernel,by decide+kernel⟩
theorem aC:VS (ag fy) jo ["len","nearest_quotient"]:=⟨by decide+kernel⟩
theorem fW:aT jo ["self","top","place"] (ag fy):=⟨rfl,rfl,rfl,by decide+kernel,rfl,by decide+kernel,by decide+kernel⟩
theorem cf:VS (ag dw) fL ["range"]:=⟨by decide+kernel⟩
theorem ft:aT fL ["self","top","place"] (ag dw):=⟨rfl,rfl,rfl,by decide+kernel,rfl,by decide+kernel,by decide+kernel⟩
theorem bc:VS (ag js) nj ["Bench","len","range","turned_over","as_rows"]:=⟨by decide+kernel⟩
theorem ij:aT nj ["rows"] (ag js):=⟨rfl,rfl,rfl,by decide+kernel,rfl,by decide+kernel,by decide+kernel⟩
theorem ay:VS (ag eH) g8 ["len","is_listed_of","is_rows","is_standing","is_turn_of","product","as_rows","nought_rows"]:=⟨by decide+kernel⟩
theorem fk:aT g8 ["rows","told"] (ag eH):=⟨rfl,rfl,rfl,by decide+kernel,rfl,by decide+kernel,by decide+kernel⟩
theorem Ct:VS (ag g4) mZ []:=⟨by decide+kernel⟩
theorem AO:aT mZ ["_law_script"] (ag g4):=⟨rfl,rfl,rfl,by decide+kernel,rfl,by decide+kernel,by decide+kernel⟩
theorem aN:VS (ag jh) m5 ["len"]:=⟨by decide+kernel⟩
theorem gh:aT m5 ["_law_hand_here","_law_many"] (ag jh):=⟨rfl,rfl,rfl,by decide+kernel,rfl,by decide+kernel,by decide+kernel⟩
theorem cj:VS (ag gJ) kQ ["_law_draw"]:=⟨by decide+kernel⟩
theorem qI:aT kQ ["_law_hand_here","_law_kind"] (ag gJ):=⟨rfl,rfl,rfl,by decide+kernel,rfl,by decide+kernel,by decide+kernel⟩
theorem aR:VS (ag fx) m6 ["range","_law_draw","list","zip","tuple"]:=⟨by decide+kernel⟩
theorem eQ:aT m6 ["_law_hand_here","_law_many","_law_wide","_law_kind"] (ag fx):=⟨rfl,rfl,rfl,by decide+kernel,rfl,by decide+kernel,by decide+kernel⟩
theorem cL:VS (ag ie) lG ["_law_draw"]:=⟨by decide+kernel⟩
theorem zV:aT lG ["_law_hand_here"] (ag ie):=⟨rfl,rfl,rfl,by decide+kernel,rfl,by decide+kernel,by decide+kernel⟩
theorem cE:VS (ag e8) iK ["_law_sizes","_law_draw","_law_rows"]:=⟨by decide+kernel⟩
theorem nX:aT iK ["_law_hand_here","_law_kinds"] (ag e8):=⟨rfl,rfl,rfl,by decide+kernel,rfl,by decide+kernel,by decide+kernel⟩
theorem fg:VS (ag jZ) pP ["zip","tuple"]:=⟨by decide+kernel⟩
theorem ot:aT pP ["_law_weights","_law_rows_here","_law_wide"] (ag jZ):=⟨rfl,rfl,rfl,by decide+kernel,rfl,by decide+kernel,by decide+kernel⟩
theorem mI:VS (ag fj) jL ["tuple"]:=⟨by decide+kernel⟩
theorem wG:aT jL ["_law_one","_law_other_here","_law_wide"] (ag fj):=⟨rfl,rfl,rfl,by decide+kernel,rfl,by decide+kernel,by decide+kernel⟩
theorem lM:VS (ag gg) lE ["range","tuple"]:=⟨by decide+kernel⟩
theorem zt:aT lE ["_law_n"] (ag gg):=⟨rfl,rfl,rfl,by decide+kernel,rfl,by decide+kernel,by decide+kernel⟩
theorem aW:VS (ag fC) kJ ["len","range"]:=⟨by decide+kernel⟩
theorem fO:aT kJ ["_law_rows_here"] (ag fC):=⟨rfl,rfl,rfl,by decide+kernel,rfl,by decide+kernel,by decide+kernel⟩
theorem dA:VS (ag gw) kj ["tuple","isinstance","list"]:=⟨by decide+kernel⟩
theorem x3:aT kj ["_law_thing"] (ag gw):=⟨rfl,rfl,rfl,by decide+kernel,rfl,by decide+kernel,by decide+kernel⟩
theorem bE:VS (ag eJ) gI ["_law_listed","len","all"]:=⟨by decide+kernel⟩
theorem og:aT gI ["_law_found","_law_many","_law_wide"] (ag eJ):=⟨rfl,rfl,rfl,by decide+kernel,rfl,by decide+kernel,by decide+kernel⟩
theorem aD:VS (ag fU) oa ["len","_law_listed","_law_are_some","_law_stands","tuple","_law_product","_law_units"]:=⟨by decide+kernel⟩
theorem mW:aT oa ["_law_rows_here","_law_told"] (ag fU):=⟨rfl,rfl,rfl,by decide+kernel,rfl,by decide+kernel,by decide+kernel⟩
theorem gX:VS (ag kb) oq ["len","_law_draw"]:=⟨by decide+kernel⟩
theorem uY:aT oq ["_law_hand_here"] (ag kb):=⟨rfl,rfl,rfl,by decide+kernel,rfl,by decide+kernel,by decide+kernel⟩
theorem ao:VS (ag d6) iG ["_law_draw","len","max","_law_odd"]:=⟨by decide+kernel⟩
theorem fE:aT iG ["_law_hand_here","_law_rows_here"] (ag d6):=⟨rfl,rfl,rfl,by decide+kernel,rfl,by decide+kernel,by decide+kernel⟩
theorem aP:VS (ag jt) ng ["list","_law_draw","_law_odd","_law_bent_rows","tuple"]:=⟨by decide+kernel⟩
theorem lJ:aT ng ["_law_hand_here","_law_told"] (ag jt):=⟨rfl,rfl,rfl,by decide+kernel,rfl,by decide+kernel,by decide+kernel⟩
theorem aO:VS (ag eN) lI ["len","_law_draw","zip"]:=⟨by decide+kernel⟩
theorem fD:aT lI ["_law_hand_here","_law_told"] (ag eN):=⟨rfl,rfl,rfl,by decide+kernel,rfl,by decide+kernel,by decide+kernel⟩
theorem AI:VS (ag f_) lL []:=⟨by decide+kernel⟩
theorem Ah:aT lL ["_law_told"] (ag f_):=⟨rfl,rfl,rfl,by decide+kernel,rfl,by decide+kernel,by decide+kernel⟩
theorem a9:VS (ag m_) yz ["_law_hand","_law_some_rows","standing","_law_lists","len","_law_other","shows_standing","_law_due","range","_law_bent","bool","isinstance"]:=⟨by decide+kernel⟩
theorem iZ:aT yz ["_law_script"] (ag m_):=⟨rfl,rfl,rfl,by decide+kernel,rfl,by decide+kernel,by decide+kernel⟩
structure Ev(w:World)(mg:Str→Option Value)(h:Heap):Prop where
 X:(KX w.params).In h
 G:h.Ns mainGlobals mg
section
variable {w:World}{mg:Str→Option Value}{h base:Heap}(e:Ev w mg h)
include e
theorem Bt:Bl mg:=⟨PySem.W.mg_none_of e.X e.G (by kernel_rfl),PySem.W.mg_none_of e.X e.G (by kernel_rfl),PySem.W.mg_none_of e.X e.G (by kernel_rfl),PySem.W.mg_none_of e.X e.G (by kernel_rfl),PySem.W.mg_none_of e.X e.G (by kernel_rfl),PySem.W.mg_none_of e.X e.G (by kernel_rfl),PySem.W.mg_none_of e.X e.G (by kernel_rfl),PySem.W.mg_none_of e.X e.G (by kernel_rfl),PySem.W.mg_none_of e.X e.G (by kernel_rfl),PySem.W.mg_none_of e.X e.G (by kernel_rfl),PySem.W.mg_none_of e.X e.G (by kernel_rfl),PySem.W.mg_none_of e.X e.G (by kernel_rfl),PySem.W.mg_none_of e.X e.G (by kernel_rfl)⟩
theorem Qt:Kl (KX w.params) mg:=⟨⟨⟨by kernel_rfl,by kernel_rfl,by kernel_rfl,by kernel_rfl⟩,PySem.W.mg_of e.X e.G (by kernel_rfl),by kernel_rfl,by kernel_rfl⟩,Hd.na (by kernel_rfl),Hd.na (by kernel_rfl),Hd.na (by kernel_rfl)⟩
theorem tK:bL (KX w.params) mg "is_number" "is_number" ir ["thing"] 21 (Hd.fd ir "is_number" "is_number" qH 20):=Hd.mQ e.X e.G (by kernel_rfl) fun _ _ _ _ _ _ _=>rfl
theorem AJ:bD PW w (KX w.params) mg base cD 1 21 (Hd.fd ir "is_number" "is_number" qH 20) ["thing"] (cG oY):=by
 have B:=Bt e
 have Q:=Qt e
 exact bP (N:=lP) (tK e).fn y6 (fun cdv A outer s H E hr=>(ax (aK (tm (cB oP (aa (d5.nm 0) (aa (qc B.CU rfl zC (d5.d 0) (d5.g 0)) ai)) B.eX rfl eB (d5.d 1) (d5.g 1)) (oV (G8 (cB oP (aa (d5.nm 0) (aa (qc B.zk rfl wm (d5.d 2) (d5.g 2)) ai)) B.eX rfl eB (d5.d 1) (d5.g 1)))))))) zS
theorem lF:bL (KX w.params) mg "is_listed" "is_listed" h_ ["thing"] 28 (Hd.fd h_ "is_listed" "is_listed" qH 27):=Hd.mQ e.X e.G (by kernel_rfl) fun _ _ _ _ _ _ _=>rfl
theorem o5:bD PW w (KX w.params) mg base cD 1 28 (Hd.fd h_ "is_listed" "is_listed" qH 27) ["thing"] (cG jB):=by
 have B:=Bt e
 have Q:=Qt e
 exact bP (N:=lD) (lF e).fn Ay (fun cdv A outer s H E hr=>(ax (aK (cB oP (aa (gb.nm 0) (aa (gp (aa (qc B.gN rfl fA (gb.d 1) (gb.g 1)) (aa (qc B.du rfl cW (gb.d 0) (gb.g 0)) ai))) ai)) B.eX rfl eB (gb.d 2) (gb.g 2))))) zQ
theorem lr:bL (KX w.params) mg "is_listed_of" "is_listed_of" fz ["thing","many"] 35 (Hd.fd fz "is_listed_of" "is_listed_of" qH 34):=Hd.mw e.X e.G (by kernel_rfl) fun _ _ _ _ _ _ _ _=>rfl
theorem pB:bD PW w (KX w.params) mg base cD 2 35 (Hd.fd fz "is_listed_of" "is_listed_of" qH 34) ["thing","many"] (cG je):=by
 have B:=Bt e
 have Q:=Qt e
 exact bP (N:=jn) (lr e).fn u9 (fun cdv A outer s H E hr=>(ax (aK (tm (aV (lF e) (o5 e) (hr.mono (by decide)) (aa (eG.nm 0) ai) (eG.d 0) (eG.g 0)) (oV (oN (eC hr) (aU _) (cB cO (aa (eG.nm 0) ai) B.cN rfl cq (eG.d 1) (eG.g 1)) (eG.nm 1))))))) vf
theorem qF:bL (KX w.params) mg "are_numbers" "are_numbers" ff ["thing","many"] 40 (Hd.fd ff "are_numbers" "are_numbers" qH 39):=Hd.mw e.X e.G (by kernel_rfl) fun _ _ _ _ _ _ _ _=>rfl
theorem yn:bD PW w (KX w.params) mg base cD 3 40 (Hd.fd ff "are_numbers" "are_numbers" qH 39) ["thing","many"] (cG jK):=by
 have B:=Bt e
 have Q:=Qt e
 exact bP (N:=jR) (qF e).fn wC (fun cdv A outer s H E hr=>(ax (aK (tm (aV (lr e) (pB e) (hr.mono (by decide)) (aa (fi.nm 0) (aa (fi.nm 1) ai)) (fi.d 0) (fi.g 0)) (oV (cB (yE rfl) (aa (dF (Nc:=["each"]) (bj.look (ag ff) ["thing","many"] (by decide+kernel)) (dY (fi.nm 0)) (fun _ _ _ _=>(cY (show(["each"]:List Str).Nodup by decide+kernel) (by first|exact Or.inl rfl|exact Or.inr rfl) (by first|exact .inl rfl|exact .inr rfl))) (fun _ _ _ _=>ck) (fun _ _ _ _=>(aV (tK e) (AJ e) (hr.mono (by decide)) (aa cF ai) (by decide+kernel) rfl)) bT) ai) B.yt rfl vP (fi.d 1) (fi.g 1))))))) wR
theorem oB:bL (KX w.params) mg "as_rows" "as_rows" iY ["rows"] 45 (Hd.fd iY "as_rows" "as_rows" eM 44):=Hd.mQ e.X e.G (by kernel_rfl) fun _ _ _ _ _ _ _=>rfl
theorem rP:bD PW w (KX w.params) mg base cD 1 45 (Hd.fd iY "as_rows" "as_rows" eM 44) ["rows"] (cG mv):=by
 have B:=Bt e
 have Q:=Qt e
 exact bP (N:=ou) (oB e).fn C2 (fun cdv A outer s H E hr=>(ax (aK (eh dW (aa (dF (Nc:=["row"]) (bj.look (ag iY) ["rows"] (by decide+kernel)) (dY (rO.nm 0)) (fun _ _ _ _=>(cY (show(["row"]:List Str).Nodup by decide+kernel) (by first|exact Or.inl rfl|exact Or.inr rfl) (by first|exact .inl rfl|exact .inr rfl))) (fun _ _ _ _=>ck) (fun _ _ _ _=>(eh dW (aa cF ai) B.du rfl cW (by decide+kernel) rfl)) bT) ai) B.du rfl cW (rO.d 0) (rO.g 0))))) Cq
theorem pv:bL (KX w.params) mg "added" "added" ly ["row","times","other"] 50 (Hd.fd ly "added" "added" eM 49):=Hd.xO e.X e.G (by kernel_rfl) fun _ _ _ _ _ _ _ _ _=>rfl
theorem sq:bD PW w (KX w.params) mg base cD 1 50 (Hd.fd ly "added" "added" eM 49) ["row","times","other"] (cG nz):=by
 have B:=Bt e
 have Q:=Qt e
 exact bP (N:=sQ) (pv e).fn Gb (fun cdv A outer s H E hr=>(ax (aK (dF (Nc:=["one","two","times"]) (bj.look (ag ly) ["row","times","other"] (by decide+kernel)) (sI (wx.g 0) B.sG (aa (wx.nm 0) (aa (wx.nm 2) ai))) (fun _ _ _ _=>(mT rfl (show(["one","two","times"]:List Str).Nodup by decide+kernel) (by first|exact Or.inl rfl|exact Or.inr rfl) (by first|exact .inl rfl|exact .inr rfl) (by first|exact Or.inl rfl|exact Or.inr rfl) (by first|exact .inl rfl|exact .inr rfl))) (fun _ _ _ _=>ck) (fun _ _ _ _=>(bG eS cF (bG eR cF cF))) sW)))) FA
theorem Ao:bL (KX w.params) mg "sum_by" "sum_by" lz ["weights","rows","wide"] 57 (Hd.fd lz "sum_by" "sum_by" eM 56):=Hd.xO e.X e.G (by kernel_rfl) fun _ _ _ _ _ _ _ _ _=>rfl
theorem F_:bD PW w (KX w.params) mg base cD 2 57 (Hd.fd lz "sum_by" "sum_by" eM 56) ["weights","rows","wide"] (cG uF):=by
 have B:=Bt e
 have Q:=Qt e
 exact bP (N:=qt) (Ao e).fn oW (fun cdv A outer s H E hr=>(aq (bh oW.nd (d_.l 3) (bG eR (iE (aa av ai)) (d_.nm 2)))
  (aq (gS (sI (d_.g 0) B.sG (aa (d_.nm 0) (aa (d_.nm 1) ai))) (mT rfl oW.nd (by first|exact Or.inl rfl|exact Or.inr rfl) (by first|exact .inl rfl|exact .inr rfl) (by first|exact Or.inl rfl|exact Or.inr rfl) (by first|exact .inl rfl|exact .inr rfl)) (ax (bh oW.nd (d_.l 3) (aV (pv e) (sq e) (hr.mono (by decide)) (aa (d_.nm 3) (aa (d_.nm 4) (aa (d_.nm 5) ai))) (d_.d 1) (d_.g 1)))))
  (ax (aK (eh dW (aa (d_.nm 3) ai) B.du rfl cW (d_.d 2) (d_.g 2))))))) Dz
theorem qW:bL (KX w.params) mg "product" "product" iO ["one","other"] 62 (Hd.fd iO "product" "product" eM 61):=Hd.mw e.X e.G (by kernel_rfl) fun _ _ _ _ _ _ _ _=>rfl
theorem xN:bD PW w (KX w.params) mg base cD 3 62 (Hd.fd iO "product" "product" eM 61) ["one","other"] (cG oS):=by
 have B:=Bt e
 have Q:=Qt e
 exact bP (N:=oo) (qW e).fn u0 (fun cdv A outer s H E hr=>(aq (bh u0.nd (iQ.l 2) (cB cO (aa (aX (iQ.nm 1) av) ai) B.cN rfl cq (iQ.d 0) (iQ.g 0)))
  (ax (aK (eh dW (aa (dF (Nc:=["weights","other","wide"]) (bj.look (ag iO) ["one","other","wide"] (by decide+kernel)) (dY (iQ.nm 0)) (fun _ _ _ _=>(cY (show(["weights","other","wide"]:List Str).Nodup by decide+kernel) (by first|exact Or.inl rfl|exact Or.inr rfl) (by first|exact .inl rfl|exact .inr rfl))) (fun _ _ _ _=>ck) (fun _ _ _ _=>(aV (Ao e) (F_ e) (hr.mono (by decide)) (aa cF (aa cF (aa cF ai))) (by decide+kernel) rfl)) bT) ai) B.du rfl cW (iQ.d 1) (iQ.g 1)))))) CY
theorem zo:bL (KX w.params) mg "column" "column" j4 ["rows","place"] 67 (Hd.fd j4 "column" "column" eM 66):=Hd.mw e.X e.G (by kernel_rfl) fun _ _ _ _ _ _ _ _=>rfl
theorem Gf:bD PW w (KX w.params) mg base cD 1 67 (Hd.fd j4 "column" "column" eM 66) ["rows","place"] (cG uC):=by
 have B:=Bt e
 have Q:=Qt e
 exact bP (N:=qo) (zo e).fn EG (fun cdv A outer s H E hr=>(ax (aK (eh dW (aa (dF (Nc:=["row","place"]) (bj.look (ag j4) ["rows","place"] (by decide+kernel)) (dY (uE.nm 0)) (fun _ _ _ _=>(cY (show(["row","place"]:List Str).Nodup by decide+kernel) (by first|exact Or.inl rfl|exact Or.inr rfl) (by first|exact .inl rfl|exact .inr rfl))) (fun _ _ _ _=>ck) (fun _ _ _ _=>(aX cF cF)) bT) ai) B.du rfl cW (uE.d 0) (uE.g 0))))) D0
theorem qJ:bL (KX w.params) mg "turned_over" "turned_over" fe ["rows","wide"] 72 (Hd.fd fe "turned_over" "turned_over" eM 71):=Hd.mw e.X e.G (by kernel_rfl) fun _ _ _ _ _ _ _ _=>rfl
theorem x8:bD PW w (KX w.params) mg base cD 2 72 (Hd.fd fe "turned_over" "turned_over" eM 71) ["rows","wide"] (cG mG):=by
 have B:=Bt e
 have Q:=Qt e
 exact bP (N:=jO) (qJ e).fn wy (fun cdv A outer s H E hr=>(ax (aK (eh dW (aa (dF (Nc:=["place","rows"]) (bj.look (ag fe) ["rows","wide"] (by decide+kernel)) (eF (jJ.g 0) B.e9 (aa (jJ.nm 1) ai)) (fun _ _ _ _=>(cY (show(["place","rows"]:List Str).Nodup by decide+kernel) (by first|exact Or.inl rfl|exact Or.inr rfl) (by first|exact .inl rfl|exact .inr rfl))) (fun _ _ _ _=>ck) (fun _ _ _ _=>(aV (zo e) (Gf e) (hr.mono (by decide)) (aa cF (aa cF ai)) (by decide+kernel) rfl)) bT) ai) B.du rfl cW (jJ.d 1) (jJ.g 1))))) wo
theorem vB:bL (KX w.params) mg "unit_row" "unit_row" g5 ["n","place"] 77 (Hd.fd g5 "unit_row" "unit_row" eM 76):=Hd.mw e.X e.G (by kernel_rfl) fun _ _ _ _ _ _ _ _=>rfl
theorem BV:bD PW w (KX w.params) mg base cD 1 77 (Hd.fd g5 "unit_row" "unit_row" eM 76) ["n","place"] (cG qA):=by
 have B:=Bt e
 have Q:=Qt e
 exact bP (N:=ni) (vB e).fn A7 (fun cdv A outer s H E hr=>(ax (aK (eh dW (aa (dF (Nc:=["k","place"]) (bj.look (ag g5) ["n","place"] (by decide+kernel)) (eF (nh.g 0) B.e9 (aa (nh.nm 0) ai)) (fun _ _ _ _=>(cY (show(["k","place"]:List Str).Nodup by decide+kernel) (by first|exact Or.inl rfl|exact Or.inr rfl) (by first|exact .inl rfl|exact .inr rfl))) (fun _ _ _ _=>ck) (fun _ _ _ _=>(ML (bo (eC hr) (aU _) cF cF) av av)) bT) ai) B.du rfl cW (nh.d 1) (nh.g 1))))) AF
theorem lQ:bL (KX w.params) mg "unit_rows" "unit_rows" f9 ["n"] 82 (Hd.fd f9 "unit_rows" "unit_rows" eM 81):=Hd.mQ e.X e.G (by kernel_rfl) fun _ _ _ _ _ _ _=>rfl
theorem pd:bD PW w (KX w.params) mg base cD 2 82 (Hd.fd f9 "unit_rows" "unit_rows" eM 81) ["n"] (cG jF):=by
 have B:=Bt e
 have Q:=Qt e
 exact bP (N:=lO) (lQ e).fn yJ (fun cdv A outer s H E hr=>(ax (aK (eh dW (aa (dF (Nc:=["place","n"]) (bj.look (ag f9) ["n"] (by decide+kernel)) (eF (lH.g 0) B.e9 (aa (lH.nm 0) ai)) (fun _ _ _ _=>(cY (show(["place","n"]:List Str).Nodup by decide+kernel) (by first|exact Or.inl rfl|exact Or.inr rfl) (by first|exact .inl rfl|exact .inr rfl))) (fun _ _ _ _=>ck) (fun _ _ _ _=>(aV (vB e) (BV e) (hr.mono (by decide)) (aa cF (aa cF ai)) (by decide+kernel) rfl)) bT) ai) B.du rfl cW (lH.d 1) (lH.g 1))))) yV
theorem qC:bL (KX w.params) mg "nought_rows" "nought_rows" fP ["many","wide"] 89 (Hd.fd fP "nought_rows" "nought_rows" eM 88):=Hd.mw e.X e.G (by kernel_rfl) fun _ _ _ _ _ _ _ _=>rfl
theorem yb:bD PW w (KX w.params) mg base cD 1 89 (Hd.fd fP "nought_rows" "nought_rows" eM 88) ["many","wide"] (cG mK):=by
 have B:=Bt e
 have Q:=Qt e
 exact bP (N:=jI) (qC e).fn wO (fun cdv A outer s H E hr=>(ax (aK (bG eR (gp (aa (bG eR (gp (aa av ai)) (qG.nm 1)) ai)) (qG.nm 0))))) wK
theorem mf:bL (KX w.params) mg "is_rows" "is_rows" jb ["thing","many","wide"] 94 (Hd.fd jb "is_rows" "is_rows" eM 93):=Hd.xO e.X e.G (by kernel_rfl) fun _ _ _ _ _ _ _ _ _=>rfl
theorem om:bD PW w (KX w.params) mg base cD 4 94 (Hd.fd jb "is_rows" "is_rows" eM 93) ["thing","many","wide"] (cG kc):=by
 have B:=Bt e
 have Q:=Qt e
 exact bP (N:=mD) (mf e).fn Cf (fun cdv A outer s H E hr=>(aq (bX (eg (dP (aV (lF e) (o5 e) (hr.mono (by decide)) (aa (eV.nm 0) ai) (eV.d 0) (eV.g 0)))) (ax (aK eD)) bJ)
  (aq (bX (fK (qX (bo Ad (aU _) (eV.nm 1) pN) (pq (bo rq (aU _) (cB cO (aa (eV.nm 0) ai) B.cN rfl cq (eV.d 1) (eV.g 1)) (eV.nm 1))))) (ax (aK eD)) bJ)
  (ax (aK (cB (yE rfl) (aa (dF (Nc:=["row","wide"]) (bj.look (ag jb) ["thing","many","wide"] (by decide+kernel)) (dY (eV.nm 0)) (fun _ _ _ _=>(cY (show(["row","wide"]:List Str).Nodup by decide+kernel) (by first|exact Or.inl rfl|exact Or.inr rfl) (by first|exact .inl rfl|exact .inr rfl))) (fun _ _ _ _=>ck) (fun _ _ _ _=>(aV (qF e) (yn e) (hr.mono (by decide)) (aa cF (aa cF ai)) (by decide+kernel) rfl)) bT) ai) B.yt rfl vP (eV.d 2) (eV.g 2))))))) Cd
theorem vN:bL (KX w.params) mg "are_back" "are_back" jm ["turn","back"] 101 (Hd.fd jm "are_back" "are_back" eM 100):=Hd.mw e.X e.G (by kernel_rfl) fun _ _ _ _ _ _ _ _=>rfl
theorem CK:bD PW w (KX w.params) mg base cD 5 101 (Hd.fd jm "are_back" "are_back" eM 100) ["turn","back"] (cG qj):=by
 have B:=Bt e
 have Q:=Qt e
 exact bP (N:=nq) (vN e).fn ue (fun cdv A outer s H E hr=>(aq (bX (eg (dP (aV (lF e) (o5 e) (hr.mono (by decide)) (aa (bI.nm 0) ai) (bI.d 0) (bI.g 0)))) (ax (aK eD)) bJ)
  (aq (bh ue.nd (bI.l 2) (cB cO (aa (bI.nm 0) ai) B.cN rfl cq (bI.d 1) (bI.g 1)))
  (aq (bX (fK (gn (eg (dP (aV (mf e) (om e) (hr.mono (by decide)) (aa (bI.nm 0) (aa (bI.nm 2) (aa (bI.nm 2) ai))) (bI.d 2) (bI.g 2)))) (gG (eg (dP (aV (mf e) (om e) (hr.mono (by decide)) (aa (bI.nm 1) (aa (bI.nm 2) (aa (bI.nm 2) ai))) (bI.d 2) (bI.g 2))))))) (ax (aK eD)) bJ)
  (ax (aK (Lv (oN (eC hr) (aU _) (bI.nm 2) av) (oV (oN (eC hr) (aU _) (aV (qW e) (xN e) (hr.mono (by decide)) (aa (bI.nm 0) (aa (bI.nm 1) ai)) (bI.d 3) (bI.g 3)) (aV (lQ e) (pd e) (hr.mono (by decide)) (aa (bI.nm 2) ai) (bI.d 4) (bI.g 4))))))))))) AV
theorem rh:bL (KX w.params) mg "is_turn_of" "is_turn_of" gO ["turn","back","many"] 108 (Hd.fd gO "is_turn_of" "is_turn_of" eM 107):=Hd.xO e.X e.G (by kernel_rfl) fun _ _ _ _ _ _ _ _ _=>rfl
theorem yH:bD PW w (KX w.params) mg base cD 6 108 (Hd.fd gO "is_turn_of" "is_turn_of" eM 107) ["turn","back","many"] (cG nF):=by
 have B:=Bt e
 have Q:=Qt e
 exact bP (N:=kq) (rh e).fn yd (fun cdv A outer s H E hr=>(ax (aK (tm (aV (mf e) (om e) (hr.mono (by decide)) (aa (d9.nm 0) (aa (d9.nm 2) (aa (d9.nm 2) ai))) (d9.d 0) (d9.g 0)) (oV (aV (vN e) (CK e) (hr.mono (by decide)) (aa (d9.nm 0) (aa (d9.nm 1) ai)) (d9.d 1) (d9.g 1))))))) yj
theorem xn:bL (KX w.params) mg "lead_of" "lead_of" j_ ["row"] 115 (Hd.fd j_ "lead_of" "lead_of" dJ 114):=Hd.mQ e.X e.G (by kernel_rfl) fun _ _ _ _ _ _ _=>rfl
theorem Dk:bD PW w (KX w.params) mg base cD 1 115 (Hd.fd j_ "lead_of" "lead_of" dJ 114) ["row"] (cG rB):=by
 have B:=Bt e
 have Q:=Qt e
 exact bP (N:=oj) (xn e).fn vL (fun cdv A outer s H E hr=>(aq (gS (EK (ox.g 0) B.tL (aa (ox.nm 0) ai)) (mT rfl vL.nd (by first|exact Or.inl rfl|exact Or.inr rfl) (by first|exact .inl rfl|exact .inr rfl) (by first|exact Or.inl rfl|exact Or.inr rfl) (by first|exact .inl rfl|exact .inr rfl)) (ax (bX (bo rq (aU _) (ox.nm 2) av) (ax (aK (ox.nm 1))) bJ)))
  (ax (aK pN)))) C6
theorem qD:bL (KX w.params) mg "is_standing" "is_standing" fh ["rows"] 120 (Hd.fd fh "is_standing" "is_standing" dJ 119):=Hd.mQ e.X e.G (by kernel_rfl) fun _ _ _ _ _ _ _=>rfl
theorem x4:bD PW w (KX w.params) mg base cD 2 120 (Hd.fd fh "is_standing" "is_standing" dJ 119) ["rows"] (cG mH):=by
 have B:=Bt e
 have Q:=Qt e
 exact bP (N:=jQ) (qD e).fn gM (fun cdv A outer s H E hr=>(aq (bh gM.nd (bN.l 1) (fX av))
  (aq (gS (EK (bN.g 0) B.tL (aa (bN.nm 0) ai)) (mT rfl gM.nd (by first|exact Or.inl rfl|exact Or.inr rfl) (by first|exact .inl rfl|exact .inr rfl) (by first|exact Or.inl rfl|exact Or.inr rfl) (by first|exact .inl rfl|exact .inr rfl)) (aq (bh gM.nd (bN.l 4) (aV (xn e) (Dk e) (hr.mono (by decide)) (aa (bN.nm 3) ai) (bN.d 1) (bN.g 1)))
  (aq (bX (fK (gn (bo JX (aU _) (bN.nm 4) pN) (gn (bo FR (aU _) (bN.nm 4) (bN.nm 1)) (gG (bo uD (aU _) (aX (bN.nm 3) (bN.nm 4)) av))))) (ax (aK eD)) bJ)
  (aq (bX (eg (dP (cB (yE rfl) (aa (dF (Nc:=["above","lead","row"]) (bj.look (ag fh) ["rows","ahead","k","row","lead"] (by decide+kernel)) (dY (wW (bN.nm 0) wz (wJ (bN.nm 2)))) (fun _ _ _ _=>(cY (show(["above","lead","row"]:List Str).Nodup by decide+kernel) (by first|exact Or.inl rfl|exact Or.inr rfl) (by first|exact .inl rfl|exact .inr rfl))) (fun _ _ _ _=>ck) (fun _ _ _ _=>(IE FR uD av (aX cF cF) (aX cF cF))) bT) ai) B.yt rfl vP (bN.d 2) (bN.g 2)))) (ax (aK eD)) bJ)
  (ax (bh gM.nd (bN.l 1) (bN.nm 4)))))))
  (ax (aK eD))))) wd
theorem l9:bL (KX w.params) mg "nearest_quotient" "nearest_quotient" dR ["top","bottom"] 127 (Hd.fd dR "nearest_quotient" "nearest_quotient" dJ 126):=Hd.mw e.X e.G (by kernel_rfl) fun _ _ _ _ _ _ _ _=>rfl
theorem rV:bD PW w (KX w.params) mg base cD 1 127 (Hd.fd dR "nearest_quotient" "nearest_quotient" dJ 126) ["top","bottom"] (cG iN):=by
 have B:=Bt e
 have Q:=Qt e
 exact bP (N:=fV) (l9 e).fn iu (fun cdv A outer s H E hr=>(ax (aK (bG (Bf hr rfl iu.gen iu.co) (bG eS (bG eR av (i_.nm 0)) (i_.nm 1)) (bG eR av (i_.nm 1)))))) qM
theorem lR:bL (KX w.params) mg "exchanged" "exchanged" ig ["rows","k","other"] 134 (Hd.fd ig "exchanged" "exchanged" dJ 133):=Hd.xO e.X e.G (by kernel_rfl) fun _ _ _ _ _ _ _ _ _=>rfl
theorem pe:bD PW w (KX w.params) mg base cD 1 134 (Hd.fd ig "exchanged" "exchanged" dJ 133) ["rows","k","other"] (cG jH):=by
 have B:=Bt e
 have Q:=Qt e
 exact bP (N:=lW) (lR e).fn rT (fun cdv A outer s H E hr=>(aq (bh rT.nd (c6.l 3) (eh sj (aa (c6.nm 0) ai) B.gN rfl fA (c6.d 0) (c6.g 0)))
  (aq (c9 (aX (c6.nm 0) (c6.nm 2)) (c6.nm 3) (c6.nm 1))
  (aq (c9 (aX (c6.nm 0) (c6.nm 1)) (c6.nm 3) (c6.nm 2))
  (ax (aK (c6.nm 3))))))) zB
theorem oQ:bL (KX w.params) mg "negated" "negated" ja ["row"] 139 (Hd.fd ja "negated" "negated" dJ 138):=Hd.mQ e.X e.G (by kernel_rfl) fun _ _ _ _ _ _ _=>rfl
theorem rY:bD PW w (KX w.params) mg base cD 1 139 (Hd.fd ja "negated" "negated" dJ 138) ["row"] (cG l7):=by
 have B:=Bt e
 have Q:=Qt e
 exact bP (N:=n_) (oQ e).fn BX (fun cdv A outer s H E hr=>(ax (aK (dF (Nc:=["number"]) (bj.look (ag ja) ["row"] (by decide+kernel)) (dY (DR.nm 0)) (fun _ _ _ _=>(cY (show(["number"]:List Str).Nodup by decide+kernel) (by first|exact Or.inl rfl|exact Or.inr rfl) (by first|exact .inl rfl|exact .inr rfl))) (fun _ _ _ _=>ck) (fun _ _ _ _=>(fX cF)) bT)))) BZ
theorem hJ:MethAt (KX w.params) aF "__init__" "Bench.__init__" cU ["self","rows"] 151 (Hd.fd cU "__init__" "Bench.__init__" dJ 150):=Hd.NP (by kernel_rfl) fun _ _ _ _ _ _ _ _=>rfl
theorem uu:bD PW w (KX w.params) mg base cD 3 151 (Hd.fd cU "__init__" "Bench.__init__" dJ 150) ["self","rows"] (cG jV):=by
 have B:=Bt e
 have Q:=Qt e
 exact bP (N:=g9) (hJ e).fn tG (fun cdv A outer s H E hr=>(aq (nC Q.a_.cl Q.cn (bS.nm 0) (vY (Nc:=["row"]) (bj.look (ag cU) ["self","rows"] (by decide+kernel)) (dY (bS.nm 1)) (fun _ _ _ _=>(cY (show(["row"]:List Str).Nodup by decide+kernel) (by first|exact Or.inl rfl|exact Or.inr rfl) (by first|exact .inl rfl|exact .inr rfl))) (fun _ _ _ _=>ck) (fun _ _ _ _=>(eh nP (aa cF ai) B.gN rfl fA (by decide+kernel) rfl)) bT))
  (aq (nC Q.a_.cl Q.et (bS.nm 0) (vY (Nc:=["row"]) (bj.look (ag cU) ["self","rows"] (by decide+kernel)) (dY (aV (lQ e) (pd e) (hr.mono (by decide)) (aa (cB cO (aa (bS.nm 1) ai) B.cN rfl cq (bS.d 0) (bS.g 0)) ai) (bS.d 1) (bS.g 1))) (fun _ _ _ _=>(cY (show(["row"]:List Str).Nodup by decide+kernel) (by first|exact Or.inl rfl|exact Or.inr rfl) (by first|exact .inl rfl|exact .inr rfl))) (fun _ _ _ _=>ck) (fun _ _ _ _=>(eh nP (aa cF ai) B.gN rfl fA (by decide+kernel) rfl)) bT))
  (ax (nC Q.a_.cl Q.cz (bS.nm 0) (vY (Nc:=["row"]) (bj.look (ag cU) ["self","rows"] (by decide+kernel)) (dY (aV (lQ e) (pd e) (hr.mono (by decide)) (aa (cB cO (aa (bS.nm 1) ai) B.cN rfl cq (bS.d 0) (bS.g 0)) ai) (bS.d 1) (bS.g 1))) (fun _ _ _ _=>(cY (show(["row"]:List Str).Nodup by decide+kernel) (by first|exact Or.inl rfl|exact Or.inr rfl) (by first|exact .inl rfl|exact .inr rfl))) (fun _ _ _ _=>ck) (fun _ _ _ _=>(eh nP (aa cF ai) B.gN rfl fA (by decide+kernel) rfl)) bT)))))) tu
theorem i7:MethAt (KX w.params) aF "take" "Bench.take" gE ["self","k","times","other"] 158 (Hd.fd gE "take" "Bench.take" dJ 157):=Hd.O4 (by kernel_rfl) fun _ _ _ _ _ _ _ _ _ _=>rfl
theorem rQ:bD PW w (KX w.params) mg base cD 2 158 (Hd.fd gE "take" "Bench.take" dJ 157) ["self","k","times","other"] (cG kI):=by
 have B:=Bt e
 have Q:=Qt e
 exact bP (N:=kM) (i7 e).fn x_ (fun cdv A outer s H E hr=>(aq (c9 (aV (pv e) (sq e) (hr.mono (by decide)) (aa (aX (c_ Q.a_.cl Q.cn (a8.nm 0)) (a8.nm 1)) (aa (fX (a8.nm 2)) (aa (aX (c_ Q.a_.cl Q.cn (a8.nm 0)) (a8.nm 3)) ai))) (a8.d 0) (a8.g 0)) (c_ Q.a_.cl Q.cn (a8.nm 0)) (a8.nm 1))
  (aq (c9 (aV (pv e) (sq e) (hr.mono (by decide)) (aa (aX (c_ Q.a_.cl Q.et (a8.nm 0)) (a8.nm 1)) (aa (fX (a8.nm 2)) (aa (aX (c_ Q.a_.cl Q.et (a8.nm 0)) (a8.nm 3)) ai))) (a8.d 0) (a8.g 0)) (c_ Q.a_.cl Q.et (a8.nm 0)) (a8.nm 1))
  (ax (c9 (aV (pv e) (sq e) (hr.mono (by decide)) (aa (aX (c_ Q.a_.cl Q.cz (a8.nm 0)) (a8.nm 3)) (aa (a8.nm 2) (aa (aX (c_ Q.a_.cl Q.cz (a8.nm 0)) (a8.nm 1)) ai))) (a8.d 0) (a8.g 0)) (c_ Q.a_.cl Q.cz (a8.nm 0)) (a8.nm 3)))))) yi
theorem jU:MethAt (KX w.params) aF "exchange" "Bench.exchange" eK ["self","k","other"] 165 (Hd.fd eK "exchange" "Bench.exchange" dJ 164):=Hd.GL (by kernel_rfl) fun _ _ _ _ _ _ _ _ _=>rfl
theorem uP:bD PW w (KX w.params) mg base cD 2 165 (Hd.fd eK "exchange" "Bench.exchange" dJ 164) ["self","k","other"] (cG jS):=by
 have B:=Bt e
 have Q:=Qt e
 exact bP (N:=g0) (jU e).fn tw (fun cdv A outer s H E hr=>(aq (nC Q.a_.cl Q.cn (bx.nm 0) (aV (lR e) (pe e) (hr.mono (by decide)) (aa (c_ Q.a_.cl Q.cn (bx.nm 0)) (aa (bx.nm 1) (aa (bx.nm 2) ai))) (bx.d 0) (bx.g 0)))
  (aq (nC Q.a_.cl Q.et (bx.nm 0) (aV (lR e) (pe e) (hr.mono (by decide)) (aa (c_ Q.a_.cl Q.et (bx.nm 0)) (aa (bx.nm 1) (aa (bx.nm 2) ai))) (bx.d 0) (bx.g 0)))
  (ax (nC Q.a_.cl Q.cz (bx.nm 0) (aV (lR e) (pe e) (hr.mono (by decide)) (aa (c_ Q.a_.cl Q.cz (bx.nm 0)) (aa (bx.nm 1) (aa (bx.nm 2) ai))) (bx.d 0) (bx.g 0))))))) tH
theorem iD:MethAt (KX w.params) aF "change_sign" "Bench.change_sign" dz ["self","k"] 172 (Hd.fd dz "change_sign" "Bench.change_sign" dJ 171):=Hd.NP (by kernel_rfl) fun _ _ _ _ _ _ _ _=>rfl
theorem qL:bD PW w (KX w.params) mg base cD 2 172 (Hd.fd dz "change_sign" "Bench.change_sign" dJ 171) ["self","k"] (cG iC):=by
 have B:=Bt e
 have Q:=Qt e
 exact bP (N:=fJ) (iD e).fn qm (fun cdv A outer s H E hr=>(aq (c9 (aV (oQ e) (rY e) (hr.mono (by decide)) (aa (aX (c_ Q.a_.cl Q.cn (aZ.nm 0)) (aZ.nm 1)) ai) (aZ.d 0) (aZ.g 0)) (c_ Q.a_.cl Q.cn (aZ.nm 0)) (aZ.nm 1))
  (aq (c9 (aV (oQ e) (rY e) (hr.mono (by decide)) (aa (aX (c_ Q.a_.cl Q.et (aZ.nm 0)) (aZ.nm 1)) ai) (aZ.d 0) (aZ.g 0)) (c_ Q.a_.cl Q.et (aZ.nm 0)) (aZ.nm 1))
  (ax (c9 (aV (oQ e) (rY e) (hr.mono (by decide)) (aa (aX (c_ Q.a_.cl Q.cz (aZ.nm 0)) (aZ.nm 1)) ai) (aZ.d 0) (aZ.g 0)) (c_ Q.a_.cl Q.cz (aZ.nm 0)) (aZ.nm 1)))))) pV
theorem gm:MethAt (KX w.params) aF "live_rows" "Bench.live_rows" c7 ["self","top","place"] 177 (Hd.fd c7 "live_rows" "Bench.live_rows" dJ 176):=Hd.GL (by kernel_rfl) fun _ _ _ _ _ _ _ _ _=>rfl
theorem mO:bD PW w (KX w.params) mg base cD 3 177 (Hd.fd c7 "live_rows" "Bench.live_rows" dJ 176) ["self","top","place"] (cG gu):=by
 have B:=Bt e
 have Q:=Qt e
 have hC:PySem.W.codeHdIn (KX w.params) 176 174=true:=by kernel_rfl
 exact KQ (N:=gq) (Hd.fc (by kernel_rfl)) mB (fun A outer s H E hr=>(aq (kZ mB.nd (c8.l 3) (Nc:=["k","self","place"]) (bj.look (ag c7) ["self","top","place","live"] (by decide+kernel)) (Gk (c8.g 1) B.e9 (aa (c8.nm 1) (aa (cB cO (aa (c_ Q.a_.cl Q.cn (c8.nm 0)) ai) B.cN rfl cq (c8.d 0) (c8.g 0)) ai))) (fun _ _ _ _=>(cY (show(["k","self","place"]:List Str).Nodup by decide+kernel) (by first|exact Or.inl rfl|exact Or.inr rfl) (by first|exact .inl rfl|exact .inr rfl))) (fun _ _ _ _=>(DH (bo rq (aU _) (aX (aX (c_ Q.a_.cl Q.cn cF) cF) cF) av))) (fun _ _ _ _=>cF) bT)
  (ax (aK (Hq (c0:=176) (mV.look (Nc:=["k","self","place"]) (fr:=[none,some 0,some 2]) (p:="k") (bj.look (ag c7) ["self","top","place","live"] (by decide+kernel))) rfl hr rfl hC (fun _ _ _ _=>(cB Gs (aa (aX (aX (c_ Q.a_.cl Q.cn cF) cF) cF) ai) B.Gz rfl DZ (by decide+kernel) rfl)) (c8.nm 3) (c8.g 2) B.FW))))) r_
theorem lh:MethAt (KX w.params) aF "gather" "Bench.gather" fy ["self","top","place"] 184 (Hd.fd fy "gather" "Bench.gather" dJ 183):=Hd.GL (by kernel_rfl) fun _ _ _ _ _ _ _ _ _=>rfl
theorem wu:bD PW w (KX w.params) mg base cD 4 184 (Hd.fd fy "gather" "Bench.gather" dJ 183) ["self","top","place"] (cG k_):=by
 have B:=Bt e
 have Q:=Qt e
 exact bP (N:=jo) (lh e).fn fW (fun cdv A outer s H E hr=>(aq (bh fW.nd (aC.l 3) (l6 (aC.nm 0) Q.a_.cl (gm e).me (mO e) (hr.mono (by decide)) (gm e).bd (aa (aC.nm 1) (aa (aC.nm 2) ai))))
  (aq (Gj (bo uq (aU _) (cB cO (aa (aC.nm 3) ai) B.cN rfl cq (aC.d 0) (aC.g 0)) av) (aq (bh fW.nd (aC.l 4) (aX (aC.nm 3) (fX av)))
  (aq (bh fW.nd (aC.l 5) (aX (aC.nm 3) (fX av)))
  (aq (h9 (l6 (aC.nm 0) Q.a_.cl (i7 e).me (rQ e) (hr.mono (by decide)) (i7 e).bd (aa (aC.nm 4) (aa (aV (l9 e) (rV e) (hr.mono (by decide)) (aa (aX (aX (c_ Q.a_.cl Q.cn (aC.nm 0)) (aC.nm 4)) (aC.nm 2)) (aa (aX (aX (c_ Q.a_.cl Q.cn (aC.nm 0)) (aC.nm 5)) (aC.nm 2)) ai)) (aC.d 1) (aC.g 1)) (aa (aC.nm 5) ai)))))
  (ax (bh fW.nd (aC.l 3) (l6 (aC.nm 0) Q.a_.cl (gm e).me (mO e) (hr.mono (by decide)) (gm e).bd (aa (aC.nm 1) (aa (aC.nm 2) ai)))))))))
  (aq (bX (bo (eC hr) (aU _) (cB cO (aa (aC.nm 3) ai) B.cN rfl cq (aC.d 0) (aC.g 0)) av) (ax (aK eD)) bJ)
  (aq (h9 (l6 (aC.nm 0) Q.a_.cl (jU e).me (uP e) (hr.mono (by decide)) (jU e).bd (aa (aC.nm 1) (aa (aX (aC.nm 3) av) ai))))
  (aq (bX (bo uD (aU _) (aX (aX (c_ Q.a_.cl Q.cn (aC.nm 0)) (aC.nm 1)) (aC.nm 2)) av) (ax (h9 (l6 (aC.nm 0) Q.a_.cl (iD e).me (qL e) (hr.mono (by decide)) (iD e).bd (aa (aC.nm 1) ai)))) bJ)
  (ax (aK eD)))))))) vx
theorem iA:MethAt (KX w.params) aF "lower_above" "Bench.lower_above" dw ["self","top","place"] 191 (Hd.fd dw "lower_above" "Bench.lower_above" dJ 190):=Hd.GL (by kernel_rfl) fun _ _ _ _ _ _ _ _ _=>rfl
theorem qQ:bD PW w (KX w.params) mg base cD 3 191 (Hd.fd dw "lower_above" "Bench.lower_above" dJ 190) ["self","top","place"] (cG iw):=by
 have B:=Bt e
 have Q:=Qt e
 exact bP (N:=fL) (iA e).fn ft (fun cdv A outer s H E hr=>(ax (gS (eF (cf.g 0) B.e9 (aa (cf.nm 1) ai)) (cY ft.nd (by first|exact Or.inl rfl|exact Or.inr rfl) (by first|exact .inl rfl|exact .inr rfl)) (ax (h9 (l6 (cf.nm 0) Q.a_.cl (i7 e).me (rQ e) (hr.mono (by decide)) (i7 e).bd (aa (cf.nm 3) (aa (bG (Bf hr rfl ft.gen ft.co) (aX (aX (c_ Q.a_.cl Q.cn (cf.nm 0)) (cf.nm 3)) (cf.nm 2)) (aX (aX (c_ Q.a_.cl Q.cn (cf.nm 0)) (cf.nm 1)) (cf.nm 2))) (aa (cf.nm 1) ai))))))))) qk
theorem vO:bL (KX w.params) mg "standing" "standing" js ["rows"] 205 (Hd.fd js "standing" "standing" dJ 204):=Hd.mQ e.X e.G (by kernel_rfl) fun _ _ _ _ _ _ _=>rfl
theorem C_:bD PW w (KX w.params) mg base cD 5 205 (Hd.fd js "standing" "standing" dJ 204) ["rows"] (cG qi):=by
 have B:=Bt e
 have Q:=Qt e
 exact bP (N:=nj) (vO e).fn ij (fun cdv A outer s H E hr=>(aq (bh ij.nd (bc.l 1) (JR ⟨Q.a_.O0,(hJ e).me.at_,(hJ e).me.fn,Q.a_.kp⟩ (uu e) (hr.mono (by decide)) (bc.g 0) Q.a_.mg (hJ e).bd (aa (bc.nm 0) ai) (bc.d 0)))
  (aq (bh ij.nd (bc.l 2) av)
  (aq (gS (eF (bc.g 2) B.e9 (aa (cB cO (aa (aX (bc.nm 0) av) ai) B.cN rfl cq (bc.d 1) (bc.g 1)) ai)) (cY ij.nd (by first|exact Or.inl rfl|exact Or.inr rfl) (by first|exact .inl rfl|exact .inr rfl)) (ax (bX (dP (l6 (bc.nm 1) Q.a_.cl (lh e).me (wu e) (hr.mono (by decide)) (lh e).bd (aa (bc.nm 2) (aa (bc.nm 3) ai)))) (aq (h9 (l6 (bc.nm 1) Q.a_.cl (iA e).me (qQ e) (hr.mono (by decide)) (iA e).bd (aa (bc.nm 2) (aa (bc.nm 3) ai))))
  (ax (Ki ij.nd (bc.l 2) av Jy))) bJ)))
  (aq (bh ij.nd (bc.l 4) (aV (qJ e) (x8 e) (hr.mono (by decide)) (aa (c_ Q.a_.cl Q.cz (bc.nm 1)) (aa (cB cO (aa (bc.nm 0) ai) B.cN rfl cq (bc.d 1) (bc.g 1)) ai)) (bc.d 3) (bc.g 3)))
  (ax (aK (gp (aa (aV (oB e) (rP e) (hr.mono (by decide)) (aa (wW (c_ Q.a_.cl Q.cn (bc.nm 1)) wz (wJ (bc.nm 2))) ai) (bc.d 4) (bc.g 4)) (aa (aV (oB e) (rP e) (hr.mono (by decide)) (aa (c_ Q.a_.cl Q.et (bc.nm 1)) ai) (bc.d 4) (bc.g 4)) (aa (bc.nm 4) ai))))))))))) AK
theorem g_:bL (KX w.params) mg "shows_standing" "shows_standing" eH ["rows","told"] 212 (Hd.fd eH "shows_standing" "shows_standing" dJ 211):=Hd.mw e.X e.G (by kernel_rfl) fun _ _ _ _ _ _ _ _=>rfl
theorem jT:bD PW w (KX w.params) mg base cD 7 212 (Hd.fd eH "shows_standing" "shows_standing" dJ 211) ["rows","told"] (cG fG):=by
 have B:=Bt e
 have Q:=Qt e
 exact bP (N:=g8) (g_ e).fn fk (fun cdv A outer s H E hr=>(aq (bh fk.nd (ay.l 2) (cB cO (aa (ay.nm 0) ai) B.cN rfl cq (ay.d 0) (ay.g 0)))
  (aq (bh fk.nd (ay.l 3) (cB cO (aa (aX (ay.nm 0) av) ai) B.cN rfl cq (ay.d 0) (ay.g 0)))
  (aq (bX (eg (dP (aV (lr e) (pB e) (hr.mono (by decide)) (aa (ay.nm 1) (aa av ai)) (ay.d 1) (ay.g 1)))) (ax (aK eD)) bJ)
  (aq (bh fk.nd (ay.l 4) (aX (ay.nm 1) av))
  (aq (bh fk.nd (ay.l 5) (aX (ay.nm 1) av))
  (aq (bX (fK (gn (eg (dP (aV (mf e) (om e) (hr.mono (by decide)) (aa (ay.nm 4) (aa pN (aa (ay.nm 3) ai))) (ay.d 2) (ay.g 2)))) (gG (eg (dP (aV (qD e) (x4 e) (hr.mono (by decide)) (aa (ay.nm 4) ai) (ay.d 3) (ay.g 3))))))) (ax (aK eD)) bJ)
  (aq (bX (eg (dP (aV (rh e) (yH e) (hr.mono (by decide)) (aa (ay.nm 5) (aa (aX (ay.nm 1) av) (aa (ay.nm 2) ai))) (ay.d 4) (ay.g 4)))) (ax (aK eD)) bJ)
  (ax (aK (oN (eC hr) (aU _) (aV (qW e) (xN e) (hr.mono (by decide)) (aa (ay.nm 5) (aa (ay.nm 0) ai)) (ay.d 5) (ay.g 5)) (bG eS (aV (oB e) (rP e) (hr.mono (by decide)) (aa (ay.nm 4) ai) (ay.d 6) (ay.g 6)) (aV (qC e) (yb e) (hr.mono (by decide)) (aa (bG oM (ay.nm 2) (cB cO (aa (ay.nm 4) ai) B.cN rfl cq (ay.d 0) (ay.g 0))) (aa (ay.nm 3) ai)) (ay.d 7) (ay.g 7)))))))))))))) tD
theorem vR:bL (KX w.params) mg "_law_hand" "_law_hand" g4 ["_law_script"] 217 (Hd.fd g4 "_law_hand" "_law_hand" cK 216):=Hd.mQ e.X e.G (by kernel_rfl) fun _ _ _ _ _ _ _=>rfl
theorem CQ:bD PW w (KX w.params) mg base cD 1 217 (Hd.fd g4 "_law_hand" "_law_hand" cK 216) ["_law_script"] (cG pS):=by
 have B:=Bt e
 have Q:=Qt e
 exact bP (N:=mZ) (vR e).fn AO (fun cdv A outer s H E hr=>(ax (aK (Gx (aa (dF (Nc:=["_law_cell"]) (bj.look (ag g4) ["_law_script"] (by decide+kernel)) (dY (wW (Ct.nm 0) wz (wJ av))) (fun _ _ _ _=>(cY (show(["_law_cell"]:List Str).Nodup by decide+kernel) (by first|exact Or.inl rfl|exact Or.inr rfl) (by first|exact .inl rfl|exact .inr rfl))) (fun _ _ _ _=>ck) (fun _ _ _ _=>(cB Gs (aa cF ai) B.Gz rfl DZ (by decide+kernel) rfl)) bT) (aa av (aa av (aa av ai)))))))) AM
theorem bV:bL (KX w.params) mg "_law_draw" "_law_draw" jh ["_law_hand_here","_law_many"] 224 (Hd.fd jh "_law_draw" "_law_draw" cK 223):=Hd.mw e.X e.G (by kernel_rfl) fun _ _ _ _ _ _ _ _=>rfl
theorem b_:bD PW w (KX w.params) mg base cD 1 224 (Hd.fd jh "_law_draw" "_law_draw" cK 223) ["_law_hand_here","_law_many"] (cG bK):=by
 have B:=Bt e
 have Q:=Qt e
 exact bP (N:=m5) (bV e).fn gh (fun cdv A outer s H E hr=>(aq (c9 (bG eS (aX (aN.nm 0) av) av) (aN.nm 0) av)
  (aq (bX (bo (eC hr) (aU _) (aX (aN.nm 0) av) av) (aq (bh gh.nd (aN.l 2) av)
  (aq (bX (bo uq (aU _) (cB cO (aa (aX (aN.nm 0) av) ai) B.cN rfl cq (aN.d 0) (aN.g 0)) av) (ax (bh gh.nd (aN.l 2) (aX (aX (aN.nm 0) av) (bG oE (aX (aN.nm 0) av) (cB cO (aa (aX (aN.nm 0) av) ai) B.cN rfl cq (aN.d 0) (aN.g 0)))))) bJ)
  (aq (c9 (bG eS (aX (aN.nm 0) av) av) (aN.nm 0) av)
  (aq (bX (fK (gn (bo uD (aU _) (aN.nm 2) (bG vg av av)) (gG (bo uq (aU _) (aX (aN.nm 0) av) (cB cO (aa (aX (aN.nm 0) av) ai) B.cN rfl cq (aN.d 0) (aN.g 0)))))) (aq (bh gh.nd (aN.l 3) (bG eS (bG eS (bG oE (aN.nm 2) av) (bG eR av (aX (aN.nm 0) av))) av))
  (aq (bh gh.nd (aN.l 3) (bG oE (bG eR (aN.nm 3) (bG eS av (bG eR av (aX (aN.nm 0) av)))) av))
  (aq (bh gh.nd (aN.l 4) (bG oE (bG eS (bG eR (aN.nm 3) (bG eS (bG oE (aN.nm 3) av) (aX (aN.nm 0) av))) (bG eR av (aX (aN.nm 0) av))) av))
  (ax (aK (bG oE (bG Di (aN.nm 4) av) (aN.nm 1))))))) bJ)
  (ax (c9 (aN.nm 2) (aN.nm 0) av)))))) bJ)
  (aq (bh gh.nd (aN.l 5) (bG oE (aX (aN.nm 0) av) (aN.nm 1)))
  (aq (c9 (bG Di (aX (aN.nm 0) av) (aN.nm 1)) (aN.nm 0) av)
  (ax (aK (aN.nm 5)))))))) AX
theorem q_:bL (KX w.params) mg "_law_number" "_law_number" gJ ["_law_hand_here","_law_kind"] 231 (Hd.fd gJ "_law_number" "_law_number" cK 230):=Hd.mw e.X e.G (by kernel_rfl) fun _ _ _ _ _ _ _ _=>rfl
theorem zh:bD PW w (KX w.params) mg base cD 2 231 (Hd.fd gJ "_law_number" "_law_number" cK 230) ["_law_hand_here","_law_kind"] (cG kL):=by
 have B:=Bt e
 have Q:=Qt e
 exact bP (N:=kQ) (q_ e).fn qI (fun cdv A outer s H E hr=>(aq (bX (bo (eC hr) (aU _) (cj.nm 1) av) (aq (bh qI.nd (cj.l 2) (bG eS (bG eR (aV (bV e) (b_ e) (hr.mono (by decide)) (aa (cj.nm 0) (aa (bG vg av av) ai)) (cj.d 0) (cj.g 0)) (bG vg av av)) (aV (bV e) (b_ e) (hr.mono (by decide)) (aa (cj.nm 0) (aa (bG vg av av) ai)) (cj.d 0) (cj.g 0))))
  (ax (aK (bG eR (cj.nm 2) (aX (iE (aa av (aa (fX av) (aa av ai)))) (aV (bV e) (b_ e) (hr.mono (by decide)) (aa (cj.nm 0) (aa av ai)) (cj.d 0) (cj.g 0))))))) bJ)
  (ax (aK (aX (iE (aa av (aa av (aa (fX av) (aa (bG oM (aV (bV e) (b_ e) (hr.mono (by decide)) (aa (cj.nm 0) (aa av ai)) (cj.d 0) (cj.g 0)) av) ai))))) (aV (bV e) (b_ e) (hr.mono (by decide)) (aa (cj.nm 0) (aa av ai)) (cj.d 0) (cj.g 0))))))) ye
theorem vJ:bL (KX w.params) mg "_law_rows" "_law_rows" fx ["_law_hand_here","_law_many","_law_wide","_law_kind"] 236 (Hd.fd fx "_law_rows" "_law_rows" cK 235):=Hd.OM e.X e.G (by kernel_rfl) fun _ _ _ _ _ _ _ _ _ _=>rfl
theorem B9:bD PW w (KX w.params) mg base cD 3 236 (Hd.fd fx "_law_rows" "_law_rows" cK 235) ["_law_hand_here","_law_many","_law_wide","_law_kind"] (cG p9):=by
 have B:=Bt e
 have Q:=Qt e
 exact bP (N:=m6) (vJ e).fn eQ (fun cdv A outer s H E hr=>(aq (bh eQ.nd (aR.l 4) (Gx ai))
  (aq (gS (eF (aR.g 0) B.e9 (aa (aR.nm 1) ai)) (cY eQ.nd (by first|exact Or.inl rfl|exact Or.inr rfl) (by first|exact .inl rfl|exact .inr rfl)) (aq (kZ eQ.nd (aR.l 6) (Nc:=["_law_j","_law_hand_here","_law_kind"]) (bj.look (ag fx) ["_law_hand_here","_law_many","_law_wide","_law_kind","_law_rows_here","_law_k","_law_row","_law_way"] (by decide+kernel)) (eF (aR.g 0) B.e9 (aa (aR.nm 2) ai)) (fun _ _ _ _=>(cY (show(["_law_j","_law_hand_here","_law_kind"]:List Str).Nodup by decide+kernel) (by first|exact Or.inl rfl|exact Or.inr rfl) (by first|exact .inl rfl|exact .inr rfl))) (fun _ _ _ _=>ck) (fun _ _ _ _=>(aV (q_ e) (zh e) (hr.mono (by decide)) (aa cF (aa cF ai)) (by decide+kernel) rfl)) bT)
  (aq (bh eQ.nd (aR.l 7) (aV (bV e) (b_ e) (hr.mono (by decide)) (aa (aR.nm 0) (aa av ai)) (aR.d 1) (aR.g 1)))
  (aq (bX (bo (eC hr) (aU _) (aR.nm 7) av) (ax (bh eQ.nd (aR.l 6) (bG eR (iE (aa av ai)) (aR.nm 2)))) bJ)
  (aq (bX (fK (qX (bo (eC hr) (aU _) (aR.nm 7) av) (pq (bo uq (aU _) (aR.nm 5) av)))) (ax (bh eQ.nd (aR.l 6) (eh nP (aa (aX (aR.nm 4) (bG oM (aR.nm 5) av)) ai) B.gN rfl fA (aR.d 2) (aR.g 2)))) bJ)
  (aq (bX (fK (qX (bo (eC hr) (aU _) (aR.nm 7) av) (pq (bo uq (aU _) (aR.nm 5) av)))) (ax (kZ eQ.nd (aR.l 6) (Nc:=["_law_one","_law_other_here"]) (bj.look (ag fx) ["_law_hand_here","_law_many","_law_wide","_law_kind","_law_rows_here","_law_k","_law_row","_law_way"] (by decide+kernel)) (sI (aR.g 3) B.sG (aa (aX (aR.nm 4) (bG oM (aR.nm 5) av)) (aa (aX (aR.nm 4) (bG oM (aR.nm 5) av)) ai))) (fun _ _ _ _=>(mT rfl (show(["_law_one","_law_other_here"]:List Str).Nodup by decide+kernel) (by first|exact Or.inl rfl|exact Or.inr rfl) (by first|exact .inl rfl|exact .inr rfl) (by first|exact Or.inl rfl|exact Or.inr rfl) (by first|exact .inl rfl|exact .inr rfl))) (fun _ _ _ _=>ck) (fun _ _ _ _=>(bG eS cF cF)) sW)) bJ)
  (aq (bX (fK (qX (bo (eC hr) (aU _) (aR.nm 3) av) (pq (bo uD (aU _) (aR.nm 7) av)))) (ax (kZ eQ.nd (aR.l 6) (Nc:=["_law_number_here"]) (bj.look (ag fx) ["_law_hand_here","_law_many","_law_wide","_law_kind","_law_rows_here","_law_k","_law_row","_law_way"] (by decide+kernel)) (dY (aR.nm 6)) (fun _ _ _ _=>(cY (show(["_law_number_here"]:List Str).Nodup by decide+kernel) (by first|exact Or.inl rfl|exact Or.inr rfl) (by first|exact .inl rfl|exact .inr rfl))) (fun _ _ _ _=>ck) (fun _ _ _ _=>(bG oE cF av)) bT)) bJ)
  (ax (h9 (xf (aR.nm 4) (eh dW (aa (aR.nm 6) ai) B.du rfl cW (aR.d 4) (aR.g 4))))))))))))
  (ax (aK (eh dW (aa (aR.nm 4) ai) B.du rfl cW (aR.d 4) (aR.g 4))))))) AG
theorem t7:bL (KX w.params) mg "_law_sizes" "_law_sizes" ie ["_law_hand_here"] 243 (Hd.fd ie "_law_sizes" "_law_sizes" cK 242):=Hd.mQ e.X e.G (by kernel_rfl) fun _ _ _ _ _ _ _=>rfl
theorem AQ:bD PW w (KX w.params) mg base cD 2 243 (Hd.fd ie "_law_sizes" "_law_sizes" cK 242) ["_law_hand_here"] (cG pk):=by
 have B:=Bt e
 have Q:=Qt e
 exact bP (N:=lG) (t7 e).fn zV (fun cdv A outer s H E hr=>(aq (bX (bo (eC hr) (aU _) (aV (bV e) (b_ e) (hr.mono (by decide)) (aa (cL.nm 0) (aa av ai)) (cL.d 0) (cL.g 0)) av) (ax (aK (gp (aa (bG eS av (aV (bV e) (b_ e) (hr.mono (by decide)) (aa (cL.nm 0) (aa av ai)) (cL.d 0) (cL.g 0))) (aa (bG eS av (aV (bV e) (b_ e) (hr.mono (by decide)) (aa (cL.nm 0) (aa av ai)) (cL.d 0) (cL.g 0))) ai))))) bJ)
  (ax (aK (gp (aa (bG eS av (aV (bV e) (b_ e) (hr.mono (by decide)) (aa (cL.nm 0) (aa av ai)) (cL.d 0) (cL.g 0))) (aa (bG eS av (aV (bV e) (b_ e) (hr.mono (by decide)) (aa (cL.nm 0) (aa av ai)) (cL.d 0) (cL.g 0))) ai))))))) zi
theorem oC:bL (KX w.params) mg "_law_some_rows" "_law_some_rows" e8 ["_law_hand_here","_law_kinds"] 250 (Hd.fd e8 "_law_some_rows" "_law_some_rows" cK 249):=Hd.mw e.X e.G (by kernel_rfl) fun _ _ _ _ _ _ _ _=>rfl
theorem uW:bD PW w (KX w.params) mg base cD 4 250 (Hd.fd e8 "_law_some_rows" "_law_some_rows" cK 249) ["_law_hand_here","_law_kinds"] (cG kB):=by
 have B:=Bt e
 have Q:=Qt e
 exact bP (N:=iK) (oC e).fn nX (fun cdv A outer s H E hr=>(aq (D5 (aV (t7 e) (AQ e) (hr.mono (by decide)) (aa (cE.nm 0) ai) (cE.d 0) (cE.g 0)) (mT rfl nX.nd (by first|exact Or.inl rfl|exact Or.inr rfl) (by first|exact .inl rfl|exact .inr rfl) (by first|exact Or.inl rfl|exact Or.inr rfl) (by first|exact .inl rfl|exact .inr rfl)))
  (ax (aK (aV (vJ e) (B9 e) (hr.mono (by decide)) (aa (cE.nm 0) (aa (cE.nm 2) (aa (cE.nm 3) (aa (aV (bV e) (b_ e) (hr.mono (by decide)) (aa (cE.nm 0) (aa (cE.nm 1) ai)) (cE.d 1) (cE.g 1)) ai)))) (cE.d 2) (cE.g 2)))))) ur
theorem yQ:bL (KX w.params) mg "_law_by" "_law_by" jZ ["_law_weights","_law_rows_here","_law_wide"] 255 (Hd.fd jZ "_law_by" "_law_by" cK 254):=Hd.xO e.X e.G (by kernel_rfl) fun _ _ _ _ _ _ _ _ _=>rfl
theorem FZ:bD PW w (KX w.params) mg base cD 1 255 (Hd.fd jZ "_law_by" "_law_by" cK 254) ["_law_weights","_law_rows_here","_law_wide"] (cG uL):=by
 have B:=Bt e
 have Q:=Qt e
 exact bP (N:=pP) (yQ e).fn ot (fun cdv A outer s H E hr=>(aq (bh ot.nd (fg.l 3) (bG eR (iE (aa av ai)) (fg.nm 2)))
  (aq (gS (sI (fg.g 0) B.sG (aa (fg.nm 0) (aa (fg.nm 1) ai))) (mT rfl ot.nd (by first|exact Or.inl rfl|exact Or.inr rfl) (by first|exact .inl rfl|exact .inr rfl) (by first|exact Or.inl rfl|exact Or.inr rfl) (by first|exact .inl rfl|exact .inr rfl)) (ax (kZ ot.nd (fg.l 3) (Nc:=["_law_left","_law_number_here","_law_weight"]) (bj.look (ag jZ) ["_law_weights","_law_rows_here","_law_wide","_law_row","_law_weight","_law_one"] (by decide+kernel)) (sI (fg.g 0) B.sG (aa (fg.nm 3) (aa (fg.nm 5) ai))) (fun _ _ _ _=>(mT rfl (show(["_law_left","_law_number_here","_law_weight"]:List Str).Nodup by decide+kernel) (by first|exact Or.inl rfl|exact Or.inr rfl) (by first|exact .inl rfl|exact .inr rfl) (by first|exact Or.inl rfl|exact Or.inr rfl) (by first|exact .inl rfl|exact .inr rfl))) (fun _ _ _ _=>ck) (fun _ _ _ _=>(bG eS cF (bG eR cF cF))) sW)))
  (ax (aK (eh dW (aa (fg.nm 3) ai) B.du rfl cW (fg.d 1) (fg.g 1))))))) El
theorem mF:bL (KX w.params) mg "_law_product" "_law_product" fj ["_law_one","_law_other_here","_law_wide"] 260 (Hd.fd fj "_law_product" "_law_product" cK 259):=Hd.xO e.X e.G (by kernel_rfl) fun _ _ _ _ _ _ _ _ _=>rfl
theorem qE:bD PW w (KX w.params) mg base cD 2 260 (Hd.fd fj "_law_product" "_law_product" cK 259) ["_law_one","_law_other_here","_law_wide"] (cG jM):=by
 have B:=Bt e
 have Q:=Qt e
 exact bP (N:=jL) (mF e).fn wG (fun cdv A outer s H E hr=>(ax (aK (eh dW (aa (dF (Nc:=["_law_row","_law_other_here","_law_wide"]) (bj.look (ag fj) ["_law_one","_law_other_here","_law_wide"] (by decide+kernel)) (dY (mI.nm 0)) (fun _ _ _ _=>(cY (show(["_law_row","_law_other_here","_law_wide"]:List Str).Nodup by decide+kernel) (by first|exact Or.inl rfl|exact Or.inr rfl) (by first|exact .inl rfl|exact .inr rfl))) (fun _ _ _ _=>ck) (fun _ _ _ _=>(aV (yQ e) (FZ e) (hr.mono (by decide)) (aa cF (aa cF (aa cF ai))) (by decide+kernel) rfl)) bT) ai) B.du rfl cW (mI.d 0) (mI.g 0))))) wH
theorem t8:bL (KX w.params) mg "_law_units" "_law_units" gg ["_law_n"] 265 (Hd.fd gg "_law_units" "_law_units" cK 264):=Hd.mQ e.X e.G (by kernel_rfl) fun _ _ _ _ _ _ _=>rfl
theorem AE:bD PW w (KX w.params) mg base cD 1 265 (Hd.fd gg "_law_units" "_law_units" cK 264) ["_law_n"] (cG o4):=by
 have B:=Bt e
 have Q:=Qt e
 exact bP (N:=lE) (t8 e).fn zt (fun cdv A outer s H E hr=>(ax (aK (eh dW (aa (dF (Nc:=["_law_k","_law_n"]) (bj.look (ag gg) ["_law_n"] (by decide+kernel)) (eF (lM.g 0) B.e9 (aa (lM.nm 0) ai)) (fun _ _ _ _=>(cY (show(["_law_k","_law_n"]:List Str).Nodup by decide+kernel) (by first|exact Or.inl rfl|exact Or.inr rfl) (by first|exact .inl rfl|exact .inr rfl))) (fun _ _ _ _=>ck) (fun _ _ _ _=>(eh dW (aa (dF (Nc:=["_law_j","_law_k"]) (bj.Gq (by decide+kernel)) (eF rfl B.e9 (aa cF ai)) (fun _ _ _ _=>(cY (show(["_law_j","_law_k"]:List Str).Nodup by decide+kernel) (by first|exact Or.inl rfl|exact Or.inr rfl) (by first|exact .inl rfl|exact .inr rfl))) (fun _ _ _ _=>ck) (fun _ _ _ _=>(eh Nl (aa (oN (eC hr) (aU _) cF cF) ai) B.CU rfl zC (by decide+kernel) rfl)) bT) ai) B.du rfl cW (by decide+kernel) rfl)) bT) ai) B.du rfl cW (lM.d 1) (lM.g 1))))) y_
theorem rD:bL (KX w.params) mg "_law_stands" "_law_stands" fC ["_law_rows_here"] 270 (Hd.fd fC "_law_stands" "_law_stands" cK 269):=Hd.mQ e.X e.G (by kernel_rfl) fun _ _ _ _ _ _ _=>rfl
theorem Av:bD PW w (KX w.params) mg base cD 1 270 (Hd.fd fC "_law_stands" "_law_stands" cK 269) ["_law_rows_here"] (cG nZ):=by
 have B:=Bt e
 have Q:=Qt e
 exact bP (N:=kJ) (rD e).fn fO (fun cdv A outer s H E hr=>(aq (bh fO.nd (aW.l 1) (fX av))
  (aq (gS (eF (aW.g 1) B.e9 (aa (cB cO (aa (aW.nm 0) ai) B.cN rfl cq (aW.d 0) (aW.g 0)) ai)) (cY fO.nd (by first|exact Or.inl rfl|exact Or.inr rfl) (by first|exact .inl rfl|exact .inr rfl)) (aq (kZ fO.nd (aW.l 3) (Nc:=["_law_j","_law_rows_here","_law_k"]) (bj.look (ag fC) ["_law_rows_here","_law_last","_law_k","_law_places","_law_j"] (by decide+kernel)) (eF (aW.g 1) B.e9 (aa (cB cO (aa (aX (aW.nm 0) (aW.nm 2)) ai) B.cN rfl cq (aW.d 0) (aW.g 0)) ai)) (fun _ _ _ _=>(cY (show(["_law_j","_law_rows_here","_law_k"]:List Str).Nodup by decide+kernel) (by first|exact Or.inl rfl|exact Or.inr rfl) (by first|exact .inl rfl|exact .inr rfl))) (fun _ _ _ _=>(DH (bo rq (aU _) (aX (aX cF cF) cF) av))) (fun _ _ _ _=>cF) bT)
  (aq (bX (fK (gn (bo (eC hr) (aU _) (aW.nm 3) (iE ai)) (gn (bo FR (aU _) (aX (aW.nm 3) av) (aW.nm 1)) (gG (bo uD (aU _) (aX (aX (aW.nm 0) (aW.nm 2)) (aX (aW.nm 3) av)) av))))) (ax (aK eD)) bJ)
  (aq (bh fO.nd (aW.l 1) (aX (aW.nm 3) av))
  (ax (gS (eF (aW.g 1) B.e9 (aa (aW.nm 2) ai)) (cY fO.nd (by first|exact Or.inl rfl|exact Or.inr rfl) (by first|exact .inl rfl|exact .inr rfl)) (ax (bX (fK (gn (bo uD (aU _) (aX (aX (aW.nm 0) (aW.nm 4)) (aW.nm 1)) av) (gG (bo Om (aU _) (aX (aX (aW.nm 0) (aW.nm 4)) (aW.nm 1)) (aX (aX (aW.nm 0) (aW.nm 2)) (aW.nm 1)))))) (ax (aK eD)) bJ))))))))
  (ax (aK eD))))) ya
theorem kD:bL (KX w.params) mg "_law_listed" "_law_listed" gw ["_law_thing"] 277 (Hd.fd gw "_law_listed" "_law_listed" cK 276):=Hd.mQ e.X e.G (by kernel_rfl) fun _ _ _ _ _ _ _=>rfl
theorem nG:bD PW w (KX w.params) mg base cD 1 277 (Hd.fd gw "_law_listed" "_law_listed" cK 276) ["_law_thing"] (cG gH):=by
 have B:=Bt e
 have Q:=Qt e
 exact bP (N:=kj) (kD e).fn x3 (fun cdv A outer s H E hr=>(ax (aK (Lv (cB oP (aa (dA.nm 0) (aa (qc B.du rfl cW (dA.d 0) (dA.g 0)) ai)) B.eX rfl eB (dA.d 1) (dA.g 1)) (oV (cB oP (aa (dA.nm 0) (aa (qc B.gN rfl fA (dA.d 2) (dA.g 2)) ai)) B.eX rfl eB (dA.d 1) (dA.g 1))))))) x5
theorem jl:bL (KX w.params) mg "_law_are_some" "_law_are_some" eJ ["_law_found","_law_many","_law_wide"] 282 (Hd.fd eJ "_law_are_some" "_law_are_some" cK 281):=Hd.xO e.X e.G (by kernel_rfl) fun _ _ _ _ _ _ _ _ _=>rfl
theorem lg:bD PW w (KX w.params) mg base cD 2 282 (Hd.fd eJ "_law_are_some" "_law_are_some" cK 281) ["_law_found","_law_many","_law_wide"] (cG gy):=by
 have B:=Bt e
 have Q:=Qt e
 exact bP (N:=gI) (jl e).fn og (fun cdv A outer s H E hr=>(aq (bX (fK (gn (eg (dP (aV (kD e) (nG e) (hr.mono (by decide)) (aa (bE.nm 0) ai) (bE.d 0) (bE.g 0)))) (gG (fK (qX (bo Ad (aU _) (bE.nm 1) pN) (pq (bo rq (aU _) (cB cO (aa (bE.nm 0) ai) B.cN rfl cq (bE.d 1) (bE.g 1)) (bE.nm 1)))))))) (ax (aK eD)) bJ)
  (aq (gS (dY (bE.nm 0)) (cY og.nd (by first|exact Or.inl rfl|exact Or.inr rfl) (by first|exact .inl rfl|exact .inr rfl)) (aq (bX (fK (gn (eg (dP (aV (kD e) (nG e) (hr.mono (by decide)) (aa (bE.nm 3) ai) (bE.d 0) (bE.g 0)))) (gG (bo rq (aU _) (cB cO (aa (bE.nm 3) ai) B.cN rfl cq (bE.d 1) (bE.g 1)) (bE.nm 2))))) (ax (aK eD)) bJ)
  (ax (bX (eg (dP (cB (yE rfl) (aa (dF (Nc:=["_law_one"]) (bj.look (ag eJ) ["_law_found","_law_many","_law_wide","_law_row"] (by decide+kernel)) (dY (bE.nm 3)) (fun _ _ _ _=>(cY (show(["_law_one"]:List Str).Nodup by decide+kernel) (by first|exact Or.inl rfl|exact Or.inr rfl) (by first|exact .inl rfl|exact .inr rfl))) (fun _ _ _ _=>ck) (fun _ _ _ _=>(tm (cB oP (aa cF (aa (qc B.CU rfl zC (by decide+kernel) rfl) ai)) B.eX rfl eB (by decide+kernel) rfl) (oV (G8 (cB oP (aa cF (aa (qc B.zk rfl wm (by decide+kernel) rfl) ai)) B.eX rfl eB (by decide+kernel) rfl))))) bT) ai) B.yt rfl vP (bE.d 2) (bE.g 2)))) (ax (aK eD)) bJ))))
  (ax (aK eD))))) vz
theorem rR:bL (KX w.params) mg "_law_due" "_law_due" fU ["_law_rows_here","_law_told"] 287 (Hd.fd fU "_law_due" "_law_due" cK 286):=Hd.mw e.X e.G (by kernel_rfl) fun _ _ _ _ _ _ _ _=>rfl
theorem wY:bD PW w (KX w.params) mg base cD 3 287 (Hd.fd fU "_law_due" "_law_due" cK 286) ["_law_rows_here","_law_told"] (cG oy):=by
 have B:=Bt e
 have Q:=Qt e
 exact bP (N:=oa) (rR e).fn mW (fun cdv A outer s H E hr=>(aq (LJ mW.nd (by decide) (show(ag fU).names.lookup ("_law_many":Str)=some .local by decide+kernel) (show(ag fU).names.lookup ("_law_wide":Str)=some .local by decide+kernel) (aa (cB cO (aa (aD.nm 0) ai) B.cN rfl cq (aD.d 0) (aD.g 0)) (aa (cB cO (aa (aX (aD.nm 0) av) ai) B.cN rfl cq (aD.d 0) (aD.g 0)) ai)))
  (aq (bX (fK (gn (eg (dP (aV (kD e) (nG e) (hr.mono (by decide)) (aa (aD.nm 1) ai) (aD.d 1) (aD.g 1)))) (gn (bo rq (aU _) (cB cO (aa (aD.nm 1) ai) B.cN rfl cq (aD.d 0) (aD.g 0)) av) (gG (eg (dP (aV (jl e) (lg e) (hr.mono (by decide)) (aa (aX (aD.nm 1) av) (aa pN (aa (aD.nm 3) ai))) (aD.d 2) (aD.g 2)))))))) (ax (aK eD)) bJ)
  (aq (Fw (aD.nm 1) rfl mW.nd (by first|exact Or.inl rfl|exact Or.inr rfl) (by first|exact .inl rfl|exact .inr rfl) (by first|exact Or.inl rfl|exact Or.inr rfl) (by first|exact .inl rfl|exact .inr rfl) (by first|exact Or.inl rfl|exact Or.inr rfl) (by first|exact .inl rfl|exact .inr rfl))
  (aq (bX (fK (gn (eg (dP (aV (rD e) (Av e) (hr.mono (by decide)) (aa (aD.nm 4) ai) (aD.d 3) (aD.g 3)))) (gG (bo uq (aU _) (cB cO (aa (aD.nm 4) ai) B.cN rfl cq (aD.d 0) (aD.g 0)) (aD.nm 2))))) (ax (aK eD)) bJ)
  (aq (bX (fK (gn (eg (dP (aV (jl e) (lg e) (hr.mono (by decide)) (aa (aD.nm 5) (aa (aD.nm 2) (aa (aD.nm 2) ai))) (aD.d 2) (aD.g 2)))) (gG (eg (dP (aV (jl e) (lg e) (hr.mono (by decide)) (aa (aD.nm 6) (aa (aD.nm 2) (aa (aD.nm 2) ai))) (aD.d 2) (aD.g 2))))))) (ax (aK eD)) bJ)
  (aq (bh mW.nd (aD.l 7) (bG eS (eh dW (aa (dF (Nc:=["_law_row"]) (bj.look (ag fU) ["_law_rows_here","_law_told","_law_many","_law_wide","_law_form","_law_turn","_law_back","_law_made"] (by decide+kernel)) (dY (aD.nm 4)) (fun _ _ _ _=>(cY (show(["_law_row"]:List Str).Nodup by decide+kernel) (by first|exact Or.inl rfl|exact Or.inr rfl) (by first|exact .inl rfl|exact .inr rfl))) (fun _ _ _ _=>ck) (fun _ _ _ _=>(eh dW (aa cF ai) B.du rfl cW (by decide+kernel) rfl)) bT) ai) B.du rfl cW (aD.d 4) (aD.g 4)) (bG eR (gp (aa (bG eR (gp (aa av ai)) (aD.nm 3)) ai)) (bG oM (aD.nm 2) (cB cO (aa (aD.nm 4) ai) B.cN rfl cq (aD.d 0) (aD.g 0))))))
  (ax (aK (tm (oN (eC hr) (aU _) (aV (mF e) (qE e) (hr.mono (by decide)) (aa (aD.nm 5) (aa (aD.nm 0) (aa (aD.nm 3) ai))) (aD.d 5) (aD.g 5)) (aD.nm 7)) (oV (oN (eC hr) (aU _) (aV (mF e) (qE e) (hr.mono (by decide)) (aa (aD.nm 5) (aa (aD.nm 6) (aa (aD.nm 2) ai))) (aD.d 5) (aD.g 5)) (aV (t8 e) (AE e) (hr.mono (by decide)) (aa (aD.nm 2) ai) (aD.d 6) (aD.g 6)))))))))))))) Cs
theorem mj:bL (KX w.params) mg "_law_odd" "_law_odd" kb ["_law_hand_here"] 294 (Hd.fd kb "_law_odd" "_law_odd" cK 293):=Hd.mQ e.X e.G (by kernel_rfl) fun _ _ _ _ _ _ _=>rfl
theorem oH:bD PW w (KX w.params) mg base cD 2 294 (Hd.fd kb "_law_odd" "_law_odd" cK 293) ["_law_hand_here"] (cG j7):=by
 have B:=Bt e
 have Q:=Qt e
 exact bP (N:=oq) (mj e).fn uY (fun cdv A outer s H E hr=>(aq (bh uY.nd (gX.l 1) (iE (aa eD (aa pN (aa GR (aa (gp (aa av (aa av ai))) (aa (iE ai) (aa (gp ai) (aa GR (aa (gp (aa (gp (aa av ai)) ai)) (aa (fX av) (aa (bG vg av av) ai))))))))))))
  (ax (aK (aX (gX.nm 1) (aV (bV e) (b_ e) (hr.mono (by decide)) (aa (gX.nm 0) (aa (cB cO (aa (gX.nm 1) ai) B.cN rfl cq (gX.d 0) (gX.g 0)) ai)) (gX.d 1) (gX.g 1))))))) CC
theorem ow:bL (KX w.params) mg "_law_bent_rows" "_law_bent_rows" d6 ["_law_hand_here","_law_rows_here"] 299 (Hd.fd d6 "_law_bent_rows" "_law_bent_rows" cK 298):=Hd.mw e.X e.G (by kernel_rfl) fun _ _ _ _ _ _ _ _=>rfl
theorem u4:bD PW w (KX w.params) mg base cD 3 299 (Hd.fd d6 "_law_bent_rows" "_law_bent_rows" cK 298) ["_law_hand_here","_law_rows_here"] (cG kv):=by
 have B:=Bt e
 have Q:=Qt e
 exact bP (N:=iG) (ow e).fn fE (fun cdv A outer s H E hr=>(aq (zf fE.nd (ao.l 1) (Nc:=["_law_row"]) (bj.look (ag d6) ["_law_hand_here","_law_rows_here","_law_way","_law_k","_law_j"] (by decide+kernel)) (dY (ao.nm 1)) (fun _ _ _ _=>(cY (show(["_law_row"]:List Str).Nodup by decide+kernel) (by first|exact Or.inl rfl|exact Or.inr rfl) (by first|exact .inl rfl|exact .inr rfl))) (fun _ _ _ _=>ck) (fun _ _ _ _=>(eh sj (aa cF ai) B.gN rfl fA (by decide+kernel) rfl)) bT)
  (aq (bh fE.nd (ao.l 2) (aV (bV e) (b_ e) (hr.mono (by decide)) (aa (ao.nm 0) (aa av ai)) (ao.d 0) (ao.g 0)))
  (aq (bX (bo (Mi hr) (aU _) (ao.nm 1) (iE ai)) (ax (aK (iE (aa (iE (aa av ai)) ai)))) bJ)
  (aq (bh fE.nd (ao.l 3) (aV (bV e) (b_ e) (hr.mono (by decide)) (aa (ao.nm 0) (aa (cB cO (aa (ao.nm 1) ai) B.cN rfl cq (ao.d 1) (ao.g 1)) ai)) (ao.d 0) (ao.g 0)))
  (aq (bh fE.nd (ao.l 4) (aV (bV e) (b_ e) (hr.mono (by decide)) (aa (ao.nm 0) (aa (cB (Ml rfl) (aa av (aa (cB cO (aa (aX (ao.nm 1) (ao.nm 3)) ai) B.cN rfl cq (ao.d 1) (ao.g 1)) ai)) B.L0 rfl LW (ao.d 2) (ao.g 2)) ai)) (ao.d 0) (ao.g 0)))
  (aq (bX (bo (eC hr) (aU _) (ao.nm 2) av) (ax (c9 (bG eS (aX (aX (ao.nm 1) (ao.nm 3)) (ao.nm 4)) (aX (iE (aa av (aa (fX av) (aa av (aa (fX av) ai))))) (aV (bV e) (b_ e) (hr.mono (by decide)) (aa (ao.nm 0) (aa av ai)) (ao.d 0) (ao.g 0)))) (aX (ao.nm 1) (ao.nm 3)) (ao.nm 4))) bJ)
  (aq (bX (bo (eC hr) (aU _) (ao.nm 2) av) (ax (h9 (Dm (ao.nm 1) (ao.nm 3)))) bJ)
  (aq (bX (bo (eC hr) (aU _) (ao.nm 2) av) (ax (h9 (Mp (ao.nm 1) (ao.nm 3) (bG eR (iE (aa av ai)) (cB cO (aa (aX (ao.nm 1) (ao.nm 3)) ai) B.cN rfl cq (ao.d 1) (ao.g 1)))))) bJ)
  (aq (bX (bo (eC hr) (aU _) (ao.nm 2) av) (ax (IM (ao.nm 1) (ao.nm 3) (ao.nm 1) (fX av) (gp (aa (aX (ao.nm 1) (fX av)) (aa (aX (ao.nm 1) (ao.nm 3)) ai))))) bJ)
  (aq (bX (bo (eC hr) (aU _) (ao.nm 2) av) (ax (c9 (aV (mj e) (oH e) (hr.mono (by decide)) (aa (ao.nm 0) ai) (ao.d 3) (ao.g 3)) (aX (ao.nm 1) (ao.nm 3)) (ao.nm 4))) bJ)
  (aq (bX (bo (eC hr) (aU _) (ao.nm 2) av) (ax (c9 (aV (mj e) (oH e) (hr.mono (by decide)) (aa (ao.nm 0) ai) (ao.d 3) (ao.g 3)) (ao.nm 1) (ao.nm 3))) bJ)
  (ax (aK (ao.nm 1))))))))))))))) uj
theorem u7:bL (KX w.params) mg "_law_bent" "_law_bent" jt ["_law_hand_here","_law_told"] 306 (Hd.fd jt "_law_bent" "_law_bent" cK 305):=Hd.mw e.X e.G (by kernel_rfl) fun _ _ _ _ _ _ _ _=>rfl
theorem CP:bD PW w (KX w.params) mg base cD 4 306 (Hd.fd jt "_law_bent" "_law_bent" cK 305) ["_law_hand_here","_law_told"] (cG qx):=by
 have B:=Bt e
 have Q:=Qt e
 exact bP (N:=ng) (u7 e).fn lJ (fun cdv A outer s H E hr=>(aq (bh lJ.nd (aP.l 2) (eh sj (aa (aP.nm 1) ai) B.gN rfl fA (aP.d 0) (aP.g 0)))
  (aq (bh lJ.nd (aP.l 3) (aV (bV e) (b_ e) (hr.mono (by decide)) (aa (aP.nm 0) (aa av ai)) (aP.d 1) (aP.g 1)))
  (aq (bh lJ.nd (aP.l 4) (aV (bV e) (b_ e) (hr.mono (by decide)) (aa (aP.nm 0) (aa av ai)) (aP.d 1) (aP.g 1)))
  (aq (bX (bo (eC hr) (aU _) (aP.nm 4) av) (ax (c9 (aV (mj e) (oH e) (hr.mono (by decide)) (aa (aP.nm 0) ai) (aP.d 2) (aP.g 2)) (aP.nm 2) (aP.nm 3))) (ax (bX (bo (eC hr) (aU _) (aP.nm 4) av) (ax (h9 (Dm (aP.nm 2) (aP.nm 3)))) (ax (bX (bo (eC hr) (aU _) (aP.nm 4) av) (ax (h9 (xf (aP.nm 2) (gp ai)))) (ax (bX (bo (eC hr) (aU _) (aP.nm 4) av) (ax (aK (aV (mj e) (oH e) (hr.mono (by decide)) (aa (aP.nm 0) ai) (aP.d 2) (aP.g 2)))) (ax (c9 (aV (ow e) (u4 e) (hr.mono (by decide)) (aa (aP.nm 0) (aa (aX (aP.nm 1) (aP.nm 3)) ai)) (aP.d 3) (aP.g 3)) (aP.nm 2) (aP.nm 3))))))))))
  (ax (aK (aX (iE (aa (aP.nm 2) (aa (eh dW (aa (aP.nm 2) ai) B.du rfl cW (aP.d 4) (aP.g 4)) ai))) (aV (bV e) (b_ e) (hr.mono (by decide)) (aa (aP.nm 0) (aa av ai)) (aP.d 1) (aP.g 1)))))))))) AS
theorem tI:bL (KX w.params) mg "_law_other" "_law_other" eN ["_law_hand_here","_law_told"] 311 (Hd.fd eN "_law_other" "_law_other" cK 310):=Hd.mw e.X e.G (by kernel_rfl) fun _ _ _ _ _ _ _ _=>rfl
theorem AY:bD PW w (KX w.params) mg base cD 2 311 (Hd.fd eN "_law_other" "_law_other" cK 310) ["_law_hand_here","_law_told"] (cG pj):=by
 have B:=Bt e
 have Q:=Qt e
 exact bP (N:=lI) (tI e).fn fD (fun cdv A outer s H E hr=>(aq (D5 (aO.nm 1) (MM rfl fD.nd (by first|exact Or.inl rfl|exact Or.inr rfl) (by first|exact .inl rfl|exact .inr rfl) (by first|exact Or.inl rfl|exact Or.inr rfl) (by first|exact .inl rfl|exact .inr rfl) (by first|exact Or.inl rfl|exact Or.inr rfl) (by first|exact .inl rfl|exact .inr rfl)))
  (aq (bX (bo (eC hr) (aU _) (cB cO (aa (aO.nm 2) ai) B.cN rfl cq (aO.d 0) (aO.g 0)) (cB cO (aa (aO.nm 3) ai) B.cN rfl cq (aO.d 0) (aO.g 0))) (ax (aK (aO.nm 1))) bJ)
  (aq (bh fD.nd (aO.l 5) (bG eS av (aV (bV e) (b_ e) (hr.mono (by decide)) (aa (aO.nm 0) (aa av ai)) (aO.d 1) (aO.g 1))))
  (aq (bh fD.nd (aO.l 6) (aV (bV e) (b_ e) (hr.mono (by decide)) (aa (aO.nm 0) (aa (bG oM (cB cO (aa (aO.nm 3) ai) B.cN rfl cq (aO.d 0) (aO.g 0)) av) ai)) (aO.d 1) (aO.g 1)))
  (aq (zf fD.nd (aO.l 7) (Nc:=["_law_row"]) (bj.look (ag eN) ["_law_hand_here","_law_told","_law_form","_law_turn","_law_back","_law_often","_law_k","_law_turned","_law_behind","_law_row"] (by decide+kernel)) (dY (aO.nm 3)) (fun _ _ _ _=>(cY (show(["_law_row"]:List Str).Nodup by decide+kernel) (by first|exact Or.inl rfl|exact Or.inr rfl) (by first|exact .inl rfl|exact .inr rfl))) (fun _ _ _ _=>ck) (fun _ _ _ _=>(eh nP (aa cF ai) B.gN rfl fA (by decide+kernel) rfl)) bT)
  (aq (Ec (dF (Nc:=["_law_one","_law_two","_law_often"]) (bj.look (ag eN) ["_law_hand_here","_law_told","_law_form","_law_turn","_law_back","_law_often","_law_k","_law_turned","_law_behind","_law_row"] (by decide+kernel)) (sI (aO.g 2) B.sG (aa (aX (aO.nm 3) (aO.nm 6)) (aa (aX (aO.nm 3) (fX av)) ai))) (fun _ _ _ _=>(mT rfl (show(["_law_one","_law_two","_law_often"]:List Str).Nodup by decide+kernel) (by first|exact Or.inl rfl|exact Or.inr rfl) (by first|exact .inl rfl|exact .inr rfl) (by first|exact Or.inl rfl|exact Or.inr rfl) (by first|exact .inl rfl|exact .inr rfl))) (fun _ _ _ _=>ck) (fun _ _ _ _=>(bG eS cF (bG eR cF cF))) sW) (aO.nm 7) (aO.nm 6))
  (aq (kZ fD.nd (aO.l 8) (Nc:=["_law_row"]) (bj.look (ag eN) ["_law_hand_here","_law_told","_law_form","_law_turn","_law_back","_law_often","_law_k","_law_turned","_law_behind","_law_row"] (by decide+kernel)) (dY (aO.nm 4)) (fun _ _ _ _=>(cY (show(["_law_row"]:List Str).Nodup by decide+kernel) (by first|exact Or.inl rfl|exact Or.inr rfl) (by first|exact .inl rfl|exact .inr rfl))) (fun _ _ _ _=>ck) (fun _ _ _ _=>(eh sj (aa cF ai) B.gN rfl fA (by decide+kernel) rfl)) bT)
  (aq (gS (dY (aO.nm 8)) (cY fD.nd (by first|exact Or.inl rfl|exact Or.inr rfl) (by first|exact .inl rfl|exact .inr rfl)) (ax (c9 (bG oM (aX (aO.nm 9) (fX av)) (bG eR (aO.nm 5) (aX (aO.nm 9) (aO.nm 6)))) (aO.nm 9) (fX av))))
  (ax (aK (gp (aa (aO.nm 2) (aa (aO.nm 7) (aa (aO.nm 8) ai))))))))))))))) yK
theorem o6:bL (KX w.params) mg "_law_lists" "_law_lists" f_ ["_law_told"] 316 (Hd.fd f_ "_law_lists" "_law_lists" cK 315):=Hd.mQ e.X e.G (by kernel_rfl) fun _ _ _ _ _ _ _=>rfl
theorem t_:bD PW w (KX w.params) mg base cD 1 316 (Hd.fd f_ "_law_lists" "_law_lists" cK 315) ["_law_told"] (cG lS):=by
 have B:=Bt e
 have Q:=Qt e
 exact bP (N:=lL) (o6 e).fn Ah (fun cdv A outer s H E hr=>(ax (aK (dF (Nc:=["_law_piece"]) (bj.look (ag f_) ["_law_told"] (by decide+kernel)) (dY (AI.nm 0)) (fun _ _ _ _=>(cY (show(["_law_piece"]:List Str).Nodup by decide+kernel) (by first|exact Or.inl rfl|exact Or.inr rfl) (by first|exact .inl rfl|exact .inr rfl))) (fun _ _ _ _=>ck) (fun _ _ _ _=>(dF (Nc:=["_law_row"]) (bj.Gq (by decide+kernel)) (dY cF) (fun _ _ _ _=>(cY (show(["_law_row"]:List Str).Nodup by decide+kernel) (by first|exact Or.inl rfl|exact Or.inr rfl) (by first|exact .inl rfl|exact .inr rfl))) (fun _ _ _ _=>ck) (fun _ _ _ _=>(eh nP (aa cF ai) B.gN rfl fA (by decide+kernel) rfl)) bT)) bT)))) yS
theorem MO:bL (KX w.params) mg "law" "law" m_ ["_law_script"] 321 (Hd.fd m_ "law" "law" cK 320):=Hd.mQ e.X e.G (by kernel_rfl) fun _ _ _ _ _ _ _=>rfl
theorem M7:bD PW w (KX w.params) mg base cD 8 321 (Hd.fd m_ "law" "law" cK 320) ["_law_script"] (cG Hg):=by
 have B:=Bt e
 have Q:=Qt e
 exact bP (N:=yz) (MO e).fn iZ (fun cdv A outer s H E hr=>(aq (bh iZ.nd (a9.l 1) (aV (vR e) (CQ e) (hr.mono (by decide)) (aa (a9.nm 0) ai) (a9.d 0) (a9.g 0)))
  (aq (bh iZ.nd (a9.l 2) (aV (oC e) (uW e) (hr.mono (by decide)) (aa (a9.nm 1) (aa av ai)) (a9.d 1) (a9.g 1)))
  (aq (bh iZ.nd (a9.l 3) (aV (vO e) (C_ e) (hr.mono (by decide)) (aa (a9.nm 2) ai) (a9.d 2) (a9.g 2)))
  (aq (bh iZ.nd (a9.l 4) (aV (o6 e) (t_ e) (hr.mono (by decide)) (aa (a9.nm 3) ai) (a9.d 3) (a9.g 3)))
  (aq (bh iZ.nd (a9.l 5) (a9.nm 3))
  (aq (bX (bo uq (aU _) (cB cO (aa (a9.nm 2) ai) B.cN rfl cq (a9.d 4) (a9.g 4)) av) (ax (bh iZ.nd (a9.l 5) (aV (tI e) (AY e) (hr.mono (by decide)) (aa (a9.nm 1) (aa (a9.nm 3) ai)) (a9.d 5) (a9.g 5)))) bJ)
  (aq (gS (dY (gp (aa (a9.nm 3) (aa (a9.nm 4) (aa (a9.nm 5) ai))))) (cY iZ.nd (by first|exact Or.inl rfl|exact Or.inr rfl) (by first|exact .inl rfl|exact .inr rfl)) (ax (bX (fK (gn (bo Ad (aU _) (aV (g_ e) (jT e) (hr.mono (by decide)) (aa (a9.nm 2) (aa (a9.nm 6) ai)) (a9.d 6) (a9.g 6)) eD) (gG (eg (dP (aV (rR e) (wY e) (hr.mono (by decide)) (aa (a9.nm 2) (aa (a9.nm 6) ai)) (a9.d 7) (a9.g 7))))))) (ax (aK eD)) bJ)))
  (aq (bX (bo (Mz hr) (aU _) (a9.nm 4) (aV (o6 e) (t_ e) (hr.mono (by decide)) (aa (a9.nm 3) ai) (a9.d 3) (a9.g 3))) (ax (aK eD)) bJ)
  (aq (gS (eF (a9.g 8) B.e9 (aa av ai)) (cY iZ.nd (by first|exact Or.inl rfl|exact Or.inr rfl) (by first|exact .inl rfl|exact .inr rfl)) (aq (bh iZ.nd (a9.l 8) (aV (u7 e) (CP e) (hr.mono (by decide)) (aa (a9.nm 1) (aa (a9.nm 3) ai)) (a9.d 9) (a9.g 9)))
  (aq (bh iZ.nd (a9.l 9) (aV (g_ e) (jT e) (hr.mono (by decide)) (aa (a9.nm 2) (aa (a9.nm 8) ai)) (a9.d 6) (a9.g 6)))
  (ax (bX (fK (gn (eg (dP (cB oP (aa (a9.nm 9) (aa (qc B.zk rfl wm (a9.d 10) (a9.g 10)) ai)) B.eX rfl eB (a9.d 11) (a9.g 11)))) (gG (bo rq (aU _) (a9.nm 9) (aV (rR e) (wY e) (hr.mono (by decide)) (aa (a9.nm 2) (aa (a9.nm 8) ai)) (a9.d 7) (a9.g 7)))))) (ax (aK eD)) bJ)))))
  (ax (aK (oN JX (aU _) (aV (g_ e) (jT e) (hr.mono (by decide)) (aa (dF (Nc:=["_law_row"]) (bj.look (ag m_) ["_law_script","_law_hand_here","_law_rows_here","_law_told","_law_listed_here","_law_other_here","_law_some","_law_turn","_law_bent_here","_law_found"] (by decide+kernel)) (dY (a9.nm 2)) (fun _ _ _ _=>(cY (show(["_law_row"]:List Str).Nodup by decide+kernel) (by first|exact Or.inl rfl|exact Or.inr rfl) (by first|exact .inl rfl|exact .inr rfl))) (fun _ _ _ _=>ck) (fun _ _ _ _=>(eh nP (aa cF ai) B.gN rfl fA (by decide+kernel) rfl)) bT) (aa (a9.nm 3) ai)) (a9.d 6) (a9.g 6)) eD))))))))))))) Kg
end
noncomputable def dL:DefRec:=match m_ with
 | .FunctionDef n a b _ _ _ sc _ _ pos=>⟨n,a,b,sc,pos⟩
 |_=>⟨"",L2.ka (.Pass ⟨0,0,0,0⟩),[],L2.ag (.Pass ⟨0,0,0,0⟩),⟨0,0,0,0⟩⟩
theorem FO:PySem.Challenge.rw_latticeworks_k14_standing_shown.wellSaid=true:=by decide+kernel
end Row
open PySem PySem.W PyProof.Rows
set_option maxRecDepth 100000 in
set_option maxHeartbeats 0 in
theorem PySem.Challenge.cw_latticeworks_k14_standing_shown_holds : PySem.Challenge.rw_latticeworks_k14_standing_shown.Holds := by
 refine PySem.W.holds_law Row.FO fun FO=>?_
 refine PySem.W.holds_open (r:=PySem.Challenge.rw_latticeworks_k14_standing_shown.row) (q:=PySem.W.view Row.PW [1,2,3,4,6,7,8,9,10,11,12,13,14,15,16,17,19,20,21,22,23,24,25,26,28,29,30,31,32,33,34,35,36,37,38,39,40,41,42,43,44,45,46]) (loose:=[]) (Xt:=fun _=>true) (XP:=fun _ _=>True) (YP:=(PySem.W.kmHook Row.KX Row.KA (fun _=>rfl) [174]).says) (d:=Row.dL) (kwd:=[]) Row.left ((PySem.W.kmHook Row.KX Row.KA (fun _=>rfl) [174]).of) ((PySem.W.kmHook Row.KX Row.KA (fun _=>rfl) [174]).keeps) (fun _ _=>trivial) (fun _ _ _ _ _=>trivial) (by kernel_rfl) (by kernel_rfl) (by kernel_rfl) (fun s _=>PySem.W.recFacts_of (R:=[]) rfl) (by kernel_rfl) FO (by decide+kernel) ⟨rfl,rfl,rfl,rfl,rfl,by decide+kernel⟩ ?hw ?hc
 case hw=>w_witness2
 refine L2.MR (n:=63) (k:=8) (x:="_law_script") (ts:=[(176,174)]) (K:=Row.KX) (sp:=fun w=>L3.D3 (Row.KX w.params) [(176,174)]) rfl (by decide) (by kernel_rfl) ⟨rfl,by decide,by decide⟩ (by kernel_rfl) rfl (fun w h Y=>⟨PySem.W.km_in_of Y,⟨(fun q hq=>by rcases List.mem_cons.mp hq with rfl|hq;kernel_rfl;cases hq),(fun q hq=>by rcases List.mem_cons.mp hq with rfl|hq;kernel_rfl;cases hq),fun q hq=>PySem.W.km_tabs_of Y _ (List.mem_map_of_mem (f:=Prod.snd) hq)⟩⟩) ?F fun _ _ a ns hl hE=>⟨a,ns,rfl,hE,hl,fun _=>rfl⟩
 intro w mg fa h X G hmg
 have e2:=hmg.symm.trans (PySem.W.mg_of (v:= .ref 321) X G (by kernel_rfl))
 cases e2
 exact⟨Hd.fd Row.m_ "law" "law" Row.cK 320,fun s v=> .of_eq rfl,fun base _ _=>(Row.M7 ⟨X,G⟩).imp fun vs H Q E h=>L3.Er (tl:=[(174,⟨97,32,97,66⟩,"Bench.live_rows.<locals>.<lambda>")]) (by kernel_rfl) rfl (by decide) h⟩
