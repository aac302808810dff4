import PyProof.Rows.All
import Wide.All
import OpenK.AllK
import Wide.FinOn
import Lean
import PyProof.EqAt
import PyProof.EqKinds
import PyProof.TupleCall
import PyProof.NeKinds
import PySem.Challenge.RW_latticeworks_k28_how_often_it_comes_roun
set_option Elab.async false
set_option linter.all false
set_option maxRecDepth 100000
namespace L2
open PySem PySem.Spec PyProof.Rows
noncomputable abbrev Key:=Sum Int Str
noncomputable def CV:Key→Value→Bool
 | .inl k,v=>Value.isInt k v
 | .inr x,v=>Value.isStrOf x v
noncomputable def J_(w:World):Key→Int
 | .inl k=>hashInt k
 | .inr x=>hashStr w x
theorem eK:∀ {k:Key} {v:Value},CV k v=true→(∃i t,k=Sum.inl i∧v=Value.int i t)∨(∃x t,k=Sum.inr x∧v=Value.str x t)
 | .inl i,v,h=>by
   obtain⟨t,e⟩:=Value.isInt_shape (k:=i) (v:=v) h
   exact .inl ⟨i,t,rfl,e⟩
 | .inr x,v,h=>by
   obtain⟨t,e⟩:=Value.isStrOf_shape (x:=x) (v:=v) h
   exact .inr ⟨x,t,rfl,e⟩
theorem FU(a b:Int):decide ((Sum.inl a:Key)=Sum.inl b)=(a==b):=by
 by_cases e:a=b
 · subst e;simp
 · have h:¬(Sum.inl a:Key)=Sum.inl b:=fun q=>e (Sum.inl.inj q)
   rw[decide_eq_false h]
   exact(beq_eq_false_iff_ne.mpr e).symm
theorem Gb(a b:Str):decide ((Sum.inr a:Key)=Sum.inr b)=decide (a=b):=by
 by_cases e:a=b
 · subst e;simp
 · have h:¬(Sum.inr a:Key)=Sum.inr b:=fun q=>e (Sum.inr.inj q)
   rw[decide_eq_false h,decide_eq_false e]
theorem GR(a:Int)(b:Str):decide ((Sum.inl a:Key)=Sum.inr b)=false:=decide_eq_false (fun q=>nomatch q)
theorem E_(a:Str)(b:Int):decide ((Sum.inr a:Key)=Sum.inl b)=false:=decide_eq_false (fun q=>nomatch q)
noncomputable def xq(prog:Program)(w:World):PySem.KeyKind prog w Key where
 is:=CV
 hash:=J_ w
 inj:=fun v a b ha hb=>by
  rcases eK ha with⟨i,t,rfl,rfl⟩|⟨x,t,rfl,rfl⟩
  · rcases eK hb with⟨j,u,rfl,e⟩|⟨y,u,rfl,e⟩
    · injection e with e1 _;rw[e1]
    · exact nomatch e
  · rcases eK hb with⟨j,u,rfl,e⟩|⟨y,u,rfl,e⟩
    · exact nomatch e
    · injection e with e1 _;rw[e1]
 byValue:=fun k v h=>by
  rcases eK h with⟨i,t,rfl,rfl⟩|⟨x,t,rfl,rfl⟩<;>rfl
 pyHash:=fun hv h=>by
  rcases eK hv with⟨i,t,rfl,rfl⟩|⟨x,t,rfl,rfl⟩
  · exact wpAny_pyHash_int h
  · exact wpAny_pyHash_str h
 eqBool:=fun hu hv h=>by
  rcases eK hu with⟨i,t,rfl,rfl⟩|⟨x,t,rfl,rfl⟩
  · rcases eK hv with⟨j,u,rfl,rfl⟩|⟨y,u,rfl,rfl⟩
    · rw[FU]at h;exact wpAny_eqBool_int h
    · rw[GR]at h;exact SeqAt.EqAt.int_str i t y u _ _ _ _ h
  · rcases eK hv with⟨j,u,rfl,rfl⟩|⟨y,u,rfl,rfl⟩
    · rw[E_]at h;exact SeqAt.EqAt.str_int x t j u _ _ _ _ h
    · rw[Gb]at h;exact wpAny_eqBool_str h
 «strs» :=fun k x t v h=>by
  rcases eK h with⟨i,u,rfl,e⟩|⟨y,u,rfl,e⟩
  · exact nomatch e
  · injection e with e1 _
    subst e1
    cases v<;>rfl
end L2
namespace L2
open PySem PySem.Spec PyProof.Rows
inductive V where
 |aC|bl (b:Bool)|int (i:Int)|str (x:Str)|p9 (b:Array UInt8)|p7 (b:UInt64)|ref (a:Addr)|ty (n:String)
 deriving DecidableEq
noncomputable def RelV:V→Value→Prop
 | .aC,u=>u=Value.none
 | .bl b,u=>u=Value.bool b
 | .int i,u=>∃t,u=Value.int i t
 | .str x,u=>∃t,u=Value.str x t
 | .p9 b,u=>∃t,u=Value.bytes b t
 | .p7 b,u=>∃t,u=Value.float b t
 | .ref a,u=>u=Value.ref a
 | .ty n,u=>u=Value.type n
noncomputable abbrev Vals:List V→List Value→Prop:=Paired RelV
theorem Vals.length{xs:List V}{us:List Value}(r:Vals xs us):xs.length=us.length:=Paired.length r
theorem Vals.get:∀ {xs:List V} {us:List Value} {i:Nat} {x:V},Vals xs us→xs[i]?=some x→∃u,us[i]?=some u∧RelV x u
 |_,_,_,_,.nil,e=>by simp at e
 |_,_,0,_,.cons r _,e=>by simp at e;subst e;exact⟨_,rfl,r⟩
 |_,_,i+1,x,.cons _ t,e=>by
  obtain⟨u,h1,h2⟩:=Vals.get (i:=i) (x:=x) t (by simpa using e)
  exact⟨u,by simpa using h1,h2⟩
theorem Vals.set{x:V}{u:Value}(r:RelV x u):∀ {xs:List V} {us:List Value} (i:Nat),Vals xs us→Vals (xs.set i x) (us.set i u)
 |_,_,_,.nil=> .nil
 |_,_,0,.cons _ t=> .cons r t
 |_,_,i+1,.cons q t=> .cons q (Vals.set r i t)
theorem Vals.append:∀ {xs ys:List V} {us ws:List Value},Vals xs us→Vals ys ws→Vals (xs++ys) (us++ws)
 |_,_,_,_,.nil,s=>s
 |_,_,_,_,.cons r t,s=> .cons r (Vals.append t s)
theorem Vals.take:∀ {xs:List V} {us:List Value} (n:Nat),Vals xs us→Vals (xs.take n) (us.take n)
 |_,_,0,_=> .nil
 |_,_,_+1,.nil=> .nil
 |_,_,n+1,.cons r t=> .cons r (Vals.take n t)
theorem Vals.drop:∀ {xs:List V} {us:List Value} (n:Nat),Vals xs us→Vals (xs.drop n) (us.drop n)
 |_,_,0,r=>r
 |_,_,_+1,.nil=> .nil
 |_,_,n+1,.cons _ t=>Vals.drop n t
noncomputable def mx:Option V→Option Value→Prop
 |some v,some u=>RelV v u
 |none,none=>True
 |_,_=>False
noncomputable def KV{κ:Type}:List (κ×V)→List (κ×Value)→Prop:=Paired fun(p:κ×V) (q:κ×Value)=>p.1=q.1∧RelV p.2 q.2
noncomputable def kV:Key→V
 | .inl i=> .int i
 | .inr x=> .str x
inductive HO where
 |lst (xs:List V)
 |tup (xs:List V)
 |dK (kvs:List (Key×V))|dT (kvs:List (List Key×V))
 |set (S:Int→Bool) (n:Nat)
 |ins (C dx:Addr) (fs:List (Str×V))
 |own (x:Addr)
 |xd (fs:List (Str×V))
 |met (f x:Addr)
 |HD (lo hi:Int)
 |gj (o:Obj) (u:HO)
 |jd (ps:Array Value)
 |ext (φ:Heap→Prop)
noncomputable abbrev Hp:=Addr→Option HO
noncomputable def upd(H:Hp)(a:Addr)(o:HO):Hp:=fun b=>if b=a then some o else H b
theorem aV{H:Hp}{a:Addr}{o:HO}:upd H a o a=some o:=by unfold upd;rw[if_pos rfl]
theorem aL{H:Hp}{a b:Addr}{o:HO}(h:b≠a):upd H a o b=H b:=by unfold upd;rw[if_neg h]
theorem Dz{H:Hp}{a:Addr}{o u:HO}:upd (upd H a o) a u=upd H a u:=by
 funext b;unfold upd;split<;>rfl
theorem dv{H:Hp}{a b:Addr}{o:HO}(h:H a=some o)(h':H b=none):a≠b:=by
 intro e;subst e;rw[h]at h';cases h'
section
variable (P:Program)(w:World)
noncomputable def dm(H:Hp)(h:Heap)(a:Addr):HO→Prop
 | .lst xs=>xs.length≤sizeLine∧∃(its:List Value) (n:Nat),Vals xs its∧h.get? a=some {cls:= .type "list",data:= .seq its.toArray n}
 | .tup xs=>xs.length≤sizeLine∧∃its:List Value,Vals xs its∧IsTup h a its.toArray
 | .dK kvs=>kvs.length≤sizeLine∧(a==sysModules)=false∧∃vs,KV kvs vs∧h.DictOf (xq P w) a vs
 | .dT kvs=>kvs.length≤sizeLine∧(a==sysModules)=false∧∃xs:List (List Key×Addr×Value),
    Paired (fun(p:List Key×V) (q:List Key×Addr×Value)=>p.1=q.1∧H q.2.1=some (.tup (p.1.map kV))∧RelV p.2 q.2.2) kvs xs∧
    ∃o es ep,h.get? a=some o∧o.ExactDict∧o.data= .dict es ep∧es.toList=xs.map (entryOfKey (tupleKind (xq P w)))∧(xs.map (·.1)).Nodup
 | .set S n=>h.SetOf (intKind P w) a S n
 | .ins C dx fs=>H dx=some (.own a)∧fs.length≤1000∧dx≠a∧h.get? a=some (PySem.W.instObj C dx)∧
    ∃mA,h.Ns1 dx mA∧(∀f,mx (fs.lookup f) (mA f))∧PySem.Within mA (fs.map (·.1))
 | .own _=>∃o,h.get? a=some o
 | .xd fs=>∃mA,h.Ns1 a mA∧∀f,mx (fs.lookup f) (mA f)
 | .HD lo hi=>∃t u v,h.get? a=some {cls:= .type "range",data:= .fields #[.int lo t,.int hi u,.int 1 v]}
 | .gj o u=>h.get? a=some o∧dm H h a u
 | .jd ps=>h.get? a=some {cls:= .none,data:= .fields ps}
 | .met f x=>h.get? a=some (PySem.W.methodObj (.ref f) (.ref x))
 | .ext φ=>φ h∧(∃o,h.get? a=some o)∧∀h1 h2:Heap,φ h1→(∀o,h1.get? a=some o→h2.get? a=some o)→φ h2
noncomputable def g5(H:Hp)(h:Heap):Prop:=∀a o,H a=some o→dm P w H h a o
end
section
variable {P:Program}{w:World}{H H':Hp}{h h':Heap}{a:Addr}{o:HO}
theorem dm.lt(x:dm P w H h a o):a<h.objs.size:=by
 cases o with
 |lst xs=>obtain⟨_,_,_,_,e⟩:=x;exact Heap.lt_size e
 |tup xs=>obtain⟨_,_,_,p⟩:=x;exact p.lt
 |dK kvs=>obtain⟨_,_,_,_,o,_,_,e,_⟩:=x;exact Heap.lt_size e
 |dT kvs=>obtain⟨_,_,_,_,o,_,_,e,_⟩:=x;exact Heap.lt_size e
 |set S n=>obtain⟨o,_,_,_,e,_⟩:=x;exact Heap.lt_size e
 |ins C dx fs=>obtain⟨_,_,_,e,_⟩:=x;exact Heap.lt_size e
 |own y=>obtain⟨_,e⟩:=x;exact Heap.lt_size e
 |xd fs=>obtain⟨_,⟨_,_,_,e,_⟩,_⟩:=x;exact Heap.lt_size e
 |HD lo hi=>obtain⟨_,_,_,e⟩:=x;exact Heap.lt_size e
 |gj ob u=>obtain⟨e,_⟩:=x;exact Heap.lt_size e
 |jd ps=>exact Heap.lt_size (show h.get? a=some _ from x)
 |met f y=>exact Heap.lt_size (show h.get? a=some _ from x)
 |ext φ=>obtain⟨_,⟨_,e⟩,_⟩:=x;exact Heap.lt_size e
theorem Paired.BI{α β:Type}{F G:α→β→Prop}:∀ {l₁:List α} {l₂:List β},Paired F l₁ l₂→(∀a b,F a b→G a b)→Paired G l₁ l₂
 |_,_,.nil,_=> .nil
 |_,_,.cons r t,f=> .cons (f _ _ r) (Paired.BI t f)
theorem dm.mD(x:dm P w H h a o)(k:∀b u,(b=a∨H b=some (.own a))→h.get? b=some u→h'.get? b=some u)
 (ho:∀b,H b=some (.own a)→H' b=some (.own a)) (ht:∀b xs,H b=some (.tup xs)→H' b=some (.tup xs)):dm P w H' h' a o:=by
 induction o with
 |lst xs=>obtain⟨z,its,n,r,e⟩:=x;exact⟨z,its,n,r,k _ _ (.inl rfl) e⟩
 |tup xs=>obtain⟨z,its,r,ob,e,c⟩:=x;exact⟨z,its,r,ob,k _ _ (.inl rfl) e,c⟩
 |dK kvs=>obtain⟨z,y,vs,r,ob,es,ep,e,c⟩:=x;exact⟨z,y,vs,r,ob,es,ep,k _ _ (.inl rfl) e,c⟩
 |dT kvs=>
  obtain⟨z,y,xs,r,ob,es,ep,e,c⟩:=x
  exact⟨z,y,xs,Paired.BI r fun p q z=>⟨z.1,ht _ _ z.2.1,z.2.2⟩,ob,es,ep,k _ _ (.inl rfl) e,c⟩
 |set S n=>obtain⟨ob,es,ep,t,e,c⟩:=x;exact⟨ob,es,ep,t,k _ _ (.inl rfl) e,c⟩
 |ins C dx fs=>
  obtain⟨d,z,ne,e,mA,⟨od,es,ep,e2,c⟩,r⟩:=x
  exact⟨ho _ d,z,ne,k _ _ (.inl rfl) e,mA,⟨od,es,ep,k _ _ (.inr d) e2,c⟩,r⟩
 |own y=>obtain⟨ob,e⟩:=x;exact⟨ob,k _ _ (.inl rfl) e⟩
 |xd fs=>obtain⟨mA,⟨od,es,ep,e,c⟩,r⟩:=x;exact⟨mA,⟨od,es,ep,k _ _ (.inl rfl) e,c⟩,r⟩
 |HD lo hi=>obtain⟨t,u,v,e⟩:=x;exact⟨t,u,v,k _ _ (.inl rfl) e⟩
 |gj ob u ih=>obtain⟨e,q⟩:=x;exact⟨k _ _ (.inl rfl) e,ih q⟩
 |jd ps=>
  have e:h.get? a=some {cls:= .none,data:= .fields ps}:=x
  show h'.get? a=some {cls:= .none,data:= .fields ps}
  exact k a _ (.inl rfl) e
 |met f y=>
  have e:h.get? a=some (PySem.W.methodObj (.ref f) (.ref y)):=x
  show h'.get? a=some (PySem.W.methodObj (.ref f) (.ref y))
  exact k a _ (.inl rfl) e
 |ext φ=>obtain⟨p,⟨o,e⟩,st⟩:=x;exact⟨st _ _ p fun o q=>k _ _ (.inl rfl) q,⟨o,k _ _ (.inl rfl) e⟩,st⟩
theorem g5.lt(x:g5 P w H h)(e:H a=some o):a<h.objs.size:=(x a o e).lt
theorem g5.fresh(x:g5 P w H h)(e:h.objs.size≤a):H a=none:=by
 cases q:H a with
 |none=>rfl
 |some u=>exact absurd (Nat.lt_of_lt_of_le (x.lt q) e) (Nat.lt_irrefl _)
theorem g5.kept(x:g5 P w H h)(k:∀b u,h.get? b=some u→h'.get? b=some u):g5 P w H h':=fun a o e=>
 (x a o e).mD (fun b u _ q=>k b u q) (fun _ q=>q) fun _ _ q=>q
theorem g5.laid(x:g5 P w H h)(k:∀b u,h.get? b=some u→h'.get? b=some u)(hp:h.objs.size≤a)(new:dm P w (upd H a o) h' a o):g5 P w (upd H a o) h':=fun b u e=>by
 have hn:=x.fresh hp
 by_cases hb:b=a
 · subst hb;rw[aV]at e;cases e;exact new
 · rw[aL hb]at e
   exact(x b u e).mD (fun c v _ q=>k c v q) (fun c q=>by rw[aL (dv q hn)];exact q) fun c xs q=>by rw[aL (dv q hn)];exact q
end
noncomputable def Rd(H:Hp)(a:Addr)(u:HO):Prop:=H a=some u∨∃o,H a=some (.gj o u)
theorem Rd.of{H:Hp}{a:Addr}{u:HO}(h:H a=some u):Rd H a u:= .inl h
theorem Rd.ok{P:Program}{w:World}{H:Hp}{h:Heap}{a:Addr}{u:HO}(r:Rd H a u)(x:g5 P w H h):dm P w H h a u:=by
 rcases r with r|⟨o,r⟩
 · exact x a u r
 · obtain⟨_,q⟩:=x a _ r
   exact q
noncomputable def Cy:Option HO→Prop
 |some (.lst _)=>True
 |some (.dK _)=>True
 |some (.dT _)=>True
 |some (.set _ _)=>True
 |some (.ins _ _ _)=>True
 |some (.ext _)=>True
 |_=>False
section
variable {P:Program}{w:World}{H:Hp}{h h':Heap}{x e:Addr}{o':HO}
theorem g5.write(ok:g5 P w H h)(mu:Cy (H x))(he:e=x∨H e=some (.own x))(k:∀b u,b≠e→h.get? b=some u→h'.get? b=some u)(heo:∃u,h'.get? e=some u)
 (new:dm P w (upd H x o') h' x o'):g5 P w (upd H x o') h':=fun b u q=>by
 have nown:∀c y,H c=some (.own y)→c≠x:=fun c y r z=>by subst z;rw[r]at mu;exact mu
 have ntup:∀c xs,H c=some (.tup xs)→c≠x:=fun c xs r z=>by subst z;rw[r]at mu;exact mu
 by_cases hb:b=x
 · subst hb;rw[aV]at q;cases q;exact new
 · rw[aL hb]at q
   by_cases hbe:b=e
   · have q':H b=some (.own x):=by
      rcases he with z|z
      · exact absurd (hbe.trans z) hb
      · rw[hbe];exact z
     rw[q]at q';cases q'
     obtain⟨v,hv⟩:=heo
     exact⟨v,by rw[hbe];exact hv⟩
   · refine(ok b u q).mD (fun c v hc r=>k c v ?_ r) (fun c r=>by rw[aL (nown c b r)];exact r) fun c xs r=>by rw[aL (ntup c xs r)];exact r
     rcases hc with rfl|hc
     · exact hbe
     · rintro rfl
       rcases he with z|z
       · exact nown c b hc z
       · rw[hc]at z;cases z;exact hb rfl
end
structure Un(fs ex:List Addr)(H H':Hp)(h h':Heap):Prop where
 keep:∀b o,h.get? b=some o→H b=none→b∉fs→b∉ex→h'.get? b=some o
 slot:∀b o,h.get? b=some o→H b=none→b∈fs→b∉ex→∃sl,h'.get? b=some {o with slots:=sl}
 free:∀b o,h.get? b=some o→H b=none→b∉ex→H' b=none
 there:∀b o,h.get? b=some o→b∉ex→∃o',h'.get? b=some o'
 mr:∀b xs,H b=some (.tup xs)→H' b=some (.tup xs)
 lx:∀b o u,H b=some (.gj o u)→H' b=some (.gj o u)
 lJ:∀b ps,H b=some (.jd ps)→∃more,H' b=some (.jd (ps++more))
section
variable {fs fs' ex ex':List Addr}{H H1 H2:Hp}{h h1 h2 h':Heap}{a x e:Addr}{o:HO}
theorem Un.any(u:Un fs ex H H1 h h1){b:Addr}{ob:Obj}(q:h.get? b=some ob)(n:H b=none)(hx:b∉ex):∃sl,h1.get? b=some {ob with slots:=sl}:=by
 by_cases hb:b∈fs
 · exact u.slot b ob q n hb hx
 · exact⟨ob.slots,u.keep b ob q n hb hx⟩
theorem Un.kept(k:∀b u,h.get? b=some u→h'.get? b=some u):Un fs ex H H h h':=
 ⟨fun b ob q _ _ _=>k b ob q,fun b ob q _ _ _=>⟨ob.slots,k b ob q⟩,fun _ _ _ n _=>n,fun b ob q _=>⟨ob,k b ob q⟩,fun _ _ q=>q,fun _ _ _ q=>q,fun _ ps q=>⟨#[],by rw[q];simp⟩⟩
theorem Un.refl:Un fs ex H H h h:=Un.kept fun _ _ q=>q
theorem Un.laid(k:∀b u,h.get? b=some u→h'.get? b=some u)(hp:h.objs.size≤a)(hn:H a=none):Un fs ex H (upd H a o) h h' where
 keep:=fun b u q _ _ _=>k b u q
 slot:=fun b u q _ _ _=>⟨u.slots,k b u q⟩
 free:=fun b u q n _=>by rw[aL (Nat.ne_of_lt (Nat.lt_of_lt_of_le (Heap.lt_size q) hp))];exact n
 there:=fun b u q _=>⟨u,k b u q⟩
 mr:=fun b xs q=>by rw[aL (dv q hn)];exact q
 lx:=fun b u xs q=>by rw[aL (dv q hn)];exact q
 lJ:=fun b ps q=>⟨#[],by rw[aL (dv q hn),q];simp⟩
theorem Un.write(mu:Cy (H x))(he:e=x∨H e=some (.own x))(k:∀b u,b≠e→h.get? b=some u→h'.get? b=some u)(heo:∃u,h'.get? e=some u):Un fs ex H (upd H x o) h h':=by
 have hx:∀b,H b=none→b≠x:=fun b n z=>by subst z;rw[n]at mu;exact mu
 have hb:∀b,H b=none→b≠e:=fun b n z=>by
  subst z
  rcases he with r|r
  · exact hx b n r
  · rw[n]at r;cases r
 have hm:∀b u,H b=some u→¬Cy (some u)→b≠x:=fun b u q nm z=>by subst z;rw[q]at mu;exact nm mu
 refine⟨fun b u q n _ _=>k b u (hb b n) q,fun b u q n _ _=>⟨u.slots,k b u (hb b n) q⟩,fun b u q n _=>by rw[aL (hx b n)];exact n,fun b u q _=>?_,
  fun b xs q=>by rw[aL (hm b _ q fun z=>z)];exact q,fun b u xs q=>by rw[aL (hm b _ q fun z=>z)];exact q,fun b ps q=>⟨#[],by rw[aL (hm b _ q fun z=>z),q];simp⟩⟩
 by_cases hbe:b=e
 · subst hbe;exact heo
 · exact⟨u,k b u hbe q⟩
end
noncomputable def De(h:Heap)(H:Hp):List Addr:=(List.range h.objs.size).filter fun a=>(H a).isSome
noncomputable def mz(h:Heap)(H:Hp):Heap:=PySem.W.hideAll h (De h H)
theorem Am(h:Heap)(H:Hp):(mz h H).objs.size=h.objs.size:=PySem.W.hideAll_size _ _
theorem nI{h:Heap}{H:Hp}{b:Addr}{o:Obj}(e:h.get? b=some o)(n:H b=none):(mz h H).get? b=some o:=
 PySem.W.hideAll_get _ e fun hm=>by
  have q:(H b).isSome=true:=(List.mem_filter.mp hm).2
  rw[n]at q;simp at q
theorem Dv{h:Heap}{H:Hp}{b:Addr}{o:Obj}(e:(mz h H).get? b=some o):h.get? b=some o∧H b=none:=by
 have e':h.get? b=some o:=PySem.W.of_hideAll (De h H) e
 refine⟨e',?_⟩
 cases q:H b with
 |none=>rfl
 |some x=>
  have hm:b∈De h H:=List.mem_filter.mpr ⟨List.mem_range.mpr (Heap.lt_size e'),by simp[q]⟩
  have z:(mz h H).get? b=none:=PySem.W.hideAll_none (De h H) hm
  rw[z]at e;cases e
noncomputable def DJ(g h:Heap)(L:Addr):List (Addr×Obj):=(List.range h.objs.size).filterMap fun a=>if a=L∨(g.get? a).isSome=true then none else(h.get? a).map fun o=>(a,o)
noncomputable def rest(g h:Heap)(L d:Addr):List (Addr×Obj):=(DJ g h L).filter fun p=>decide (p.1≠d)
end L2
namespace L2
open PySem PySem.Spec PyProof.Rows
structure Mod(K:PySem.W.Frag)(mg:Str→Option Value)(base:Heap):Prop where
 zC:K.In base
 glob:base.Ns mainGlobals mg
 blt:∃mb,base.Ns builtinsNs mb∧∀x:Str,x≠"__name__"→mb x=bootBuiltins x
 nolimit:base.NoLimit
 seer:base.NoSeer
 bmain:∃bm ob,mg "__builtins__"=some (.ref bm)∧bm≠builtinsNs∧base.get? bm=some ob∧ob.cls= .type "module"∧ob.dict=some builtinsNs∧ob.data= .plain
structure Cx where
 prog:Program
 w:World
 K:PySem.W.Frag
 mg:Str→Option Value
 base:Heap
 A:Around
 N:List Str
 s₀:Shared
 H₀:Hp
 env:Env
 outer:List Env
 stack:List Env
 ex:List Addr
 fn:Str→Bool
 calm:Bool
 pn:List (Addr×Obj)
 xe:Value→Shared→Prop
noncomputable def mY(l:List Env):List Addr:=l.filterMap (·.frame)
noncomputable abbrev Cx.fs(X:Cx):List Addr:=mY X.outer
noncomputable def vc(sc:Scope)(x:Str):Prop:=sc.names.lookup x=some .local∨sc.names.lookup x=some .cell∨sc.names.lookup x=some .free
noncomputable def Loc(sc:Scope)(x:Str):Prop:=sc.names.lookup x=some .local∨sc.names.lookup x=some .cell
noncomputable def Look(env:Env)(h:Heap)(m:Str→Option Value)(x:Str)(u:Value):Prop:=
 (env.kindOf x=some .local∧m x=some u)∨((env.kindOf x=some .cell∨env.kindOf x=some .free)∧∃c,env.cells.lookup x=some c∧h.IsCell c (some u))
structure Cx.Ok(X:Cx):Prop where
 mod:Mod X.K X.mg X.base
 kind:X.env.scope.kind= .function
 glob:X.env.globals=mainGlobals
 blt:X.env.builtins=builtinsNs
 above:X.s₀.heap.objs.size≤X.env.locals
 inj:∀x y c,X.env.cells.lookup x=some c→X.env.cells.lookup y=some c→x=y
 has:∀x,(X.env.kindOf x=some .cell∨X.env.kindOf x=some .free)→∃c,X.env.cells.lookup x=some c
 vg:∀x c,X.fn x=true→X.env.cells.lookup x=some c→X.s₀.heap.objs.size≤c
 hd:X.calm=true→X.A.handled=none
 frames:X.A.frames=some X.stack
 xJ:X.stack=X.outer∨(X.stack=X.env::X.outer∧X.env.frame=some X.env.locals)
 Ac:∀b∈X.ex,b≠X.env.locals∧∀x c,X.env.cells.lookup x=some c→c≠b
 bs:∀b o,X.base.get? b=some o→X.s₀.heap.get? b=some o∧X.H₀ b=none
 oo:X.base.objs.size≤X.s₀.heap.objs.size
 qz:∀b o,X.base.get? b=some o→b∉X.ex
 qu:∀b∈X.ex,b∉X.fs
 jo:X.s₀.heap.FunFrames X.base X.outer
 qZ:∀b∈X.fs,X.H₀ b=none
 gt:X.prog.given.tree=none
structure Inv(X:Cx)(pins:List (Addr×Obj))(σ:List (Option V))(H:Hp)(s:Shared):Prop where
 ok:X.Ok
 os:s.os=X.s₀.os
 bare:AllBare s.gens
 base:Un X.fs X.ex X.H₀ H X.s₀.heap s.heap
 loc:∃m,s.heap.Ns X.env.locals m∧∀(i:Nat) (x:Str) (v:V),X.N[i]?=some x→σ[i]?=some (some v)→vc X.env.scope x→∃u,RelV v u∧Look X.env s.heap m x u
 cell:∀x c,X.env.cells.lookup x=some c→∃v,s.heap.IsCell c v
 free:H X.env.locals=none
 h9:∀x c,X.env.cells.lookup x=some c→H c=none
 pin:∀p∈X.pn++pins,s.heap.get? p.1=some p.2∧H p.1=none∧p.1≠X.env.locals∧p.1∉X.fs∧∀v,p.2.data≠ .cell v
 aI:g5 X.prog X.w H s.heap
 len:σ.length=X.N.length
section
variable {X:Cx}{pins:List (Addr×Obj)}{σ:List (Option V)}{H H':Hp}{s:Shared}{h':Heap}
theorem Cx.Ok.Kw(ok:X.Ok){b:Addr}{o:Obj}(e:X.base.get? b=some o):b∉X.fs:=fun hb=>by
 have:=(ok.jo.mem hb).1
 rw[e]at this;cases this
theorem Inv.bs(I:Inv X pins σ H s):∀b o,X.base.get? b=some o→s.heap.get? b=some o∧H b=none:=fun b o e=>
 ⟨I.base.keep b o (I.ok.bs b o e).1 (I.ok.bs b o e).2 (I.ok.Kw e) (I.ok.qz b o e),I.base.free b o (I.ok.bs b o e).1 (I.ok.bs b o e).2 (I.ok.qz b o e)⟩
theorem Inv.bk(I:Inv X pins σ H s):∀b o,X.base.get? b=some o→s.heap.get? b=some o:=fun b o e=>(I.bs b o e).1
theorem Inv.mod(I:Inv X pins σ H s):Mod X.K X.mg X.base:=I.ok.mod
theorem Inv.gN(I:Inv X pins σ H s):X.K.In s.heap:=I.ok.mod.zC.keeps I.bk
theorem Inv.nolimit(I:Inv X pins σ H s):s.heap.NoLimit:=I.ok.mod.nolimit.keeps I.bk
theorem Inv.lt(I:Inv X pins σ H s):X.env.locals<s.heap.objs.size:=let⟨_,hn,_⟩:=I.loc;hn.lt
theorem Inv.sz(I:Inv X pins σ H s):X.s₀.heap.objs.size≤s.heap.objs.size:=Nat.le_trans I.ok.above (Nat.le_of_lt I.lt)
theorem Inv.Gi(I:Inv X pins σ H s){a:Addr}(h:s.heap.objs.size≤a):a∉X.fs:=fun hb=>by
 obtain⟨_,o,ho,_⟩:=I.ok.jo.mem hb
 exact absurd (Nat.lt_of_lt_of_le (Heap.lt_size ho) (Nat.le_trans I.sz h)) (Nat.lt_irrefl _)
theorem Inv.vT(I:Inv X pins σ H s):∀x c,X.env.cells.lookup x=some c→c≠X.env.locals:=fun x c e z=>by
 obtain⟨v,o,ho,hd⟩:=I.cell x c e
 obtain⟨m,⟨o',es,ep,ho',hd',_⟩,_⟩:=I.loc
 rw[z,ho']at ho;cases ho;rw[hd']at hd;cases hd
theorem Inv.jo(I:Inv X pins σ H s):s.heap.FunFrames X.base X.outer:=by
 have all:∀(l:List Env),(∀b∈mY l,b∈X.fs)→X.s₀.heap.FunFrames X.base l→s.heap.FunFrames X.base l:=by
  intro l
  induction l with
  |nil=>intro _ _;trivial
  |cons env r ih=>
   intro hs hl
   obtain⟨hk,⟨L,o,hf,hn,ho,hd⟩,hr⟩:=hl
   have hL:L∈X.fs:=hs L (by unfold mY;rw[List.filterMap_cons,hf];exact List.mem_cons_self)
   obtain⟨sl,e⟩:=I.base.slot L o ho (I.ok.qZ L hL) hL fun z=>I.ok.qu L z hL
   exact⟨hk,⟨L,_,hf,hn,e,hd⟩,ih (fun b hb=>hs b (by unfold mY;rw[List.filterMap_cons,hf];exact List.mem_cons_of_mem _ hb)) hr⟩
 exact all X.outer (fun _ hb=>hb) I.ok.jo
theorem Inv.stack(I:Inv X pins σ H s):s.heap.FunFrames X.base X.stack:=by
 rcases I.ok.xJ with e|⟨e,hf⟩
 · rw[e];exact I.jo
 · rw[e]
   obtain⟨m,hn,_⟩:=I.loc
   refine .cons (by rw[I.ok.kind];decide) hf hn ?_ I.jo
   exact Heap.get?_none_of_le (Nat.le_trans I.ok.oo I.ok.above)
theorem Inv.v_(I:Inv X pins σ H s):∀b∈mY X.stack,b∈X.env.locals::X.fs:=fun b hb=>by
 rcases I.ok.xJ with e|⟨e,hf⟩
 · rw[e]at hb;exact List.mem_cons_of_mem _ hb
 · rw[e]at hb
   unfold mY at hb
   rw[List.filterMap_cons,hf]at hb
   exact hb
theorem Inv.su(I:Inv X pins σ H s):∀b∈mY X.stack,H b=none:=fun b hb=>by
 rcases List.mem_cons.mp (I.v_ b hb)with e|hb
 · rw[e];exact I.free
 · obtain⟨_,o,ho,_⟩:=I.ok.jo.mem hb
   exact I.base.free b o ho (I.ok.qZ b hb) fun z=>I.ok.qu b z hb
theorem Inv.step{g':Array GenState}{t':Nat}{d':Drawn}{ch:List Addr}(I:Inv X pins σ H s)
 (hch:∀b∈ch,(b∈X.ex∨X.s₀.heap.objs.size≤b)∧b≠X.env.locals∧(∀x c,X.env.cells.lookup x=some c→c≠b)∧∀p∈X.pn++pins,p.1≠b)
 (keep:∀b o,b≠X.env.locals→b∉X.fs→b∉ch→s.heap.get? b=some o→H b=none→h'.get? b=some o)
 (slot:∀b o,b≠X.env.locals→b∈X.fs→b∉ch→s.heap.get? b=some o→H b=none→∃sl,h'.get? b=some {o with slots:=sl}) (free:∀b o,b∉ch→s.heap.get? b=some o→H b=none→H' b=none)
 (there:∀b o,b∉ch→s.heap.get? b=some o→∃o',h'.get? b=some o')
 (mr:∀b xs,H b=some (.tup xs)→H' b=some (.tup xs)) (lx:∀b o u,H b=some (.gj o u)→H' b=some (.gj o u)) (lJ:∀b ps,H b=some (.jd ps)→∃more,H' b=some (.jd (ps++more)))
 (ns:∀m,s.heap.Ns X.env.locals m→h'.Ns X.env.locals m) (aI:g5 X.prog X.w H' h') (hg:AllBare g'):
 Inv X pins σ H' {s with heap:=h',gens:=g',drawn:=d',toks:=t'}:=by
 have neL:∀b o,X.s₀.heap.get? b=some o→b≠X.env.locals:=fun b o e=>Nat.ne_of_lt (Nat.lt_of_lt_of_le (Heap.lt_size e) I.ok.above)
 have neC:∀b o,X.s₀.heap.get? b=some o→b∉X.ex→b∉ch:=fun b o e hx hb=>by
  rcases(hch b hb).1 with z|z
  · exact hx z
  · exact absurd (Nat.lt_of_lt_of_le (Heap.lt_size e) z) (Nat.lt_irrefl _)
 have cellK:∀x c,X.env.cells.lookup x=some c→∀v,s.heap.IsCell c v→h'.IsCell c v:=fun x c e v ⟨o,ho,hd⟩=>by
  have nch:c∉ch:=fun z=>(hch c z).2.2.1 x c e rfl
  by_cases hc:c∈X.fs
  · obtain⟨sl,q⟩:=slot c o (I.vT x c e) hc nch ho (I.h9 x c e)
    exact⟨_,q,hd⟩
  · exact⟨o,keep c o (I.vT x c e) hc nch ho (I.h9 x c e),hd⟩
 refine⟨I.ok,I.os,hg,⟨fun b o e n hb hx=>?_,fun b o e n hb hx=>?_,fun b o e n hx=>?_,fun b o e hx=>?_,fun b xs e=>mr b xs (I.base.mr b xs e),fun b o xs e=>lx b o xs (I.base.lx b o xs e),fun b ps e=>?_⟩,?_,fun x c e=>?_,?_,fun x c e=>?_,fun p hp=>?_,aI,I.len⟩
 · exact keep b o (neL b o e) hb (neC b o e hx) (I.base.keep b o e n hb hx) (I.base.free b o e n hx)
 · obtain⟨sl,e1⟩:=I.base.slot b o e n hb hx
   obtain⟨sl',e2⟩:=slot b _ (neL b o e) hb (neC b o e hx) e1 (I.base.free b o e n hx)
   exact⟨sl',e2⟩
 · obtain⟨o',e1⟩:=I.base.there b o e hx
   exact free b o' (neC b o e hx) e1 (I.base.free b o e n hx)
 · obtain⟨o',e1⟩:=I.base.there b o e hx
   exact there b o' (neC b o e hx) e1
 · obtain⟨m1,e1⟩:=I.base.lJ b ps e
   obtain⟨m2,e2⟩:=lJ b _ e1
   exact⟨m1++m2,by rw[e2,Array.append_assoc]⟩
 · obtain⟨m,hn,hl⟩:=I.loc
   refine⟨m,ns m hn,fun i x v e1 e2 e3=>?_⟩
   obtain⟨u,r,l⟩:=hl i x v e1 e2 e3
   refine⟨u,r,?_⟩
   rcases l with l|⟨k,c,e,z⟩
   · exact .inl l
   · exact .inr ⟨k,c,e,cellK x c e _ z⟩
 · obtain⟨v,z⟩:=I.cell x c e
   exact⟨v,cellK x c e v z⟩
 · obtain⟨m,⟨o,_,_,ho,_⟩,_⟩:=I.loc
   exact free _ o (fun z=>(hch _ z).2.1 rfl) ho I.free
 · obtain⟨v,o,ho,hd⟩:=I.cell x c e
   exact free c o (fun z=>(hch c z).2.2.1 x c e rfl) ho (I.h9 x c e)
 · obtain⟨e,n,ne,nf,d⟩:=I.pin p hp
   have nch:p.1∉ch:=fun z=>(hch p.1 z).2.2.2 p hp rfl
   exact⟨keep p.1 p.2 ne nf nch e n,free p.1 p.2 nch e n,ne,nf,d⟩
theorem Inv.un{t':Nat}(I:Inv X pins σ H s)(u:Un X.fs [] H H' s.heap h')(aI:g5 X.prog X.w H' h'):Inv X pins σ H' {s with heap:=h',toks:=t'}:=by
 obtain⟨m,⟨o,es,ep,ho,r⟩,_⟩:=id I.loc
 obtain⟨sl,hL⟩:=u.any ho I.free (by simp)
 exact I.step (g':=s.gens) (d':=s.drawn) (ch:=[]) (fun _ z=>nomatch z) (fun b o _ hb _ e n=>u.keep b o e n hb (by simp)) (fun b o _ hb _ e n=>u.slot b o e n hb (by simp)) (fun b o _ e n=>u.free b o e n (by simp)) (fun b o _ e=>u.there b o e (by simp)) u.mr u.lx u.lJ (fun m' hm=>by
  obtain⟨o',es',ep',ho',r'⟩:=hm
  rw[ho]at ho';cases ho'
  exact⟨_,es',ep',hL,r'⟩) aI I.bare
theorem Inv.call{g':Array GenState}{t':Nat}{d':Drawn}{ch:List Addr}(I:Inv X pins σ H s)(u:Un (mY X.stack) ch H H' s.heap h')(aI:g5 X.prog X.w H' h')(hg:AllBare g')
 (hch:∀b∈ch,(b∈X.ex∨X.s₀.heap.objs.size≤b)∧b≠X.env.locals∧(∀x c,X.env.cells.lookup x=some c→c≠b)∧∀p∈X.pn++pins,p.1≠b):
 Inv X pins σ H' {s with heap:=h',gens:=g',drawn:=d',toks:=t'}:=by
 obtain⟨m,⟨o,es,ep,ho,r⟩,_⟩:=id I.loc
 obtain⟨sl,hL⟩:=u.any ho I.free fun z=>(hch _ z).2.1 rfl
 exact I.step (ch:=ch) hch (fun b o hL hb hc e n=>u.keep b o e n (fun z=>(List.mem_cons.mp (I.v_ b z)).elim hL hb) hc) (fun b o _ _ hc e n=>u.any e n hc) (fun b o hc e n=>u.free b o e n hc) (fun b o hc e=>u.there b o e hc) u.mr u.lx u.lJ (fun m' hm=>by
  obtain⟨o',es',ep',ho',r'⟩:=hm
  rw[ho]at ho';cases ho'
  exact⟨_,es',ep',hL,r'⟩) aI hg
theorem Inv.turned{t':Nat}{it:Addr}(I:Inv X pins σ H s)(k:∀b o,b≠it→s.heap.get? b=some o→h'.get? b=some o)(hn:H it=none)(hL:it≠X.env.locals)
 (h1:it∈X.ex∨X.s₀.heap.objs.size≤it) (h2:∀x c,X.env.cells.lookup x=some c→c≠it) (h3:∀p∈X.pn++pins,p.1≠it):Inv X pins σ H {s with heap:=h',toks:=t'}:=by
 have nit:∀b u,H b=some u→b≠it:=fun b u e z=>by rw[z,hn]at e;cases e
 refine I.step (g':=s.gens) (d':=s.drawn) (ch:=[it]) (fun b hb=>?_) (fun b o _ _ hc e _=>k b o (fun z=>hc (by simp[z])) e) (fun b o _ _ hc e _=>⟨o.slots,k b o (fun z=>hc (by simp[z])) e⟩) (fun _ _ _ _ n=>n)
  (fun b o hc e=>⟨o,k b o (fun z=>hc (by simp[z])) e⟩) (fun _ _ e=>e) (fun _ _ _ e=>e) (fun b ps e=>⟨#[],by rw[e];simp⟩) (fun m hm=>?_) (fun b u e=>?_) I.bare
 · have e:b=it:=by simpa using hb
   subst e
   exact⟨h1,hL,h2,h3⟩
 · obtain⟨o,es,ep,ho,r⟩:=hm
   exact⟨o,es,ep,k _ o (Ne.symm hL) ho,r⟩
 · refine(I.aI b u e).mD (fun c v hc q=>k c v ?_ q) (fun _ q=>q) fun _ _ q=>q
   rcases hc with z|z
   · rw[z];exact nit b u e
   · exact nit c _ z
theorem Inv.tok(I:Inv X pins σ H s)(t:Nat):Inv X pins σ H {s with toks:=t}:=I.un (h':=s.heap) (t':=t) Un.refl I.aI
theorem Inv.kept{t':Nat}(I:Inv X pins σ H s)(k:∀b u,s.heap.get? b=some u→h'.get? b=some u):Inv X pins σ H {s with heap:=h',toks:=t'}:=I.un (Un.kept k) (I.aI.kept k)
theorem Inv.laid{a:Addr}{o:HO}{t':Nat}(I:Inv X pins σ H s)(k:∀b u,s.heap.get? b=some u→h'.get? b=some u)(hp:s.heap.objs.size≤a)(new:dm X.prog X.w (upd H a o) h' a o):
 Inv X pins σ (upd H a o) {s with heap:=h',toks:=t'}:=I.un (Un.laid k hp (I.aI.fresh hp)) (I.aI.laid k hp new)
theorem Inv.write{x e:Addr}{o:HO}{t':Nat}(I:Inv X pins σ H s)(mu:Cy (H x))(he:e=x∨H e=some (.own x))(k:∀b u,b≠e→s.heap.get? b=some u→h'.get? b=some u)(heo:∃u,h'.get? e=some u)
 (new:dm X.prog X.w (upd H x o) h' x o):Inv X pins σ (upd H x o) {s with heap:=h',toks:=t'}:=I.un (Un.write mu he k heo) (I.aI.write mu he k heo new)
theorem Inv.o9{pins':List (Addr×Obj)}(I:Inv X pins σ H s)(h:∀p∈pins',s.heap.get? p.1=some p.2∧H p.1=none∧p.1≠X.env.locals∧p.1∉X.fs∧∀v,p.2.data≠ .cell v):Inv X pins' σ H s:=
 ⟨I.ok,I.os,I.bare,I.base,I.loc,I.cell,I.free,I.h9,fun p hp=>(List.mem_append.mp hp).elim (fun z=>I.pin p (List.mem_append_left _ z)) (h p),I.aI,I.len⟩
theorem vk{N:List Str}(hN:N.Nodup){i j:Nat}{x:Str}(a:N[i]?=some x)(b:N[j]?=some x):i=j:=by
 obtain⟨h1,e1⟩:=List.getElem?_eq_some_iff.mp a
 obtain⟨h2,e2⟩:=List.getElem?_eq_some_iff.mp b
 exact(List.getElem_inj hN).mp (e1.trans e2.symm)
theorem tj{M:Model}{A:Around}{E:Value→Shared→Prop}{i:Nat}{x:Str}{v:V}{u:Value}{Q:Unit→Shared→Prop}(I:Inv X pins σ H s)(hN:X.N.Nodup)(hi:X.N[i]?=some x)(hx:Loc X.env.scope x)(r:RelV v u)
 (h:∀s',Inv X pins (σ.set i (some v)) H s'→(∃a,Heap.SameBut a s.heap s'.heap∧(a=X.env.locals∨X.env.cells.lookup x=some a))→Q () s') (hf:X.fn x=true∨X.env.scope.names.lookup x=some .local:=by first|exact .inl rfl|exact .inr rfl|assumption):wpAny M A (storeName X.env x u) Q E s:=by
 obtain⟨m,hn,hl⟩:=id I.loc
 have hcls:(X.env.scope.kind== .class||(X.env.scope.kind== .module&&X.env.locals != X.env.globals))=false:=by rw[I.ok.kind];rfl
 have hiσ:i<σ.length:=by rw[I.len];exact(List.getElem?_eq_some_iff.mp hi).1
 have vT:=I.vT
 have tracked:∀ {a:Addr} {h':Heap},(∃o,s.heap.get? a=some o∧H a=none)→Heap.SameBut a s.heap h'→g5 X.prog X.w H h':=fun{a h'} ha hs b ob e=>by
  obtain⟨_,_,hfree⟩:=ha
  refine(I.aI b ob e).mD (fun c w' hc q=>(hs.2 c ?_).trans q) (fun _ q=>q) fun _ _ q=>q
  rintro rfl
  rcases hc with rfl|hc
  · rw[hfree]at e;cases e
  · rw[hfree]at hc;cases hc
 rcases hx with hk|hk
 · refine wpAny_storeName_local hk hn (fun h' hn' hs=>?_) hcls
   obtain⟨oL,_,_,hoL,_⟩:=id hn
   refine h _ ⟨I.ok,I.os,I.bare,⟨fun b o e n hb hx=>?_,fun b o e n hb hx=>?_,I.base.free,fun b o e hx=>?_,I.base.mr,I.base.lx,I.base.lJ⟩,⟨_,hn',fun j y v' e1 e2 e3=>?_⟩,fun y c e=>?_,I.free,I.h9,fun p hp=>?_,tracked ⟨oL,hoL,I.free⟩ hs,by simpa using I.len⟩ ⟨_,hs,.inl rfl⟩
   · exact(hs.2 b (Nat.ne_of_lt (Nat.lt_of_lt_of_le (Heap.lt_size e) I.ok.above))).trans (I.base.keep b o e n hb hx)
   · obtain⟨sl,e1⟩:=I.base.slot b o e n hb hx
     exact⟨sl,(hs.2 b (Nat.ne_of_lt (Nat.lt_of_lt_of_le (Heap.lt_size e) I.ok.above))).trans e1⟩
   · obtain⟨o',e1⟩:=I.base.there b o e hx
     exact⟨o',(hs.2 b (Nat.ne_of_lt (Nat.lt_of_lt_of_le (Heap.lt_size e) I.ok.above))).trans e1⟩
   · by_cases hj:j=i
     · subst hj
       rw[hi]at e1;cases e1
       rw[List.getElem?_set_self hiσ]at e2
       cases e2
       exact⟨u,r,.inl ⟨hk,by simp⟩⟩
     · rw[List.getElem?_set_ne (Ne.symm hj)]at e2
       obtain⟨u',r',q⟩:=hl j y v' e1 e2 e3
       refine⟨u',r',?_⟩
       rcases q with⟨k,e⟩|⟨k,c,e,z⟩
       · refine .inl ⟨k,?_⟩
         have:y≠x:=fun e=>hj (vk hN e1 (e▸hi))
         simp[this,e]
       · exact .inr ⟨k,c,e,z.sameBut hs (vT y c e)⟩
   · obtain⟨w',z⟩:=I.cell y c e
     exact⟨w',z.sameBut hs (vT y c e)⟩
   · obtain⟨e,n,ne,nf,d⟩:=I.pin p hp
     exact⟨(hs.2 p.1 ne).trans e,n,ne,nf,d⟩
 · have hfn:X.fn x=true:=by
    rcases hf with z|z
    · exact z
    · rw[z]at hk;cases hk
   obtain⟨c,hc⟩:=I.ok.has x (.inl hk)
   obtain⟨w',z⟩:=I.cell x c hc
   refine wpAny_storeName_cell I.ok.kind hk hc z (fun h' hc' hs=>?_)
   obtain⟨oc,hoc,hocd⟩:=id z
   refine h {s with heap:=h'} ⟨I.ok,I.os,I.bare,⟨fun b o e n hb hx=>?_,fun b o e n hb hx=>?_,I.base.free,fun b o e hx=>?_,I.base.mr,I.base.lx,I.base.lJ⟩,⟨m,hn.sameBut hs (Ne.symm (vT x c hc)),fun j y v' e1 e2 e3=>?_⟩,fun y c' e=>?_,I.free,I.h9,fun p hp=>?_,tracked ⟨oc,hoc,I.h9 x c hc⟩ hs,by simpa using I.len⟩ ⟨c,hs,.inr hc⟩
   · exact(hs.2 b (Nat.ne_of_lt (Nat.lt_of_lt_of_le (Heap.lt_size e) (I.ok.vg x c hfn hc)))).trans (I.base.keep b o e n hb hx)
   · obtain⟨sl,e1⟩:=I.base.slot b o e n hb hx
     exact⟨sl,(hs.2 b (Nat.ne_of_lt (Nat.lt_of_lt_of_le (Heap.lt_size e) (I.ok.vg x c hfn hc)))).trans e1⟩
   · obtain⟨o',e1⟩:=I.base.there b o e hx
     exact⟨o',(hs.2 b (Nat.ne_of_lt (Nat.lt_of_lt_of_le (Heap.lt_size e) (I.ok.vg x c hfn hc)))).trans e1⟩
   · by_cases hj:j=i
     · subst hj
       rw[hi]at e1;cases e1
       rw[List.getElem?_set_self hiσ]at e2
       cases e2
       exact⟨u,r,.inr ⟨.inl hk,c,hc,hc'⟩⟩
     · rw[List.getElem?_set_ne (Ne.symm hj)]at e2
       obtain⟨u',r',q⟩:=hl j y v' e1 e2 e3
       refine⟨u',r',?_⟩
       rcases q with q|⟨k,c',e,z'⟩
       · exact .inl q
       · refine .inr ⟨k,c',e,z'.sameBut hs ?_⟩
         rintro rfl
         exact hj (vk hN e1 (I.ok.inj _ _ _ e hc▸hi))
   · by_cases hcc:c'=c
     · subst hcc;exact⟨_,hc'⟩
     · obtain⟨w2,z2⟩:=I.cell y c' e
       exact⟨w2,z2.sameBut hs hcc⟩
   · obtain⟨e,n,ne,nf,d⟩:=I.pin p hp
     refine⟨(hs.2 p.1 ?_).trans e,n,ne,nf,d⟩
     intro q
     rw[q,hoc]at e
     have q':oc=p.2:=Option.some.inj e
     exact d w' (by rw[←q'];exact hocd)
theorem lh{M:Model}{A:Around}{E:Value→Shared→Prop}{i:Nat}{x:Str}{v:V}{u:Value}{Q:Unit→Shared→Prop}(I:Inv X pins σ H s)(hN:X.N.Nodup)(hi:X.N[i]?=some x)(hx:Loc X.env.scope x)(r:RelV v u)
 (h:∀s',Inv X pins (σ.set i (some v)) H s'→Q () s') (hf:X.fn x=true∨X.env.scope.names.lookup x=some .local:=by first|exact .inl rfl|exact .inr rfl|assumption):wpAny M A (storeName X.env x u) Q E s:=
 tj I hN hi hx r (fun s' I' _=>h s' I') hf
theorem Inv.yh{s':Shared}{ch:List Addr}(I:Inv X pins σ H s)(ho:s'.os=s.os)(u:Un (mY X.stack) ch H H' s.heap s'.heap)(aI:g5 X.prog X.w H' s'.heap)(hg:AllBare s'.gens)
 (hch:∀b∈ch,(b∈X.ex∨X.s₀.heap.objs.size≤b)∧b≠X.env.locals∧(∀x c,X.env.cells.lookup x=some c→c≠b)∧∀p∈X.pn++pins,p.1≠b):Inv X pins σ H' s':=by
 obtain⟨h',g',d',t',o'⟩:=s'
 have e:o'=s.os:=ho
 subst e
 exact I.call (g':=g') (t':=t') (d':=d') u aI hg hch
end
noncomputable abbrev XK:=Value→Option Addr→Hp→Prop
noncomputable abbrev St:=List (Option V)
noncomputable abbrev VK:=V→Hp→Prop
noncomputable abbrev TE:=St→Hp→VK→Prop
noncomputable abbrev TT:=St→Hp→(Bool→Hp→Prop)→Prop
noncomputable abbrev TA:=St→Hp→(List V→Hp→Prop)→Prop
structure Ends where
 nx:St→Hp→Prop
 rt:VK
 bk:St→Hp→Prop:=fun _ _=>False
 ct:St→Hp→Prop:=fun _ _=>False
noncomputable abbrev TS:=Ends→St→Hp→Prop
noncomputable def EP(X:Cx)(pins:List (Addr×Obj))(σ:St)(Q:VK)(u:Value)(s':Shared):Prop:=∃v H',Inv X pins σ H' s'∧RelV v u∧Q v H'
noncomputable def TP(X:Cx)(pins:List (Addr×Obj))(σ:St)(Q:Bool→Hp→Prop)(b:Bool)(s':Shared):Prop:=∃H',Inv X pins σ H' s'∧Q b H'
noncomputable def AP(X:Cx)(pins:List (Addr×Obj))(σ:St)(Q:List V→Hp→Prop)(us:List Value)(s':Shared):Prop:=∃vs H',Inv X pins σ H' s'∧Vals vs us∧Q vs H'
noncomputable def SP(X:Cx)(pins:List (Addr×Obj))(D:Ends)(f:Flow)(s':Shared):Prop:=
 match f with
 | .next=>∃σ' H',Inv X pins σ' H' s'∧D.nx σ' H'
 | .brk=>∃σ' H',Inv X pins σ' H' s'∧D.bk σ' H'
 | .cont=>∃σ' H',Inv X pins σ' H' s'∧D.ct σ' H'
 | .ret u=>∃v σ' H',Inv X pins σ' H' s'∧RelV v u∧D.rt v H'
noncomputable def PE(X:Cx)(e:Expr)(t:TE):Prop:=
 ∀(pins:List (Addr×Obj)) (s:Shared) (σ:St) (H:Hp) (Q:VK),Inv X pins σ H s→t σ H Q→wpAny (model X.prog X.w) X.A (eval e X.env) (EP X pins σ Q) X.xe s
noncomputable def PT(X:Cx)(e:Expr)(t:TT):Prop:=
 ∀(pins:List (Addr×Obj)) (s:Shared) (σ:St) (H:Hp) (Q:Bool→Hp→Prop),Inv X pins σ H s→t σ H Q→wpAny (model X.prog X.w) X.A (isTrue e X.env (eval e X.env)) (TP X pins σ Q) X.xe s
noncomputable def PW(X:Cx)(e:Expr)(t:TT):Prop:=
 ∀(whole:Sem Value) (pins:List (Addr×Obj)) (s:Shared) (σ:St) (H:Hp) (Q:Bool→Hp→Prop),Inv X pins σ H s→t σ H Q→wpAny (model X.prog X.w) X.A (isTrue e X.env whole) (TP X pins σ Q) X.xe s
theorem PW.pt{X:Cx}{e:Expr}{t:TT}(h:PW X e t):PT X e t:=h _
noncomputable def PA(X:Cx)(es:List Expr)(t:TA):Prop:=
 ∀(pos:Pos) (pins:List (Addr×Obj)) (s:Shared) (σ:St) (H:Hp) (Q:List V→Hp→Prop),Inv X pins σ H s→t σ H Q→wpAny (model X.prog X.w) X.A (spliced (backTo pos (starEach es X.env))) (AP X pins σ Q) X.xe s
noncomputable def PS(X:Cx)(st:Stmt)(t:TS):Prop:=
 ∀(pins:List (Addr×Obj)) (s:Shared) (σ:St) (H:Hp) (D:Ends),Inv X pins σ H s→t D σ H→wpAny (model X.prog X.w) X.A (exec st X.env) (SP X pins D) X.xe s
noncomputable def gM(X:Cx)(st:List Stmt)(t:TS):Prop:=
 ∀(pins:List (Addr×Obj)) (s:Shared) (σ:St) (H:Hp) (D:Ends),Inv X pins σ H s→t D σ H→wpAny (model X.prog X.w) X.A (execs st X.env) (SP X pins D) X.xe s
theorem bR{α:Type}{t:Sem α}{Q Q':α→Shared→Prop}{M:Model}{A:Around}{E:Value→Shared→Prop}{s:Shared}(h:wpAny M A t Q E s)(hQ:∀a s,Q a s→Q' a s):wpAny M A t Q' E s:=wpAny_mono h hQ fun _ _ x=>x
end L2
namespace L2
open PySem PySem.Spec PyProof.Rows
section
variable {X:Cx}
noncomputable def Hg(i:Nat):TE:=fun σ H Q=>∃v,σ[i]?=some (some v)∧Q v H
noncomputable def tC(v:V):TE:=fun _ H Q=>Q v H
theorem FR{i:Nat}{x:Str}{pos:Pos}(hN:X.N[i]?=some x)(hv:vc X.env.scope x)(hd:(x==("__debug__":Str))=false:=by decide)(hcd:(x==("__classdict__":Str))=false:=by decide):PE X (.Name x pos) (Hg i):=by
 intro pins s σ H Q I h
 obtain⟨v,e,h⟩:=h
 obtain⟨m,hn,hl⟩:=I.loc
 obtain⟨u,r,l⟩:=hl i x v hN e hv
 have fin:EP X pins σ Q u s:=⟨v,H,I,r,h⟩
 rcases l with⟨hk,hm⟩|⟨hk,c,hc,hcell⟩
 · exact wpAny_Name (wpAny_loadName_local I.ok.kind hk hn hm fin) hd
 · rcases hk with hk|hk
   · exact wpAny_Name (wpAny_loadName_cell I.ok.kind hk hc hcell fin) hd
   · exact wpAny_Name (wpAny_loadName_free I.ok.kind hk hc hcell fin hcd) hd
theorem Fv{i j pos}:PE X (.Constant (.int i) j pos) (tC (.int i)):=fun _ _ _ H _ I h=>wpAny_Constant_int ⟨.int i,H,I.tok _,⟨_,rfl⟩,h⟩
theorem HS{b j pos}:PE X (.Constant (.bool b) j pos) (tC (.bl b)):=fun _ _ _ H _ I h=>Constant_bool ⟨.bl b,H,I,rfl,h⟩
theorem Fy{j pos}:PE X (.Constant .none j pos) (tC .aC):=fun _ _ _ H _ I h=>Constant_none ⟨.aC,H,I,rfl,h⟩
noncomputable def Gl(X:Cx)(x:Str):Prop:=X.env.kindOf x=some .globalImplicit
theorem xF{E:Value→Shared→Prop}{pins:List (Addr×Obj)}{s:Shared}{σ:St}{H:Hp}{x:Str}{u:Value}{pos:Pos}{Q:Value→Shared→Prop}(I:Inv X pins σ H s)(hg:Gl X x)(hm:X.mg x=some u)(h:Q u s)
 (hd:(x==("__debug__":Str))=false:=by decide):wpAny (model X.prog X.w) X.A (eval (.Name x pos) X.env) Q E s:=
 Calls.Name_function_global I.ok.kind hg (Calls.loadGlobal_global (by rw[I.ok.glob];exact I.mod.glob.keeps I.bk) hm h) hd
theorem kg{E:Value→Shared→Prop}{pins:List (Addr×Obj)}{s:Shared}{σ:St}{H:Hp}{x:Str}{u:Value}{pos:Pos}{Q:Value→Shared→Prop}(I:Inv X pins σ H s)(hg:Gl X x)(hm:X.mg x=none)(hv:bootBuiltins x=some u)(h:Q u s)
 (hn:x≠"__name__":=by decide) (hd:(x==("__debug__":Str))=false:=by decide):wpAny (model X.prog X.w) X.A (eval (.Name x pos) X.env) Q E s:=by
 obtain⟨mb,h1,h2⟩:=I.mod.blt
 exact Calls.Name_function_global I.ok.kind hg (Calls.loadGlobal_builtin (by rw[I.ok.glob];exact I.mod.glob.keeps I.bk) hm (by rw[I.ok.blt];exact h1.keeps I.bk) ((h2 x hn).trans hv) h) hd
theorem Di{x:Str}{v:V}{u:Value}{pos:Pos}(hg:Gl X x)(hm:X.mg x=none)(hv:bootBuiltins x=some u)(r:RelV v u)(hn:x≠"__name__":=by decide)(hd:(x==("__debug__":Str))=false:=by decide):PE X (.Name x pos) (tC v):=
 fun _ _ _ H _ I h=>kg I hg hm hv ⟨v,H,I,r,h⟩ hn hd
variable {a b:Expr}{ta tb:TE}{pos:Pos}
noncomputable def tB(t:TE):TT:=fun σ H Q=>t σ H fun x H1=>∃c,x= .bl c∧Q c H1
theorem Hu{e:Expr}{t:TE}(h:PE X e t)(he:∀whole,isTrue e X.env whole=(do let v ←whole;standAt e.pos;holding [v] (truthy v)):=by intro _;rfl):PT X e (tB t):=by
 intro pins s σ H Q I hw
 refine isTrue_plain (bR (h pins s σ H _ I hw) fun v s1 ⟨x,H1,I1,r1,q1⟩=>?_) (he _)
 obtain⟨d,rfl,q⟩:=q1
 cases r1
 exact wpAny_truthy_bool ⟨H1,I1,q⟩
variable {tA tB':TT}{rest:List Expr}
noncomputable def FE(t u:TT):TT:=fun σ H Q=>t σ H fun c H1=>if c=true then u σ H1 Q else Q false H1
noncomputable def Ju(t u:TT):TT:=fun σ H Q=>t σ H fun c H1=>if c=true then Q true H1 else u σ H1 Q
noncomputable def Kp(t:TT):TT:=fun σ H Q=>t σ H fun c H1=>Q (!c) H1
theorem pw_and1(ha:PT X a tA):PW X (.BoolOp .And [a] pos) tA:=by
 intro wh pins s σ H Q I h
 refine isTrue_and (bR (ha pins s σ H Q I h) fun c s1 e=>?_)
 cases c with
 |true=>exact isTrue_and_nil e
 |false=>exact e
theorem pw_or1(ha:PT X a tA):PW X (.BoolOp .Or [a] pos) tA:=by
 intro wh pins s σ H Q I h
 refine isTrue_or (bR (ha pins s σ H Q I h) fun c s1 e=>?_)
 cases c with
 |false=>exact isTrue_or_nil e
 |true=>exact e
theorem pw_and(ha:PT X a tA)(hb:PW X (.BoolOp .And (b::rest) pos) tB'):PW X (.BoolOp .And (a::b::rest) pos) (FE tA tB'):=by
 intro wh pins s σ H Q I h
 refine isTrue_and (bR (ha pins s σ H _ I h) fun c s1 ⟨H1,I1,q1⟩=>?_)
 cases c with
 |true=>exact hb wh pins s1 σ H1 Q I1 q1
 |false=>exact⟨H1,I1,q1⟩
theorem pw_or(ha:PT X a tA)(hb:PW X (.BoolOp .Or (b::rest) pos) tB'):PW X (.BoolOp .Or (a::b::rest) pos) (Ju tA tB'):=by
 intro wh pins s σ H Q I h
 refine isTrue_or (bR (ha pins s σ H _ I h) fun c s1 ⟨H1,I1,q1⟩=>?_)
 cases c with
 |true=>exact⟨H1,I1,q1⟩
 |false=>exact hb wh pins s1 σ H1 Q I1 q1
theorem Gz(ha:PT X a tA):PT X (.UnaryOp .Not a pos) (Kp tA):=by
 intro pins s σ H Q I h
 exact isTrue_not (ha pins s σ H (fun c H1=>Q (!c) H1) I h)
noncomputable def HW(ta tb:TE):TE:=fun σ H Q=>ta σ H fun x H1=>∃c,x= .bl c∧if c=true then tb σ H1 Q else Q (.bl false) H1
noncomputable def HU(ta:TE):TE:=fun σ H Q=>ta σ H fun x H1=>∃c,x= .bl c∧Q (.bl (!c)) H1
theorem E8{op}{t:TE}(h:PE X a t):PE X (.BoolOp op [a] pos) t:=fun pins s σ H Q I hw=>BoolOp_one (h pins s σ H Q I hw)
theorem Hn(ha:PE X a ta)(hb:PE X (.BoolOp .And (b::rest) pos) tb):PE X (.BoolOp .And (a::b::rest) pos) (HW ta tb):=by
 intro pins s σ H Q I h
 refine BoolOp_and (bR (ha pins s σ H _ I h) fun v s1 ⟨x,H1,I1,r1,q1⟩=>?_)
 obtain⟨c,rfl,q1⟩:=q1
 cases r1
 refine wpAny_truthy_bool ?_
 cases c with
 |true=>exact hb pins s1 σ H1 Q I1 q1
 |false=>exact⟨.bl false,H1,I1,rfl,q1⟩
theorem FK(ha:PE X a ta):PE X (.UnaryOp .Not a pos) (HU ta):=by
 intro pins s σ H Q I h
 refine UnaryOp_ (bR (ha pins s σ H _ I h) fun v s1 ⟨x,H1,I1,r1,q1⟩=>?_)
 obtain⟨c,rfl,q1⟩:=q1
 cases r1
 exact not_of (wpAny_truthy_bool ⟨.bl (!c),H1,I1,rfl,q1⟩)
noncomputable def KY(t:TT)(ta tb:TE):TE:=fun σ H Q=>t σ H fun c H1=>if c=true then ta σ H1 Q else tb σ H1 Q
theorem BK{c:Expr}(hc:PT X c tA)(ha:PE X a ta)(hb:PE X b tb):PE X (.IfExp c a b pos) (KY tA ta tb):=by
 intro pins s σ H Q I h
 refine wpAny_IfExp (bR (hc pins s σ H _ I h) fun d s1 ⟨H1,I1,q1⟩=>?_)
 cases d with
 |true=>exact ha pins s1 σ H1 Q I1 q1
 |false=>exact hb pins s1 σ H1 Q I1 q1
end
end L2
namespace L2
open PySem PySem.Spec PyProof.Rows
noncomputable def kb(K:PySem.W.Frag)(H:Hp)(a:Addr)(xs:List V):Prop:=
 Rd H a (.lst xs)∨
  ∃(o:Obj) (its:Array Value) (n:Nat),K.lookup a=some o∧o.cls= .type "list"∧o.dict=none∧o.data= .seq its n∧its.size≤sizeLine∧Vals xs its.toList
noncomputable def ir(K:PySem.W.Frag)(H:Hp)(a:Addr)(xs:List V):Prop:=
 Rd H a (.tup xs)∨
  ∃(o:Obj) (its:Array Value) (n:Nat),K.lookup a=some o∧o.cls= .type "tuple"∧o.data= .seq its n∧its.size≤sizeLine∧Vals xs its.toList
noncomputable def J8:Value→Option V
 | .none=>some .aC
 | .bool b=>some (.bl b)
 | .int i _=>some (.int i)
 | .str x _=>some (.str x)
 | .bytes b _=>some (.p9 b)
 | .float b _=>some (.p7 b)
 | .ref a=>some (.ref a)
 | .type n=>some (.ty n)
 |_=>none
theorem RelV.abs{x:V}{u:Value}(r:RelV x u):J8 u=some x:=by
 cases x with
 |aC=>cases r;rfl
 |bl _=>cases r;rfl
 |int _=>obtain⟨t,rfl⟩:=r;rfl
 |str _=>obtain⟨t,rfl⟩:=r;rfl
 |p9 _=>obtain⟨t,rfl⟩:=r;rfl
 |p7 _=>obtain⟨t,rfl⟩:=r;rfl
 |ref _=>cases r;rfl
 |ty _=>cases r;rfl
theorem RelV.inj{x y:V}{u:Value}(r:RelV x u)(q:RelV y u):x=y:=Option.some.inj (r.abs.symm.trans q.abs)
theorem Vals.inj:∀ {xs ys:List V} {us:List Value},Vals xs us→Vals ys us→xs=ys
 |_,_,_,.nil,.nil=>rfl
 |_,_,_,.cons r t,.cons r' t'=>by rw[r.inj r',Vals.inj t t']
section
variable {X:Cx}{pins:List (Addr×Obj)}{σ:St}{H:Hp}{s:Shared}{a:Addr}{xs ys:List V}
theorem kb.of{K:PySem.W.Frag}(h:H a=some (.lst xs)):kb K H a xs:= .inl (.inl h)
theorem ir.of{K:PySem.W.Frag}(h:H a=some (.tup xs)):ir K H a xs:= .inl (.inl h)
theorem Inv.list(I:Inv X pins σ H s)(h:kb X.K H a xs):∃its:List Value,Vals xs its∧PlainL s.heap a its.toArray∧xs.length≤sizeLine:=by
 rcases h with h|⟨o,its,n,hk,hc,hd,hs,hz,r⟩
 · obtain⟨z,its,n,r,e⟩:=h.ok I.aI
   exact⟨its,r,⟨_,n,e,rfl,rfl,rfl⟩,z⟩
 · refine⟨its.toList,r,⟨o,n,I.gN a o hk,hc,hd,by simpa using hs⟩,?_⟩
   have e:=r.length
   simp only[Array.length_toList]at e
   (first|lia|omega)
theorem Inv.tuple(I:Inv X pins σ H s)(h:ir X.K H a xs):∃its:List Value,Vals xs its∧IsTup s.heap a its.toArray∧xs.length≤sizeLine:=by
 rcases h with h|⟨o,its,n,hk,hc,hs,hz,r⟩
 · obtain⟨z,its,r,p⟩:=h.ok I.aI
   exact⟨its,r,p,z⟩
 · refine⟨its.toList,r,⟨o,I.gN a o hk,hc,n,by simpa using hs⟩,?_⟩
   have e:=r.length
   simp only[Array.length_toList]at e
   (first|lia|omega)
theorem Inv.vd(I:Inv X pins σ H s)(h:kb X.K H a xs)(h':kb X.K H a ys):xs=ys:=by
 obtain⟨its,r,⟨o,n,e,_,_,d⟩,_⟩:=I.list h
 obtain⟨its',r',⟨o',n',e',_,_,d'⟩,_⟩:=I.list h'
 rw[e]at e';cases e'
 rw[d]at d'
 injection d' with d1 _
 have:its=its':=by simpa using congrArg Array.toList d1
 subst this
 exact r.inj r'
theorem Inv.td(I:Inv X pins σ H s)(h:ir X.K H a xs)(h':ir X.K H a ys):xs=ys:=by
 obtain⟨its,r,⟨o,e,_,n,d⟩,_⟩:=I.tuple h
 obtain⟨its',r',⟨o',e',_,n',d'⟩,_⟩:=I.tuple h'
 rw[e]at e';cases e'
 rw[d]at d'
 injection d' with d1 _
 have:its=its':=by simpa using congrArg Array.toList d1
 subst this
 exact r.inj r'
end
noncomputable abbrev Cx.my(X:Cx)(E:Value→Shared→Prop):Cx:={X with xe:=E}
noncomputable abbrev Cx.tw(X:Cx):Cx:=X.my fun _ _=>False
theorem Cx.Ok.my{X:Cx}(ok:X.Ok)(E:Value→Shared→Prop):(X.my E).Ok:=
 ⟨ok.mod,ok.kind,ok.glob,ok.blt,ok.above,ok.inj,ok.has,ok.vg,ok.hd,ok.frames,ok.xJ,ok.Ac,ok.bs,ok.oo,ok.qz,ok.qu,ok.jo,ok.qZ,ok.gt⟩
theorem Cx.Ok.km{X:Cx}{E:Value→Shared→Prop}(ok:(X.my E).Ok):X.Ok:=
 ⟨ok.mod,ok.kind,ok.glob,ok.blt,ok.above,ok.inj,ok.has,ok.vg,ok.hd,ok.frames,ok.xJ,ok.Ac,ok.bs,ok.oo,ok.qz,ok.qu,ok.jo,ok.qZ,ok.gt⟩
section
variable {X:Cx}{pins:List (Addr×Obj)}{σ:St}{H:Hp}{s:Shared}{E:Value→Shared→Prop}
theorem Inv.my(I:Inv X pins σ H s)(E:Value→Shared→Prop):Inv (X.my E) pins σ H s:=⟨I.ok.my E,I.os,I.bare,I.base,I.loc,I.cell,I.free,I.h9,I.pin,I.aI,I.len⟩
theorem Inv.km(I:Inv (X.my E) pins σ H s):Inv X pins σ H s:=⟨I.ok.km,I.os,I.bare,I.base,I.loc,I.cell,I.free,I.h9,I.pin,I.aI,I.len⟩
theorem SP.km{D:Ends}{f:Flow}{s':Shared}(h:SP (X.my E) pins D f s'):SP X pins D f s':=by
 cases f with
 |next=>obtain⟨σ',H',I,q⟩:=h;exact⟨σ',H',I.km,q⟩
 |brk=>obtain⟨σ',H',I,q⟩:=h;exact⟨σ',H',I.km,q⟩
 |cont=>obtain⟨σ',H',I,q⟩:=h;exact⟨σ',H',I.km,q⟩
 |ret u=>obtain⟨v,σ',H',I,r,q⟩:=h;exact⟨v,σ',H',I.km,r,q⟩
theorem gM.tw{st:List Stmt}{t:TS}(h:gM X.tw st t):gM X st t:=fun pins s σ H D I hw=>
 wpAny_mono (h pins s σ H D (I.my _) hw) (fun _ _ q=>q.km) fun _ _ z=>False.elim z
end
section
variable {X:Cx}{st:Stmt}{rest:List Stmt}{t u:TS}{e:Expr}{te:TE}{pos:Pos}
noncomputable def Ib:TS:=fun D σ H=>D.nx σ H
noncomputable def Ke(t u:TS):TS:=fun D σ H=>t {D with nx:=u D} σ H
theorem DR:gM X [] Ib:=fun _ _ σ H _ I h=>wpAny_execs_nil ⟨σ,H,I,h⟩
theorem BC(h1:PS X st t)(h2:gM X rest u):gM X (st::rest) (Ke t u):=by
 intro pins s σ H D I h
 refine wpAny_execs_cons (bR (h1 pins s σ H {D with nx:=u D} I h) fun f s1 q=>?_)
 cases f with
 |next=>
  obtain⟨σ',H',I',q⟩:=q
  exact h2 pins s1 σ' H' D I' q
 |ret v=>exact q
 |brk=>exact q
 |cont=>exact q
theorem Eg(h1:PS X st t):gM X [st] t:=by
 intro pins s σ H D I h
 refine wpAny_execs_cons (bR (h1 pins s σ H D I h) fun f s1 q=>?_)
 cases f with
 |next=>exact wpAny_execs_nil q
 |ret v=>exact q
 |brk=>exact q
 |cont=>exact q
theorem Inv.quiet{pins:List (Addr×Obj)}{σ:St}{H:Hp}{s:Shared}(I:Inv X pins σ H s):interactive X.env=false:=by simp[interactive,I.ok.kind]
noncomputable def IQ(te:TE):TS:=fun D σ H=>te σ H fun _ H1=>D.nx σ H1
theorem DL(he:PE X e te)(hs:swapsWith e none pos.line X.env=pure false:=by rfl):PS X (.Expr e pos) (IQ te):=by
 intro pins s σ H D I h
 exact wpAny_Expr_any (bR (he pins s σ H _ I h) fun v s1 ⟨x,H1,I1,r1,q1⟩=>⟨σ,H1,I1,q1⟩) I.quiet hs
noncomputable def Kn(te:TE):TS:=fun D σ H=>te σ H D.rt
theorem FW(he:PE X e te):PS X (.Return (some e) pos) (Kn te):=by
 intro pins s σ H D I h
 exact wpAny_Return_some (bR (he pins s σ H _ I h) fun v s1 ⟨x,H1,I1,r1,q1⟩=>⟨x,σ,H1,I1,r1,q1⟩)
noncomputable def KH(c:TT)(t u:TS):TS:=fun D σ H=>c σ H fun b H1=>if b=true then t D σ H1 else u D σ H1
theorem Ie{c:Expr}{a b:List Stmt}{tc:TT}(hc:PT X c tc)(ha:gM X a t)(hb:gM X b u):PS X (.If c a b pos) (KH tc t u):=by
 intro pins s σ H D I h
 refine wpAny_If (bR (hc pins s σ H _ I h) fun d s1 ⟨H1,I1,q1⟩=>?_)
 cases d with
 |true=>exact ha pins s1 σ H1 D I1 q1
 |false=>exact hb pins s1 σ H1 D I1 q1
end
noncomputable abbrev TG:=V→St→Hp→(St→Hp→Prop)→Prop
noncomputable abbrev uW:=List V→St→Hp→(St→Hp→Prop)→Prop
noncomputable def PG(X:Cx)(target:Expr)(t:TG):Prop:=
 ∀(pins:List (Addr×Obj)) (s:Shared) (σ:St) (H:Hp) (v:V) (u:Value) (Q:St→Hp→Prop),Inv X pins σ H s→RelV v u→t v σ H Q→
  wpAny (model X.prog X.w) X.A (assign target X.env u) (fun _ s'=>∃σ' H',Inv X pins σ' H' s'∧Q σ' H') X.xe s
noncomputable def zr(X:Cx)(ts:List Expr)(t:uW):Prop:=
 ∀(pins:List (Addr×Obj)) (s:Shared) (σ:St) (H:Hp) (vs:List V) (us:List Value) (Q:St→Hp→Prop),Inv X pins σ H s→Vals vs us→t vs σ H Q→
  wpAny (model X.prog X.w) X.A (assignInOrder ((assignEach ts X.env).map (·.2)) us) (fun _ s'=>∃σ' H',Inv X pins σ' H' s'∧Q σ' H') X.xe s
noncomputable abbrev BW:=V→V→V→Hp→(Hp→Prop)→Prop
noncomputable def GD(X:Cx)(t:BW):Prop:=
 ∀(pins:List (Addr×Obj)) (s:Shared) (σ:St) (H:Hp) (o i v:V) (ov iv u:Value) (Q:Hp→Prop),Inv X pins σ H s→RelV o ov→RelV i iv→RelV v u→t o i v H Q→
  wpAny (model X.prog X.w) X.A (setItem ov iv u) (fun _ s'=>∃H',Inv X pins σ H' s'∧Q H') X.xe s
noncomputable abbrev C1:=V→V→Hp→VK→Prop
noncomputable def Fl(X:Cx)(op:Operator)(t:C1):Prop:=
 ∀(pins:List (Addr×Obj)) (s:Shared) (σ:St) (H:Hp) (x y:V) (v u:Value) (Q:VK),Inv X pins σ H s→RelV x v→RelV y u→t x y H Q→
  wpAny (model X.prog X.w) X.A (inplaceOp op v u) (EP X pins σ Q) X.xe s
section
variable {X:Cx}{pos:Pos}
noncomputable def jZ(i:Nat):TG:=fun v σ H Q=>Q (σ.set i (some v)) H
theorem sj{i:Nat}{x:Str}(hN:X.N.Nodup)(hi:X.N[i]?=some x)(hx:Loc X.env.scope x)(hf:X.fn x=true∨X.env.scope.names.lookup x=some .local:=by first|exact .inl rfl|exact .inr rfl|assumption):PG X (.Name x pos) (jZ i):=by
 intro pins s σ H v u Q I r h
 exact wpAny_assign_Name (lh I hN hi hx r (fun s' I'=>⟨_,H,I',h⟩) hf)
noncomputable def Bv:uW:=fun vs σ H Q=>vs=[]∧Q σ H
noncomputable def qK(t:TG)(u:uW):uW:=fun vs σ H Q=>∃v r,vs=v::r∧t v σ H fun σ' H'=>u r σ' H' Q
theorem xl:zr X [] Bv:=by
 intro pins s σ H vs us Q I r h
 obtain⟨e,h⟩:=h
 subst e
 cases r
 exact assignInOrder_nil ⟨σ,H,I,h⟩
theorem nO{e:Expr}{es:List Expr}{t:TG}{u:uW}(h1:PG X e t)(h2:zr X es u)
 (hs:(assignEach (e::es) X.env).map (·.2)=assign e X.env::(assignEach es X.env).map (·.2):=by rfl):zr X (e::es) (qK t u):=by
 intro pins s σ H vs us Q I r h
 obtain⟨v,vr,e1,h⟩:=h
 subst e1
 cases r with
 |cons r rr=>
  rw[hs]
  refine assignInOrder_cons (bR (h1 pins s σ H _ _ _ I r h) fun _ s1 ⟨σ1,H1,I1,q1⟩=>?_)
  exact h2 pins s1 σ1 H1 _ _ Q I1 rr q1
noncomputable def Fb(K:PySem.W.Frag)(n:Nat)(t:uW):TG:=fun v σ H Q=>∃a xs,v= .ref a∧ir K H a xs∧xs.length=n∧t xs σ H Q
theorem As{es:List Expr}{k:Nat}{t:uW}{n:Nat}(hc:X.calm=true)(h:zr X es t)
 (hn:(assignEach es X.env).length=n:=by rfl) (hst:(assignEach es X.env).findIdx? (·.1)=none:=by rfl):PG X (.Tuple es k pos) (Fb X.K n t):=by
 intro pins s σ H v u Q I r hw
 obtain⟨a,xs,e1,hq,hl,hw⟩:=hw
 subst e1
 cases r
 obtain⟨its,rv,ht,hz⟩:=I.tuple hq
 refine assign_Tuple_tuple (I.ok.hd hc) ht (by simp[hn,←hl,rv.length]) hst fun h' hx=>?_
 have I1:Inv X pins σ H {s with heap:=h'}:=I.kept (t':=s.toks) fun b o e=>hx b o (Nat.ne_of_lt (Heap.lt_size e)) e
 exact h pins _ σ H xs _ Q I1 (by simpa using rv) hw
noncomputable def sE(to ti:TE)(t:BW):TG:=fun v σ H Q=>to σ H fun o H1=>ti σ H1 fun i H2=>t o i v H2 fun H3=>Q σ H3
theorem qH{o i:Expr}{to ti:TE}{t:BW}(ho:PE X o to)(hi:PE X i ti)(hs:GD X t)
 (ha:∀v,assign (.Subscript o i pos) X.env v=(do
   let ov ←holding [v] (eval o X.env)
   let iv ←holding [v,ov] (eval i X.env)
   standAt pos
   holding [v,ov,iv] (setItem ov iv v)
   release [v,ov,iv] []):=by intro _;rfl):PG X (.Subscript o i pos) (sE to ti t):=by
 intro pins s σ H v u Q I r h
 rw[ha]
 refine wpAny_bind (wpAny_holding (bR (ho pins s σ H _ I h) fun ov s1 ⟨x,H1,I1,r1,q1⟩=>?_))
 refine wpAny_bind (wpAny_holding (bR (hi pins s1 σ H1 _ I1 q1) fun iv s2 ⟨y,H2,I2,r2,q2⟩=>?_))
 refine wpAny_bind (wpAny_standAt (wpAny_bind (wpAny_holding (bR (hs pins s2 σ H2 x y v ov iv u _ I2 r1 r2 r q2) fun _ s3 ⟨H3,I3,q3⟩=>?_))))
 exact wpAny_release ⟨σ,H3,I3,q3⟩
noncomputable def jV(te:TE)(g:TG):TS:=fun D σ H=>te σ H fun x H1=>g x σ H1 D.nx
theorem rL{tg e:Expr}{te:TE}{g:TG}(he:PE X e te)(hg:PG X tg g)(hs:swapsWithSole [tg] e pos.line X.env=pure false:=by rfl)(hw:swappedStores [tg] e X.env=pure none:=by rfl)
 (h1:(assignEach [tg] X.env).map (·.2)=[assign tg X.env]:=by rfl):PS X (.Assign [tg] e pos) (jV te g):=by
 intro pins s σ H D I h
 refine wpAny_Assign_stores (bR (he pins s σ H _ I h) fun v s1 ⟨x,H1,I1,r1,q1⟩=>?_) hs hw
 rw[h1]
 exact bR (hg pins s1 σ H1 x v _ I1 r1 q1) fun _ s2 q=>q
theorem zI{i:Nat}{x:Str}{e:Expr}{te:TE}{pos':Pos}(hN:X.N.Nodup)(hi:X.N[i]?=some x)(hx:Loc X.env.scope x)(he:PE X e te)(hs:swapsWith e (some (.Name x pos')) pos.line X.env=pure false:=by rfl)(hf:X.fn x=true∨X.env.scope.names.lookup x=some .local:=by first|exact .inl rfl|exact .inr rfl|assumption):
 PS X (.Assign [.Name x pos'] e pos) (jV te (jZ i)):=by
 intro pins s σ H D I h
 refine wpAny_Assign_Name (bR (he pins s σ H _ I h) fun v s1 ⟨y,H1,I1,r1,q1⟩=>?_) hs
 exact lh I1 hN hi hx r1 (fun s2 I2=>⟨_,H1,I2,q1⟩) hf
noncomputable def GW(i j:Nat)(ta:TA):TS:=fun D σ H=>ta σ H fun vs H1=>∃v w,vs=[v,w]∧D.nx ((σ.set i (some v)).set j (some w)) H1
theorem FY{i j:Nat}{x y:Str}{a b:Expr}{ta:TA}{px py pt:Pos}{kt k2 pt2}(hc:X.calm=true)(hN:X.N.Nodup)(hi:X.N[i]?=some x)(hj:X.N[j]?=some y)(hij:i≠j)
 (hx:X.env.scope.names.lookup x=some .local) (hy:X.env.scope.names.lookup y=some .local) (ha:PA X [a,b] ta)
 (hw:swappedStores [.Tuple [.Name x px,.Name y py] kt pt] (.Tuple [a,b] k2 pt2) X.env=pure (some [x,y]))
 (hs:swapsWithSole [.Tuple [.Name x px,.Name y py] kt pt] (.Tuple [a,b] k2 pt2) pos.line X.env=pure false:=by rfl):
 PS X (.Assign [.Tuple [.Name x px,.Name y py] kt pt] (.Tuple [a,b] k2 pt2) pos) (GW i j ta):=by
 intro pins s σ H D I h
 rw[exec_Assign_arm]
 refine wpAny_bind (wpAny_standAt ?_)
 rw[hs]
 refine wpAny_bind (wpAny_pure ?_)
 rw[if_neg (by decide)]
 refine wpAny_bind (Tuple_ (bR (ha _ pins s σ H _ I h) fun us s1 ⟨vs,H1,I1,r1,q1⟩=>?_))
 obtain⟨v,w,e1,q1⟩:=q1
 subst e1
 obtain⟨u1,u2,rfl,rv,rw'⟩:∃u1 u2,us=[u1,u2]∧RelV v u1∧RelV w u2:=by
  cases r1 with
  |cons p q=>
   cases q with
   |cons p' q'=>
    cases q'
    exact⟨_,_,rfl,p,p'⟩
 refine wpAny_newObj_type ?_ (by show 2≤sizeLine;decide)
 have I2:Inv X pins σ H1 {s1 with heap:=s1.heap.push {cls:= .type "tuple",data:= .seq [u1,u2].toArray}}:=I1.kept (t':=s1.toks) fun b o e=>Heap.get?_push_of_some _ e
 rw[hw]
 refine wpAny_bind (wpAny_pure ?_)
 show wpAny (model X.prog X.w) X.A (do rule "assign.swapped-stores";let items ←unpackItems (.ref s1.heap.objs.size) 2 none;assignInOrder [fun v=>bindName X.env y v,fun v=>bindName X.env x v] items.reverse;pure Flow.next) _ _ _
 refine wpAny_bind (wpAny_rule (wpAny_bind (unpackItems_tuple (items:= #[u1,u2]) (I.ok.hd hc) (IsTup.new s1.heap _) fun h' hx'=>?_)))
 have I3:=I2.kept (h':=h') (t':=s1.toks) fun b o e=>hx' b o (Nat.ne_of_lt (Heap.lt_size e)) e
 show wpAny _ _ (assignInOrder [fun v=>bindName X.env y v,fun v=>bindName X.env x v] [u2,u1] >>= fun _=>pure Flow.next) _ _ _
 refine wpAny_bind (assignInOrder_cons (wpAny_bindName (lh I3 hN hj (.inl hy) rw' (fun s2 I4=>?_) (.inr hy))))
 refine assignInOrder_cons (wpAny_bindName (lh I4 hN hi (.inl hx) rv (fun s3 I5=>assignInOrder_nil (wpAny_pure ?_)) (.inr hx)))
 rw[List.set_comm _ _ (Ne.symm hij)]at I5
 exact⟨_,H1,I5,q1⟩
noncomputable def Ge(i:Nat)(te:TE)(ti:C1):TS:=fun D σ H=>∃x,σ[i]?=some (some x)∧te σ H fun y H1=>ti x y H1 fun z H2=>D.nx (σ.set i (some z)) H2
theorem HH{i:Nat}{x:Str}{e:Expr}{te:TE}{op:Operator}{ti:C1}{pos':Pos}(hN:X.N.Nodup)(hi:X.N[i]?=some x)(hx:Loc X.env.scope x)(he:PE X e te)(ho:Fl X op ti)(hf:X.fn x=true∨X.env.scope.names.lookup x=some .local:=by first|exact .inl rfl|exact .inr rfl|assumption):
 PS X (.AugAssign (.Name x pos') op e pos) (Ge i te ti):=by
 intro pins s σ H D I h
 obtain⟨v,e1,h⟩:=h
 obtain⟨m,hn,hl⟩:=I.loc
 have vis:vc X.env.scope x:=by rcases hx with k|k;exact .inl k;exact .inr (.inl k)
 obtain⟨u,r,l⟩:=hl i x v hi e1 vis
 refine wpAny_AugAssign_Name ?_
 have go:wpAny (model X.prog X.w) X.A (eval e X.env) (fun w s₂=>wpAny (model X.prog X.w) X.A (inplaceOp op u w) (fun r s₃=>wpAny (model X.prog X.w) X.A (storeName X.env x r) (fun _=>SP X pins D .next) X.xe s₃) X.xe s₂) X.xe s:=by
  refine bR (he pins s σ H _ I h) fun w s1 ⟨y,H1,I1,r1,q1⟩=>?_
  refine bR (ho pins s1 σ H1 v y u w _ I1 r r1 q1) fun z s2 ⟨zv,H2,I2,r2,q2⟩=>?_
  exact lh I2 hN hi hx r2 (fun s3 I3=>⟨_,H2,I3,q2⟩) hf
 rcases l with⟨hk,hm⟩|⟨hk,c,hc,hcell⟩
 · exact wpAny_loadName_local I.ok.kind hk hn hm go
 · rcases hk with hk|hk
   · exact wpAny_loadName_cell I.ok.kind hk hc hcell go
   · rcases hx with k|k
     · have:X.env.scope.names.lookup x=some .free:=hk
       rw[k]at this;cases this
     · have:X.env.scope.names.lookup x=some .free:=hk
       rw[k]at this;cases this
noncomputable def Gx(f:Int→Int→Int):C1:=fun x y H Q=>∃i j,x= .int i∧y= .int j∧Q (.int (f i j)) H
theorem Hr:Fl X .Add (Gx fun i j=>i+j):=by
 intro pins s σ H x y v u Q I r1 r2 h
 obtain⟨i,j,e1,e2,q⟩:=h
 subst e1;subst e2
 obtain⟨t,rfl⟩:=r1
 obtain⟨t',rfl⟩:=r2
 exact iadd_int ⟨.int _,H,I.tok _,⟨_,rfl⟩,q⟩
end
section
variable {X:Cx}{pos:Pos}
noncomputable def zZ(c:TT)(tb:TS):TS:=fun D σ H=>∃W:Nat→St→Hp→Prop,(∃m,W m σ H)∧∀m σ H,W m σ H→
 c σ H fun b H1=>if b=true then∃N:St→Hp→Prop,(∀σ' H',N σ' H'→∃m',m'<m∧W m' σ' H')∧tb {D with nx:=N,ct:=N,bk:=D.nx} σ H1 else D.nx σ H1
theorem A8{c:Expr}{body:List Stmt}{tc:TT}{tb:TS}(hp:PassesOwn (model X.prog X.w) X.A X.env X.xe)(hc:PT X c tc)(hb:gM X body tb):PS X (.While c body [] pos) (zZ tc tb):=by
 intro pins s σ H D I h
 obtain⟨W,⟨m0,w0⟩,turn⟩:=h
 refine wpAny_While (codeAny_whileLoop (fun n s'=>∃σ' H',Inv X pins σ' H' s'∧W n σ' H') ?_ m0 ⟨σ,H,I,w0⟩)
 rintro n s1 ⟨σ1,H1,I1,w1⟩
 refine wpAny_passesOwn hp (bR (hc pins s1 σ1 H1 _ I1 (turn n σ1 H1 w1)) fun b s2 ⟨H2,I2,q2⟩=>?_)
 cases b with
 |true=>
  obtain⟨N,hN,q2⟩:=q2
  rw[if_pos rfl]
  refine wpAny_passesOwn hp (bR (hb pins s2 σ1 H2 _ I2 q2) fun f s3 q3=>?_)
  cases f with
  |next=>
   obtain⟨σ3,H3,I3,n3⟩:=q3
   obtain⟨m',hm,w3⟩:=hN σ3 H3 n3
   exact⟨m',hm,σ3,H3,I3,w3⟩
  |cont=>
   obtain⟨σ3,H3,I3,n3⟩:=q3
   obtain⟨m',hm,w3⟩:=hN σ3 H3 n3
   exact⟨m',hm,σ3,H3,I3,w3⟩
  |brk=>exact q3
  |ret v=>exact q3
 |false=>
  rw[if_neg Bool.false_ne_true]
  exact wpAny_execs_nil ⟨σ1,H2,I2,q2⟩
end
structure It where
 go:Nat→Hp→Prop
 mS:Nat→Hp→V→Hp→Prop
 stop:Nat→Hp→Prop
noncomputable def jX(X:Cx)(pins:List (Addr×Obj))(H:Hp)(b:Addr):Prop:=
 H b=none∧b≠X.env.locals∧b∉X.fs∧(b∈X.ex∨X.s₀.heap.objs.size≤b)∧(∀x c,X.env.cells.lookup x=some c→c≠b)∧∀p∈X.pn++pins,p.1≠b
theorem Inv.sJ{X:Cx}{pins:List (Addr×Obj)}{σ:St}{H H':Hp}{s:Shared}{b:Addr}(I:Inv X pins σ H s)(hb:s.heap.objs.size≤b)(hn:H' b=none):jX X pins H' b:=by
 refine⟨hn,Nat.ne_of_gt (Nat.lt_of_lt_of_le I.lt hb),I.Gi hb,.inr (Nat.le_trans I.sz hb),fun x c e z=>?_,fun p hp z=>?_⟩
 · obtain⟨v,q⟩:=I.cell x c e
   exact absurd (Nat.lt_of_lt_of_le q.lt (by rw[z];exact hb)) (Nat.lt_irrefl _)
 · exact absurd (Nat.lt_of_lt_of_le (Heap.lt_size (I.pin p hp).1) (by rw[z];exact hb)) (Nat.lt_irrefl _)
structure Turn(P:Program)(w:World)(K:PySem.W.Frag)(tg:Expr)(J:It)(fp:List Addr)(it:Addr)(tn:Nat→Heap→Prop):Prop where
 mem:it∈fp
 obj:∀i h,tn i h→∀b∈fp,∃o,h.get? b=some o∧∀v,o.data≠ .cell v
 keep:∀i h h',tn i h→(∀b∈fp,∀o,h.get? b=some o→h'.get? b=some o)→tn i h'
 item:∀(X:Cx),X.prog=P→X.w=w→X.K=K→X.calm=true→∀(i:Nat) (pins:List (Addr×Obj)) (s:Shared) (σ:St) (H:Hp) (E:Value→Shared→Prop),Inv X pins σ H s→(∀b∈fp,jX X pins H b)→tn i s.heap→J.go i H→
  wpAny (model P w) X.A (pyNext (.ref it)) (fun r s1=>∃u,r=some u∧
   wpAny (model P w) X.A (letOwnedTupleGo tg (.ref it) u) (fun _ s2=>∃x H',Inv X pins σ H' s2∧RelV x u∧J.mS i H x H'∧tn (i+1) s2.heap∧∀b∈fp,H' b=none) E s1) E s
 done:∀(X:Cx),X.prog=P→X.w=w→X.K=K→X.calm=true→∀(i:Nat) (pins:List (Addr×Obj)) (s:Shared) (σ:St) (H:Hp) (E:Value→Shared→Prop),Inv X pins σ H s→(∀b∈fp,jX X pins H b)→tn i s.heap→J.stop i H→
  wpAny (model P w) X.A (pyNext (.ref it)) (fun r s1=>r=none∧Inv X pins σ H s1) E s
 self:∀(A:Around) (i:Nat) (s:Shared) (Q:Value→Shared→Prop) (E:Value→Shared→Prop),tn i s.heap→Q (.ref it) s→wpAny (model P w) A (pyIter (.ref it)) Q E s
noncomputable abbrev TI:=St→Hp→(It→Hp→Prop)→Prop
noncomputable def CN(X:Cx)(pins:List (Addr×Obj))(σ:St)(tg:Expr)(R:It→Hp→Prop)(itv:Value)(s2:Shared):Prop:=
 ∃(it:Addr) (fp:List Addr) (tn:Nat→Heap→Prop) (J:It) (H':Hp),itv= .ref it∧Inv X pins σ H' s2∧Turn X.prog X.w X.K tg J fp it tn∧tn 0 s2.heap∧(∀b∈fp,jX X pins H' b)∧R J H'
noncomputable def PI(X:Cx)(tg iter:Expr)(wi:TI):Prop:=
 ∀(pins:List (Addr×Obj)) (s:Shared) (σ:St) (H:Hp) (R:It→Hp→Prop),Inv X pins σ H s→wi σ H R→
  wpAny (model X.prog X.w) X.A (eval iter X.env) (fun v s1=>wpAny (model X.prog X.w) X.A (pyIter v) (CN X pins σ tg R) X.xe s1) X.xe s
theorem yd{M:Model}{A:Around}{E:Value→Shared→Prop}{s:Shared}{tg:Expr}{it:Addr}{u:Value}{o:Obj}{n:String}{vs:Array Value}{Q:Unit→Shared→Prop}(ho:s.heap.get? it=some o)(hc:o.cls= .type n)(hd:o.data= .fields vs)
 (hn: ["enumerate","zip","dict_itemiterator","dict_reverseitemiterator","odict_iterator","itertools.zip_longest","itertools.pairwise"].contains n=false) (hQ:Q () s):wpAny M A (letOwnedTupleGo tg (.ref it) u) Q E s:=by
 unfold letOwnedTupleGo
 cases tg<;>first
  |exact wpAny_pure hQ
  |(cases u<;>first
     |exact wpAny_pure hQ
     |(refine wpAny_bind (wpAny_load ho ?_)
       rw[hc,hd]
       show wpAny M A (if(["enumerate","zip","dict_itemiterator","dict_reverseitemiterator","odict_iterator","itertools.zip_longest","itertools.pairwise"].contains n&&vs[0]?==some (rawInt _))=true then _ else _) Q E s
       rw[if_neg (by intro h;rw[hn,Bool.false_and]at h;cases h)]
       exact wpAny_pure hQ))
noncomputable def Hj(K:PySem.W.Frag)(a:Addr):It:=
 ⟨fun i H=>∃xs x,kb K H a xs∧xs[i]?=some x,fun i H x H'=>H'=H∧∀xs,kb K H a xs→xs[i]?=some x,fun i H=>∃xs,kb K H a xs∧xs.length≤i⟩
noncomputable def G_(K:PySem.W.Frag)(a:Addr):It:=
 ⟨fun i H=>∃xs x,ir K H a xs∧xs[i]?=some x,fun i H x H'=>H'=H∧∀xs,ir K H a xs→xs[i]?=some x,fun i H=>∃xs,ir K H a xs∧xs.length≤i⟩
noncomputable def tD(lo:Int)(n:Nat):It:=⟨fun i _=>i<n,fun i H x H'=>H'=H∧x= .int (lo+i),fun i _=>n≤i⟩
theorem zB{P:Program}{w:World}{K:PySem.W.Frag}{tg:Expr}(a it:Addr):Turn P w K tg (Hj K a) [it] it (fun i h=>h.IsListIter it a i) where
 mem:=by simp
 obj:=fun i h st b hb=>by
  have e:b=it:=by simpa using hb
  subst e
  obtain⟨o,e,c,d⟩:=st
  exact⟨o,e,fun v z=>by rw[d]at z;cases z⟩
 keep:=fun i h h' st k=>st.at fun o e=>k it (by simp) o e
 item:=by
  intro X hP hw hK hc i pins s σ H E I hf st hg
  subst hP hw hK
  obtain⟨xs,x,hq,hx⟩:=hg
  obtain⟨its,rv,p,hz⟩:=I.list hq
  obtain⟨u,hu,ru⟩:=rv.get hx
  obtain⟨f0,f1,f2,f3,f4,f5⟩:=hf it (by simp)
  refine wpAny_pyNext_list_item st p.isList (x:=u) (by simpa using hu) fun h' st' sb=>?_
  have I1:Inv X pins σ H {s with heap:=h'}:=I.turned (t':=s.toks) (fun b o hb e=>(sb.2 b hb).trans e) f0 f1 f3 f4 f5
  obtain⟨o,e,c,d⟩:=id st'
  exact⟨u,rfl,yd (s:={s with heap:=h'}) e c d (by decide) ⟨x,H,I1,ru,⟨rfl,fun ys hy=>by rw[I.vd hy hq];exact hx⟩,st',fun b hb=>(hf b hb).1⟩⟩
 done:=by
  intro X hP hw hK hc i pins s σ H E I hf st hg
  subst hP hw hK
  obtain⟨xs,hq,hx⟩:=hg
  obtain⟨its,rv,p,hz⟩:=I.list hq
  obtain⟨f0,f1,f2,f3,f4,f5⟩:=hf it (by simp)
  have hl:=rv.length
  exact wpAny_pyNext_list_end (I.ok.hd hc) st p.isList (by simp;(first|lia|omega)) fun h' eb=>⟨rfl,I.turned (t':=s.toks) (fun b o hb e=>eb b o hb e) f0 f1 f3 f4 f5⟩
 self:=fun _ _ _ _ _ st h=>wpAny_pyIter_listiter st h
theorem yp{P:Program}{w:World}{K:PySem.W.Frag}{tg:Expr}(a it:Addr):Turn P w K tg (G_ K a) [it] it (fun i h=>h.IsTupleIter it a i) where
 mem:=by simp
 obj:=fun i h st b hb=>by
  have e:b=it:=by simpa using hb
  subst e
  obtain⟨o,e,c,d⟩:=st
  exact⟨o,e,fun v z=>by rw[d]at z;cases z⟩
 keep:=fun i h h' st k=>st.at fun o e=>k it (by simp) o e
 item:=by
  intro X hP hw hK hc i pins s σ H E I hf st hg
  subst hP hw hK
  obtain⟨xs,x,hq,hx⟩:=hg
  obtain⟨its,rv,p,hz⟩:=I.tuple hq
  obtain⟨u,hu,ru⟩:=rv.get hx
  obtain⟨f0,f1,f2,f3,f4,f5⟩:=hf it (by simp)
  refine wpAny_pyNext_tuple_item st (show s.heap.IsTuple a its.toArray from p) (x:=u) (by simpa using hu) fun h' st' sb=>?_
  have I1:Inv X pins σ H {s with heap:=h'}:=I.turned (t':=s.toks) (fun b o hb e=>(sb.2 b hb).trans e) f0 f1 f3 f4 f5
  obtain⟨o,e,c,d⟩:=id st'
  exact⟨u,rfl,yd (s:={s with heap:=h'}) e c d (by decide) ⟨x,H,I1,ru,⟨rfl,fun ys hy=>by rw[I.td hy hq];exact hx⟩,st',fun b hb=>(hf b hb).1⟩⟩
 done:=by
  intro X hP hw hK hc i pins s σ H E I hf st hg
  subst hP hw hK
  obtain⟨xs,hq,hx⟩:=hg
  obtain⟨its,rv,p,hz⟩:=I.tuple hq
  obtain⟨f0,f1,f2,f3,f4,f5⟩:=hf it (by simp)
  have hl:=rv.length
  exact wpAny_pyNext_tuple_end (I.ok.hd hc) st (show s.heap.IsTuple a its.toArray from p) (by simp;(first|lia|omega)) fun h' eb=>⟨rfl,I.turned (t':=s.toks) (fun b o hb e=>eb b o hb e) f0 f1 f3 f4 f5⟩
 self:=fun _ _ _ _ _ st h=>wpAny_pyIter_tupleiter st h
theorem x_{P:Program}{w:World}{K:PySem.W.Frag}{tg:Expr}(it:Addr)(lo:Int)(n:Nat):Turn P w K tg (tD lo n) [it] it (fun i h=>IsRangeIter h it (lo+(i:Nat)*1) ((n:Int)-(i:Nat)) 1) where
 mem:=by simp
 obj:=fun i h st b hb=>by
  have e:b=it:=by simpa using hb
  subst e
  exact⟨_,st,fun v z=>by
   have z':Data.fields _=Data.cell v:=z
   cases z'⟩
 keep:=fun i h h' st k=>k it (by simp) _ st
 item:=by
  intro X hP hw hK hc i pins s σ H E I hf st hg
  subst hP hw hK
  obtain⟨f0,f1,f2,f3,f4,f5⟩:=hf it (by simp)
  have W:=Walks.range (prog:=X.prog) (w:=X.w) (I.ok.hd hc) it lo 1 n
  refine W.item i s _ _ hg st fun v h' tk hv st' kk=>?_
  obtain⟨t,rfl⟩:=hv
  have I1:Inv X pins σ H {s with heap:=h',toks:=tk}:=I.turned (fun b o hb e=>kk b o (by simpa using hb) e) f0 f1 f3 f4 f5
  refine⟨_,rfl,yd (s:={s with heap:=h',toks:=tk}) (n:="range_iterator") st' rfl rfl (by decide) ⟨.int (lo+i),H,I1,⟨t,?_⟩,⟨rfl,rfl⟩,st',fun b hb=>(hf b hb).1⟩⟩
  rw[Int.mul_one]
 done:=by
  intro X hP hw hK hc i pins s σ H E I hf st hg
  subst hP hw hK
  obtain⟨f0,f1,f2,f3,f4,f5⟩:=hf it (by simp)
  exact wpAny_pyNext_range_end (I.ok.hd hc) st (by have:n≤i:=hg;(first|lia|omega)) fun h' eb=>⟨rfl,I.turned (t':=s.toks) (fun b o hb e=>eb b o hb e) f0 f1 f3 f4 f5⟩
 self:=fun _ _ _ _ _ st h=>wpAny_pyIter_rangeiter st h
end L2
namespace L2
open PySem PySem.Spec PyProof.Rows
section
variable {X:Cx}{tg:Expr}
theorem u_{pins:List (Addr×Obj)}{σ:St}{H:Hp}{s:Shared}{R:It→Hp→Prop}{E:Value→Shared→Prop}{lo hi:Int}{t u v:Tok}{tk:Nat}(I:Inv X pins σ H s)(h1: -(2^62)≤lo)(h2:lo<2^62)(h3: -(2^62)≤hi)(h4:hi<2^62)
 (q:R (tD lo (hi-lo).toNat) H):wpAny (model X.prog X.w) X.A (pyIter (.ref s.heap.objs.size)) (CN X pins σ tg R) E {s with heap:=s.heap.push {cls:= .type "range",data:= .fields #[.int lo t,.int hi u,.int 1 v]},toks:=tk}:=by
 refine wpAny_pyIter_range (IsRange.new ..) (small_one h1 h2 h3 h4) ?_
 have I1:Inv X pins σ H {s with heap:=s.heap.push {cls:= .type "range",data:= .fields #[.int lo t,.int hi u,.int 1 v]},toks:=tk}:=I.kept fun b o e=>Heap.get?_push_of_some _ e
 refine⟨(s.heap.push {cls:= .type "range",data:= .fields #[.int lo t,.int hi u,.int 1 v]}).objs.size,[(s.heap.push {cls:= .type "range",data:= .fields #[.int lo t,.int hi u,.int 1 v]}).objs.size],_,_,H,rfl,
  I1.kept (t':=tk) fun b o e=>Heap.get?_push_of_some _ e,x_ _ lo (hi-lo).toNat,?_,fun b hb=>?_,q⟩
 · have e1:lo+((0:Nat):Int)*1=lo:=by simp
   have e2:(((hi-lo).toNat:Nat):Int)-((0:Nat):Int)=Builtin.Range.rangeSize lo hi 1:=by rw[rangeSize_one];split<;>(first|lia|omega)
   show IsRangeIter _ _ (lo+((0:Nat):Int)*1) ((((hi-lo).toNat:Nat):Int)-((0:Nat):Int)) 1
   rw[e1,e2]
   exact Heap.get?_push_size _ rfl
 · have e:b=(s.heap.push {cls:= .type "range",data:= .fields #[.int lo t,.int hi u,.int 1 v]}).objs.size:=by simpa using hb
   subst e
   exact I1.sJ (Nat.le_refl _) (I1.aI.fresh (Nat.le_refl _))
noncomputable def yq(ta:TA):TI:=fun σ H R=>ta σ H fun vs H1=>∃j:Int,vs=[.int j]∧ -(2^62)≤j∧j<2^62∧R (tD 0 j.toNat) H1
noncomputable def yH(ta:TA):TI:=fun σ H R=>ta σ H fun vs H1=>∃i j:Int,vs=[.int i,.int j]∧(-(2^62)≤i∧i<2^62∧ -(2^62)≤j∧j<2^62)∧R (tD i (j-i).toNat) H1
theorem zE{a:Expr}{ta:TA}{p pos:Pos}(hg:Gl X "range")(hm:X.mg "range"=none)(ha:PA X [a] ta)(hs:starEach [a] X.env=[(false,eval a X.env)]:=by rfl):PI X tg (.Call (.Name "range" p) [a] [] pos) (yq ta):=by
 intro pins s σ H R I h
 refine Call_ (kg I hg hm boot_range (PyProof.Rows.callWith_type1 (bR (ha pos pins s σ H _ I h) fun us s1 ⟨vs,H1,I1,r1,q1⟩=>?_) hs rfl))
 obtain⟨j,e,q1,q2,q⟩:=q1
 subst e
 cases r1 with
 |cons r rr=>
  cases rr
  obtain⟨t,rfl⟩:=r
  exact call_range_1 (u_ I1 (by(first|lia|omega)) (by(first|lia|omega)) q1 q2 (by simpa using q))
theorem zg{a b:Expr}{ta:TA}{p pos:Pos}(hg:Gl X "range")(hm:X.mg "range"=none)(ha:PA X [a,b] ta)(hs:starEach [a,b] X.env=[(false,eval a X.env),(false,eval b X.env)]:=by rfl)(hs2:starEach [b] X.env=[(false,eval b X.env)]:=by rfl):
 PI X tg (.Call (.Name "range" p) [a,b] [] pos) (yH ta):=by
 intro pins s σ H R I h
 refine Call_ (kg I hg hm boot_range (PyProof.Rows.callWith_type1 (bR (ha pos pins s σ H _ I h) fun us s1 ⟨vs,H1,I1,r1,q1⟩=>?_) (by rw[hs,hs2]) (by rw[hs2];rfl)))
 obtain⟨i,j,e,⟨q1,q2,q3,q4⟩,q⟩:=q1
 subst e
 cases r1 with
 |cons r rr=>
  cases rr with
  |cons r' rr=>
   cases rr
   obtain⟨t,rfl⟩:=r
   obtain⟨t',rfl⟩:=r'
   exact call_range_2 (u_ I1 q1 q2 q3 q4 q)
noncomputable def Fg(wi:TI)(g:TG)(tb:TS):TS:=fun D σ H=>wi σ H fun J H1=>∃W:Nat→Nat→St→Hp→Prop,(∃m,W 0 m σ H1)∧∀i m σ H,W i m σ H→
 (J.stop i H∧D.nx σ H)∨(J.go i H∧∃N:St→Hp→Prop,(∀σ' H',N σ' H'→∃m',m'<m∧W (i+1) m' σ' H')∧∀x H',J.mS i H x H'→g x σ H' fun σ2 H2=>tb {D with nx:=N,ct:=N,bk:=D.nx} σ2 H2)
noncomputable def oV(fp:List Addr)(h:Heap):List (Addr×Obj):=fp.filterMap fun b=>(h.get? b).map fun o=>(b,o)
theorem kP{fp:List Addr}{h:Heap}{b:Addr}{o:Obj}(hb:b∈fp)(e:h.get? b=some o):(b,o)∈oV fp h:=List.mem_filterMap.mpr ⟨b,hb,by rw[e];rfl⟩
theorem Av{fp:List Addr}{h:Heap}{p:Addr×Obj}(hp:p∈oV fp h):p.1∈fp∧h.get? p.1=some p.2:=by
 obtain⟨b,hb,e⟩:=List.mem_filterMap.mp hp
 cases q:h.get? b with
 |none=>rw[q]at e;cases e
 |some o=>
  rw[q]at e
  have e':(b,o)=p:=Option.some.inj e
  subst e'
  exact⟨hb,q⟩
theorem Inv.pinned{pins:List (Addr×Obj)}{σ:St}{H:Hp}{s:Shared}{fp:List Addr}(I:Inv X pins σ H s)(hf:∀b∈fp,jX X pins H b)(ho:∀b∈fp,∃o,s.heap.get? b=some o∧∀v,o.data≠ .cell v):Inv X (pins++oV fp s.heap) σ H s:=
 I.o9 fun p hp=>(List.mem_append.mp hp).elim (fun z=>I.pin p (List.mem_append_right _ z)) fun z=>by
  obtain⟨hb,e⟩:=Av z
  obtain⟨f0,f1,f2,_⟩:=hf p.1 hb
  obtain⟨o,e',d⟩:=ho p.1 hb
  rw[e]at e';cases e'
  exact⟨e,f0,f1,f2,d⟩
theorem Inv.gS{pins pl:List (Addr×Obj)}{σ:St}{H:Hp}{s:Shared}(I:Inv X (pins++pl) σ H s):Inv X pins σ H s:=I.o9 fun p hp=>I.pin p (List.mem_append_right _ (List.mem_append_left _ hp))
theorem Fe{iter:Expr}{body:List Stmt}{wi:TI}{g:TG}{tb:TS}{pos:Pos}(hp:PassesOwn (model X.prog X.w) X.A X.env X.xe)(hc:X.calm=true)(hi:PI X tg iter wi)(hg:PG X tg g)(hb:gM X body tb)
 (hs:∀x,foldedSetIterable iter X.env x=pure x:=by intro _;rfl):PS X (.For tg iter body [] pos) (Fg wi g tb):=by
 intro pins s σ H D I h
 refine wpAny_For (bR (hi pins s σ H _ I h) fun v s1 h1=>bR h1 fun itv s2 h2=>?_) hs
 obtain⟨it,fp,tn,J,H2,e,I2,T,st2,f2,W,⟨m0,w0⟩,turn⟩:=h2
 subst e
 have stat:∀ {H':Hp},(∀b∈fp,H' b=none)→∀b∈fp,jX X pins H' b:=fun hn b hb=>⟨hn b hb,(f2 b hb).2⟩
 refine codeAny_forLoop_any (fun n s'=>∃i σ' H',Inv X pins σ' H' s'∧tn i s'.heap∧(∀b∈fp,H' b=none)∧W i n σ' H') ?_ m0 ⟨0,σ,H2,I2,st2,fun b hb=>(f2 b hb).1,w0⟩
 rintro n s3 ⟨i,σ3,H3,I3,st3,fr3,w3⟩
 rcases turn i n σ3 H3 w3 with⟨stop,qn⟩|⟨go,N,hN,step⟩
 · refine wpAny_passesOwn hp (bR (T.done X rfl rfl rfl hc i pins s3 σ3 H3 X.xe I3 (stat fr3) st3 stop) fun r s4 ⟨hr,I4⟩=>?_)
   subst hr
   exact wpAny_execs_nil ⟨σ3,H3,I4,qn⟩
 · refine wpAny_passesOwn hp (bR (T.item X rfl rfl rfl hc i pins s3 σ3 H3 X.xe I3 (stat fr3) st3 go) fun r s4 ⟨u,hr,h4⟩=>?_)
   subst hr
   refine wpAny_passesOwn hp (bR h4 fun _ s5 ⟨x,H5,I5,r5,y5,st5,fr5⟩=>?_)
   have I5':=I5.pinned (stat fr5) (T.obj _ _ st5)
   refine wpAny_passesOwn hp (bR (hg _ s5 σ3 H5 x u _ I5' r5 (step x H5 y5)) fun _ s6 ⟨σ6,H6,I6,q6⟩=>?_)
   refine wpAny_passesOwn hp (bR (hb _ s6 σ6 H6 _ I6 q6) fun f s7 q7=>?_)
   have again:∀ {σ7:St} {H7:Hp},Inv X (pins++oV fp s5.heap) σ7 H7 s7→N σ7 H7→∃m,m<n∧∃i σ' H',Inv X pins σ' H' s7∧tn i s7.heap∧(∀b∈fp,H' b=none)∧W i m σ' H':=fun{σ7 H7} I7 n7=>by
    obtain⟨m',hm,w7⟩:=hN σ7 H7 n7
    refine⟨m',hm,i+1,σ7,H7,I7.gS,T.keep _ _ _ st5 fun b hb o e=>(I7.pin (b,o) (List.mem_append_right _ (List.mem_append_right _ (kP hb e)))).1,fun b hb=>?_,w7⟩
    obtain⟨o,e,d⟩:=T.obj _ _ st5 b hb
    exact(I7.pin (b,o) (List.mem_append_right _ (List.mem_append_right _ (kP hb e)))).2.1
   cases f with
   |next=>obtain⟨σ7,H7,I7,n7⟩:=q7;exact again I7 n7
   |cont=>obtain⟨σ7,H7,I7,n7⟩:=q7;exact again I7 n7
   |brk=>obtain⟨σ7,H7,I7,q7⟩:=q7;exact⟨σ7,H7,I7.gS,q7⟩
   |ret v=>obtain⟨x7,σ7,H7,I7,r7,q7⟩:=q7;exact⟨x7,σ7,H7,I7.gS,r7,q7⟩
end
theorem gL{lo:Int}{n:Nat}{g:TG}{tb:TS}{D:Ends}{σ:St}{H:Hp}(Pv:Nat→St→Hp→Prop)(h0:Pv 0 σ H)
 (hs:∀i σ H,i<n→Pv i σ H→g (.int (lo+i)) σ H fun σ2 H2=>tb {D with nx:=Pv (i+1),ct:=Pv (i+1),bk:=D.nx} σ2 H2) (hd:∀σ H,Pv n σ H→D.nx σ H):
 ∃W:Nat→Nat→St→Hp→Prop,(∃m,W 0 m σ H)∧∀i m σ H,W i m σ H→
  ((tD lo n).stop i H∧D.nx σ H)∨((tD lo n).go i H∧∃N:St→Hp→Prop,(∀σ' H',N σ' H'→∃m',m'<m∧W (i+1) m' σ' H')∧∀x H',(tD lo n).mS i H x H'→g x σ H' fun σ2 H2=>tb {D with nx:=N,ct:=N,bk:=D.nx} σ2 H2):=by
 refine⟨fun i m σ H=>m=n-i∧i≤n∧Pv i σ H,⟨n,by simp,Nat.zero_le _,h0⟩,?_⟩
 rintro i m σ H ⟨rfl,hi,p⟩
 by_cases hlt:i<n
 · refine .inr ⟨hlt,Pv (i+1),fun σ' H' p'=>⟨n-(i+1),by(first|lia|omega),rfl,hlt,p'⟩,fun x H' y=>?_⟩
   obtain⟨e,y⟩:=y
   subst e y
   exact hs i σ _ hlt p
 · have e:i=n:=by(first|lia|omega)
   subst e
   exact .inl ⟨Nat.le_refl _,hd σ H p⟩
end L2
namespace L2
open PySem PySem.Spec PyProof.Rows
noncomputable abbrev R2:=V→V→Hp→VK→Prop
noncomputable def bW(X:Cx)(f:Value→Value→Sem Value)(r:R2):Prop:=
 ∀(pins:List (Addr×Obj)) (s:Shared) (σ:St) (H:Hp) (x y:V) (v u:Value) (Q:VK),Inv X pins σ H s→RelV x v→RelV y u→r x y H Q→
  wpAny (model X.prog X.w) X.A (f v u) (EP X pins σ Q) X.xe s
noncomputable def wU(X:Cx)(f:Value→Sem Value)(r:V→Hp→VK→Prop):Prop:=
 ∀(pins:List (Addr×Obj)) (s:Shared) (σ:St) (H:Hp) (x:V) (v:Value) (Q:VK),Inv X pins σ H s→RelV x v→r x H Q→
  wpAny (model X.prog X.w) X.A (f v) (EP X pins σ Q) X.xe s
noncomputable def bJ(X:Cx)(f:Value)(r:List V→Hp→VK→Prop):Prop:=
 ∀(pins:List (Addr×Obj)) (s:Shared) (σ:St) (H:Hp) (xs:List V) (us:List Value) (Q:VK),Inv X pins σ H s→Vals xs us→r xs H Q→
  wpAny (model X.prog X.w) X.A (call f us) (EP X pins σ Q) X.xe s
noncomputable def zM(r:R2)(ta tb:TE):TE:=fun σ H Q=>ta σ H fun x H1=>tb σ H1 fun y H2=>r x y H2 Q
noncomputable def JL(r:V→Hp→VK→Prop)(ta:TE):TE:=fun σ H Q=>ta σ H fun x H1=>r x H1 Q
noncomputable def rI(C:Int→Int→Prop)(g:Int→Int→V):R2:=fun x y H Q=>∃i j,x= .int i∧y= .int j∧C i j∧Q (g i j) H
noncomputable def sS(g:Int→Int→V):R2:=fun x y H Q=>∃i j,x= .int i∧y= .int j∧Q (g i j) H
noncomputable def rU(g:Int→V):V→Hp→VK→Prop:=fun x H Q=>∃i,x= .int i∧Q (g i) H
section
variable {X:Cx}{a b c:Expr}{ta tb tc:TE}{pos:Pos}
theorem BV(ha:PE X a ta)(hb:PE X b tb){pins:List (Addr×Obj)}{s:Shared}{σ:St}{H:Hp}{R:V→V→Hp→Prop}(I:Inv X pins σ H s)
 (h:ta σ H fun x H1=>tb σ H1 fun y H2=>R x y H2) {Q:Value→Shared→Prop} {f:Value→Value→Sem Value}
 (hf:∀v u s2 x y H2,Inv X pins σ H2 s2→RelV x v→RelV y u→R x y H2→wpAny (model X.prog X.w) X.A (f v u) Q X.xe s2):
 wpAny (model X.prog X.w) X.A (eval a X.env) (fun v s₁=>wpAny (model X.prog X.w) X.A (eval b X.env) (fun u s₂=>wpAny (model X.prog X.w) X.A (f v u) Q X.xe s₂) X.xe s₁) X.xe s:=by
 refine bR (ha pins s σ H _ I h) fun v s1 ⟨x,H1,I1,r1,q1⟩=>?_
 refine bR (hb pins s1 σ H1 _ I1 q1) fun u s2 ⟨y,H2,I2,r2,q2⟩=>?_
 exact hf v u s2 x y H2 I2 r1 r2 q2
theorem ID{op:Operator}{r:R2}(ho:bW X (binaryOp op) r)(ha:PE X a ta)(hb:PE X b tb):PE X (.BinOp a op b pos) (zM r ta tb):=by
 intro pins s σ H Q I h
 exact wpAny_BinOp (BV ha hb I h fun v u s2 x y H2 I2 rx ry q=>ho pins s2 σ H2 x y v u Q I2 rx ry q)
theorem Iu{op:UnaryOp}{r:V→Hp→VK→Prop}(ho:wU X (unaryOp op) r)(ha:PE X a ta):PE X (.UnaryOp op a pos) (JL r ta):=by
 intro pins s σ H Q I h
 exact UnaryOp_ (bR (ha pins s σ H _ I h) fun v s1 ⟨x,H1,I1,r1,q1⟩=>ho pins s1 σ H1 x v Q I1 r1 q1)
theorem C5{f:Value→Value→Sem Value}{C:Int→Int→Prop}{g:Int→Int→Int}
 (rule:∀(i j:Int) (t u:Tok) (s:Shared) (Q:Value→Shared→Prop) (E:Value→Shared→Prop),C i j→Q (.int (g i j) s.toks) {s with toks:=s.toks+1}→wpAny (model X.prog X.w) X.A (f (.int i t) (.int j u)) Q E s):
 bW X f (rI C fun i j=> .int (g i j)):=by
 intro pins s σ H x y v u Q I rx ry h
 obtain⟨i,j,rfl,rfl,hc,q⟩:=h
 obtain⟨t,rfl⟩:=rx
 obtain⟨t',rfl⟩:=ry
 exact rule i j t t' s _ _ hc ⟨.int (g i j),H,I.tok _,⟨_,rfl⟩,q⟩
theorem Fu{f:Value→Value→Sem Value}{g:Int→Int→Int}
 (rule:∀(i j:Int) (t u:Tok) (s:Shared) (Q:Value→Shared→Prop) (E:Value→Shared→Prop),Q (.int (g i j) s.toks) {s with toks:=s.toks+1}→wpAny (model X.prog X.w) X.A (f (.int i t) (.int j u)) Q E s):
 bW X f (sS fun i j=> .int (g i j)):=by
 intro pins s σ H x y v u Q I rx ry h
 obtain⟨i,j,rfl,rfl,q⟩:=h
 obtain⟨t,rfl⟩:=rx
 obtain⟨t',rfl⟩:=ry
 exact rule i j t t' s _ _ ⟨.int (g i j),H,I.tok _,⟨_,rfl⟩,q⟩
theorem BB{f:Value→Value→Sem Value}{g:Int→Int→Bool}
 (rule:∀(i j:Int) (t u:Tok) (s:Shared) (Q:Value→Shared→Prop) (E:Value→Shared→Prop),Q (.bool (g i j)) s→wpAny (model X.prog X.w) X.A (f (.int i t) (.int j u)) Q E s):
 bW X f (sS fun i j=> .bl (g i j)):=by
 intro pins s σ H x y v u Q I rx ry h
 obtain⟨i,j,rfl,rfl,q⟩:=h
 obtain⟨t,rfl⟩:=rx
 obtain⟨t',rfl⟩:=ry
 exact rule i j t t' s _ _ ⟨.bl (g i j),H,I,rfl,q⟩
noncomputable def Br(i j:Int):Prop:=0≤j∧j≤1000000∧i.natAbs<2^64
theorem Ga:bW X (binaryOp .Add) (sS fun i j=> .int (i+j)):=Fu fun _ _ _ _ _ _ _ q=>add_int q
theorem FT:bW X (binaryOp .Sub) (sS fun i j=> .int (i-j)):=Fu fun _ _ _ _ _ _ _ q=>sub_int q
theorem EC:bW X (binaryOp .Mod) (rI (fun _ j=>j≠0) fun i j=> .int (i.fmod j)):=C5 fun _ _ _ _ _ _ _ hc q=>mod_int' hc q
theorem GG:bW X (binaryOp .Pow) (rI Br fun i j=> .int (i^j.toNat)):=C5 fun _ _ _ _ _ _ _ hc q=>pow_int_small hc.1 hc.2.1 hc.2.2 q
theorem KU{f:Value→Sem Value}{g:Int→Int}
 (rule:∀(i:Int) (t:Tok) (s:Shared) (Q:Value→Shared→Prop) (E:Value→Shared→Prop),Q (.int (g i) s.toks) {s with toks:=s.toks+1}→wpAny (model X.prog X.w) X.A (f (.int i t)) Q E s):
 wU X f (rU fun i=> .int (g i)):=by
 intro pins s σ H x v Q I rx h
 obtain⟨i,rfl,q⟩:=h
 obtain⟨t,rfl⟩:=rx
 exact rule i t s _ _ ⟨.int (g i),H,I.tok _,⟨_,rfl⟩,q⟩
theorem Gv:wU X (unaryOp .USub) (rU fun i=> .int (-i)):=KU fun _ _ _ _ _ q=>neg_int q
end
noncomputable def Ka:V→V→Bool
 | .aC,.aC=>true| .aC,.int _=>true| .int _,.aC=>true| .aC,.bl _=>true| .bl _,.aC=>true| .aC,.str _=>true| .str _,.aC=>true
 | .int _,.int _=>true| .bl _,.bl _=>true| .str _,.str _=>true| .p9 _,.p9 _=>true
 | .int _,.str _=>true| .str _,.int _=>true| .bl _,.str _=>true| .str _,.bl _=>true
 |_,_=>false
noncomputable def KZ:R2:=fun x y H Q=>Ka x y=true∧Q (.bl (!decide (x=y))) H
theorem Dh{i j:Int}:decide (V.int i=V.int j)=(i==j):=by
 rw[Bool.eq_iff_iff]
 simp
theorem Gj{i j:Bool}:decide (V.bl i=V.bl j)=(i==j):=by
 rw[Bool.eq_iff_iff]
 simp
theorem ES{i j:Str}:decide (V.str i=V.str j)=(i==j):=by
 rw[Bool.eq_iff_iff]
 simp
theorem DQ{i j:Array UInt8}:decide (V.p9 i=V.p9 j)=(i.toList==j.toList):=by
 rw[Bool.eq_iff_iff]
 cases i
 cases j
 simp
section
variable {X:Cx}{a b c:Expr}{ta tb tc:TE}{pos:Pos}
theorem ff{pins:List (Addr×Obj)}{σ:St}{H:Hp}{s:Shared}{Q:VK}{k k':Bool}(I:Inv X pins σ H s)(q:Q (.bl k) H)(e:k=k'):EP X pins σ Q (.bool k') s:=by
 subst e
 exact⟨.bl k,H,I,rfl,q⟩
theorem Jh:bW X (compareOp .NotEq) KZ:=by
 intro pins s σ H x y v u Q I rx ry h
 obtain⟨hs,q⟩:=h
 cases x with
 |aC=>
  cases rx
  cases y with
  |aC=>cases ry;exact PySem.EqNone.ne_none_none (ff I q (by simp))
  |bl j=>cases ry;exact PySem.EqNone.ne_none_bool (ff I q (by simp))
  |int j=>obtain⟨t',rfl⟩:=ry;exact PySem.EqNone.ne_none_int (ff I q (by simp))
  |str j=>obtain⟨t',rfl⟩:=ry;exact PySem.EqNone.ne_none_str (ff I q (by simp))
  |_=>exact absurd (show false=true from hs) Bool.false_ne_true
 |bl i=>
  cases rx
  cases y with
  |aC=>cases ry;exact PySem.EqNone.ne_bool_none (ff I q (by simp))
  |bl j=>cases ry;exact ne_bool (ff I q (congrArg not Gj))
  |str j=>obtain⟨t',rfl⟩:=ry;exact PySem.EqMixed.ne_bool_str (ff I q (by simp))
  |_=>exact absurd (show false=true from hs) Bool.false_ne_true
 |int i=>
  obtain⟨t,rfl⟩:=rx
  cases y with
  |aC=>cases ry;exact PySem.EqNone.ne_int_none (ff I q (by simp))
  |int j=>obtain⟨t',rfl⟩:=ry;exact ne_int (ff I q (congrArg not Dh))
  |str j=>obtain⟨t',rfl⟩:=ry;exact PySem.EqMixed.ne_int_str (ff I q (by simp))
  |_=>exact absurd (show false=true from hs) Bool.false_ne_true
 |str i=>
  obtain⟨t,rfl⟩:=rx
  cases y with
  |aC=>cases ry;exact PySem.EqNone.ne_str_none (ff I q (by simp))
  |bl j=>cases ry;exact PySem.EqMixed.ne_str_bool (ff I q (by simp))
  |int j=>obtain⟨t',rfl⟩:=ry;exact PySem.EqMixed.ne_str_int (ff I q (by simp))
  |str j=>obtain⟨t',rfl⟩:=ry;exact ne_str (ff I q (congrArg not ES))
  |_=>exact absurd (show false=true from hs) Bool.false_ne_true
 |p9 i=>
  obtain⟨t,rfl⟩:=rx
  cases y with
  |p9 j=>obtain⟨t',rfl⟩:=ry;exact PySem.W.ne_bytes (ff I q (congrArg not DQ))
  |_=>exact absurd (show false=true from hs) Bool.false_ne_true
 |_=>cases y<;>exact absurd (show false=true from hs) Bool.false_ne_true
theorem Ip:bW X (compareOp .Lt) (sS fun i j=> .bl (decide (i<j))):=BB fun _ _ _ _ _ _ _ q=>lt_int q
theorem HL:bW X (compareOp .Gt) (sS fun i j=> .bl (decide (j<i))):=BB fun _ _ _ _ _ _ _ q=>gt_int q
theorem Ig:bW X (compareOp .GtE) (sS fun i j=> .bl (decide (j≤i))):=BB fun _ _ _ _ _ _ _ q=>ge_int q
theorem Gf:bW X (compareOp .Is) (fun x y H Q=>y= .aC∧Q (.bl (decide (x= .aC))) H):=by
 intro pins s σ H x y v u Q I rx ry h
 obtain⟨rfl,q⟩:=h
 cases ry
 refine is_none_gen (ff I q ?_)
 cases x<;>first
  |(cases rx;rfl)
  |(obtain⟨t,rfl⟩:=rx;rfl)
theorem cx(b:Expr){op:CmpOp}(h:op≠ .In:=by decide)(h2:op≠ .NotIn:=by decide):behindInMarks op b=false:=by
 have e1:(op==CmpOp.In)=false:=by cases op<;>first|rfl|exact absurd rfl h
 have e2:(op==CmpOp.NotIn)=false:=by cases op<;>first|rfl|exact absurd rfl h2
 cases b<;>simp[behindInMarks,e1,e2]
theorem Ek{op:CmpOp}{r:R2}(ho:bW X (compareOp op) r)(ha:PE X a ta)(hb:PE X b tb)(hm:behindInMarks op b=false):PE X (.Compare a [op] [b] pos) (zM r ta tb):=by
 intro pins s σ H Q I h
 exact wpAny_Compare1 (BV ha hb I h fun v u s2 x y H2 I2 rx ry q=>ho pins s2 σ H2 x y v u Q I2 rx ry q) hm
noncomputable def Jf(t:TE):TT:=fun σ H Q=>t σ H fun x H'=>∃k,x= .bl k∧Q k H'
theorem EL{op:CmpOp}{r:R2}(ho:bW X (compareOp op) r)(ha:PE X a ta)(hb:PE X b tb)(hm:behindInMarks op b=false):PT X (.Compare a [op] [b] pos) (Jf (zM r ta tb)):=by
 intro pins s σ H Q I h
 refine wpAny_isTrue_Compare1 (bR (ha pins s σ H _ I h) fun v s1 ⟨x,H1,I1,r1,q1⟩=>bR (hb pins s1 σ H1 _ I1 q1) fun u s2 ⟨y,H2,I2,r2,q2⟩=>
  bR (ho pins s2 σ H2 x y v u _ I2 r1 r2 q2) fun c s3 ⟨z,H3,I3,r3,k,e,q3⟩=>?_) hm
 subst e
 cases r3
 exact wpAny_truthy_bool ⟨H3,I3,q3⟩
theorem oM:(sizeLine:Nat)<2^63:=by rw[sizeLine_eq];decide
theorem yU:bW X (binaryOp .Add) (fun x y H Q=>∃i j,x= .str i∧y= .str j∧i.length+j.length≤sizeLine∧Q (.str (i++j)) H):=by
 intro pins s σ H x y v u Q I rx ry h
 obtain⟨i,j,rfl,rfl,hz,q⟩:=h
 obtain⟨t,rfl⟩:=rx
 obtain⟨t',rfl⟩:=ry
 exact add_str (fun t' tk=>⟨.str (i++j),H,I.tok _,⟨_,rfl⟩,q⟩) hz
theorem vals1{x:V}{us:List Value}(r:Vals [x] us):∃u,us=[u]∧RelV x u:=by
 cases r with
 |cons r1 r2=>cases r2;exact⟨_,rfl,r1⟩
theorem vals2{x y:V}{us:List Value}(r:Vals [x,y] us):∃u w',us=[u,w']∧RelV x u∧RelV y w':=by
 cases r with
 |cons r1 r2=>
  cases r2 with
  |cons r3 r4=>cases r4;exact⟨_,_,rfl,r1,r3⟩
theorem Bw:bJ X (.builtin "abs") (fun xs H Q=>∃i,xs=[.int i]∧Q (.int (if i<0 then-i else i)) H):=by
 intro pins s σ H xs us Q I r h
 obtain⟨i,rfl,q⟩:=h
 obtain⟨u,rfl,t,rfl⟩:=vals1 r
 exact call_abs_int fun u tk=>⟨.int (if i<0 then-i else i),H,I.tok _,⟨_,rfl⟩,q⟩
theorem zN(hc:X.calm=true):bJ X (.builtin "max") (fun xs H Q=>∃i j,xs=[.int i,.int j]∧Q (.int (if j>i then j else i)) H):=by
 intro pins s σ H xs us Q I r h
 obtain⟨i,j,rfl,q⟩:=h
 obtain⟨u,w',rfl,⟨t,rfl⟩,⟨t',rfl⟩⟩:=vals2 r
 refine max_two_ints (I.ok.hd hc) fun h' tk k=>⟨_,H,I.kept k,?_,q⟩
 by_cases hj:j>i
 · rw[if_pos hj,if_pos hj];exact⟨_,rfl⟩
 · rw[if_neg hj,if_neg hj];exact⟨_,rfl⟩
theorem Ak(hc:X.calm=true):bJ X (.builtin "min") (fun xs H Q=>∃i j,xs=[.int i,.int j]∧Q (.int (if j<i then j else i)) H):=by
 intro pins s σ H xs us Q I r h
 obtain⟨i,j,rfl,q⟩:=h
 obtain⟨u,w',rfl,⟨t,rfl⟩,⟨t',rfl⟩⟩:=vals2 r
 refine min_two_ints (I.ok.hd hc) fun h' tk k=>⟨_,H,I.kept k,?_,q⟩
 by_cases hj:j<i
 · rw[if_pos hj,if_pos hj];exact⟨_,rfl⟩
 · rw[if_neg hj,if_neg hj];exact⟨_,rfl⟩
theorem AJ:bJ X (.type "int") (fun xs H Q=>(∃i,xs=[.int i]∧Q (.int i) H)∨∃k,xs=[.bl k]∧Q (.int (if k then 1 else 0)) H):=by
 intro pins s σ H xs us Q I r h
 rcases h with⟨i,rfl,q⟩|⟨k,rfl,q⟩
 · obtain⟨u,rfl,t,rfl⟩:=vals1 r
   exact call_int_int ⟨.int i,H,I,⟨_,rfl⟩,q⟩
 · obtain⟨u,rfl,r1⟩:=vals1 r
   cases r1
   exact call_int_bool ⟨.int (if k then 1 else 0),H,I.tok _,⟨_,rfl⟩,q⟩
end
end L2
namespace L2
open PySem PySem.Spec PyProof.Rows
structure qC(h:Heap)(x dx C:Addr)(mA:Str→Option Value):Prop where
 obj:h.get? x=some (PySem.W.instObj C dx)
 ns:h.Ns1 dx mA
 ne:dx≠x
theorem AO{h:Heap}{dx:Addr}{mA:Str→Option Value}(n:h.Ns1 dx mA):∃od,h.get? dx=some od∧∀name,PySem.W.lookIn name od=some (mA name):=by
 obtain⟨o,es,ep,ho,hd,hk,_,hm⟩:=n
 refine⟨o,ho,fun name=>?_⟩
 have e:=hm name
 unfold nsFind findBy at e
 rw[←Array.find?_toList]at e
 unfold PySem.W.lookIn
 rw[hd]
 dsimp only
 split
 · rename_i y q
   rw[q]at e
   exact congrArg some e
 · rename_i q
   rw[q]at e
   have a:es.toList.any (·.refKey)=false:=by
    rw[List.any_eq_false]
    intro y hy
    obtain⟨z,t,hkey⟩:=hk y (Array.mem_toList_iff.mp hy)
    simp[DictEntry.refKey,hkey]
   have a':¬es.toList.any (·.refKey)=true:=by rw[a];exact Bool.false_ne_true
   rw[if_neg a']
   exact congrArg some e
theorem qC.look{h:Heap}{x dx C:Addr}{mA:Str→Option Value}(I:qC h x dx C mA):∃od,PySem.W.InstAt h x (PySem.W.instObj C dx) C (some od)∧∀name,PySem.W.lookIn name od=some (mA name):=
 let⟨od,ho,hl⟩:=AO I.ns
 ⟨od,⟨I.obj,rfl,rfl,ho⟩,hl⟩
section
variable {prog:Program}{w:World}{A:Around}{E:Value→Shared→Prop}{s:Shared}{K:PySem.W.Frag}{x dx C f:Addr}{mA:Str→Option Value}{name:Str}{v:Value}
theorem get_map{expr:Bool}{Q:Value→Shared→Prop}(X:K.In s.heap)(I:qC s.heap x dx C mA)(hg:PySem.W.plainGet K C name=true)(hh:PySem.W.hasDictIn K C=true)
 (ha:PySem.W.findIn K (.ref C) name=some none) (hv:mA name=some v) (hv':PySem.W.handedIn v=true) (h:Q v {s with toks:=s.toks+1}):
 wpAny (model prog w) A (getAttr (.ref x) name expr) Q E s:=by
 obtain⟨od,J,hl⟩:=I.look
 exact PySem.W.get_value X J (PySem.W.plainGet_of hg).1 (PySem.W.findObj_own hh ha rfl (by rw[hl,hv])) hv' h
theorem BR{pl:Sem Bool}{Q:Value×List Value→Shared→Prop}(X:K.In s.heap)(I:qC s.heap x dx C mA)(hg:PySem.W.plainGet K C name=true)
 (hf:PySem.W.findIn K (.ref C) name=some (some (.ref f))) (ht:PySem.W.isFn K (.ref f)=true) (hv:mA name=none) (h:Q (.ref f,[.ref x]) s):
 wpAny (model prog w) A (getMethod (.ref x) name pl) Q E s:=by
 obtain⟨od,J,hl⟩:=I.look
 exact PySem.W.method_fn X J (PySem.W.plainGet_of hg).1 (PySem.W.plainGet_of hg).2 hf (beq_iff_eq.mp ht) (by show(PySem.W.lookIn name od).map (·.isSome)=some false;rw[hl,hv];rfl) h
theorem hJ{ns:List Str}{Q:Unit→Shared→Prop}(X:K.In s.heap)(I:qC s.heap x dx C mA)
 (hs:PySem.W.findIn K (.ref C) "__setattr__"=some (some (.builtin "object.__setattr__"))) (hp:PySem.W.plainOver K C=true) (ht:PySem.W.takerIn K C name=some none) (hh:PySem.W.hasDictIn K C=true)
 (hw:PySem.Within mA ns) (hsz:ns.length≤sizeLine)
 (h:∀h',qC h' x dx C (fun y=>if y=name then some v else mA y)→Heap.SameBut dx s.heap h'→Q () {s with heap:=h',toks:=s.toks+2}):
 wpAny (model prog w) A (setAttr (.ref x) name v) Q E s:=by
 obtain⟨od,J,hl⟩:=I.look
 refine PySem.W.set_plain X J hs (PySem.W.osa_open (s:={s with toks:=s.toks+1}) (r:=none) X J hp ht fun b=>?_)
 obtain⟨cd,hc,hd'⟩:=PySem.W.any_some hh
 have hx:s.heap.get? x=some ⟨.ref C,some dx,.plain,#[]⟩:=I.obj
 refine wpAny_bind (wpAny_pure (wpAny_bind (wpAny_bind (wpAny_loadPart hx (wpAny_bind (PySem.W.Looks.here (s:={s with toks:=s.toks+1}) (PySem.W.looks_clsIn X hc) ?_))))))
 rw[hd']
 refine wpAny_pure (a:=some dx) (wpAny_bind (wpAny_pure (wpAny_bind ?_)))
 refine wpAny_nsSet1 (s:={s with toks:=s.toks+1}) I.ns fun h' hn2 hs2=>?_
 obtain⟨oD,esD,epD,hoD,hdD,hcD⟩:=hn2.count (PySem.Within.cons name v hw)
 refine wpAny_bind (wpAny_lookBehind hoD (by rw[hdD];exact pastItsLine_dict (Nat.le_trans hcD (by rw[List.length_cons];(first|lia|omega)))) ?_)
 exact wpAny_pure (h _ ⟨(hs2.2 _ (Ne.symm I.ne)).trans I.obj,hn2,I.ne⟩ hs2)
theorem BX{R:Result→Shared→Prop}{vs:List Value}{kw:List (Str×Value)}(X:K.In s.heap)(hm:PySem.W.makesIn K C=true)
 (hi:PySem.W.findIn K (.ref C) "__init__"=some (some (.ref f))) (hf:PySem.W.typeIn K (.ref f)=some (.type "function"))
 (h:codeAny (model prog w) (A.under (.builtin "type.__call__" ⟨.ref C::vs,kw⟩)) (.call (.ref f) ⟨.ref (s.heap.objs.size+1)::vs,kw⟩) (PySem.W.InitBack (s.heap.objs.size+1) R)
   {s with heap:=(s.heap.push PySem.W.emptyDict).push (PySem.W.instObj C s.heap.objs.size)}):
 codeAny (model prog w) A (.call (.ref C) ⟨vs,kw⟩) R s:=by
 obtain⟨hh,g,d,t,os⟩:=s
 exact PySem.W.make_core (PySem.W.makes_of X hm) (PySem.W.looks_findIn X hi) (fun self=>PySem.W.bind_fn X self hf) (.inl rfl) h
end
noncomputable def gH(f:Str)(v:V):List (Str×V)→List (Str×V)
 | []=>[(f,v)]
 |(g,x)::r=>if g=f then(g,v)::r else(g,x)::gH f v r
theorem pZ(f g:Str)(v:V):∀fs:List (Str×V),(gH f v fs).lookup g=if g=f then some v else fs.lookup g
 | []=>by
   show List.lookup g [(f,v)]=_
   by_cases h:g=f
   · have hb:(g==f)=true:=beq_iff_eq.mpr h
     simp only[List.lookup,hb,if_pos h]
   · have hb:(g==f)=false:=beq_eq_false_iff_ne.mpr h
     simp only[List.lookup,hb,if_neg h]
 |(k,x)::r=>by
  have ih:=pZ f g v r
  rw[show gH f v ((k,x)::r)=(if k=f then(k,v)::r else(k,x)::gH f v r)from rfl]
  by_cases hk:k=f
  · rw[if_pos hk]
    by_cases h:g=k
    · have hb:(g==k)=true:=beq_iff_eq.mpr h
      simp only[List.lookup,hb,if_pos (h.trans hk)]
    · have hb:(g==k)=false:=beq_eq_false_iff_ne.mpr h
      simp only[List.lookup,hb,if_neg (fun e:g=f=>h (e.trans hk.symm))]
  · rw[if_neg hk]
    by_cases h:g=k
    · have hb:(g==k)=true:=beq_iff_eq.mpr h
      simp only[List.lookup,hb,if_neg (fun e:g=f=>hk (h.symm.trans e))]
    · have hb:(g==k)=false:=beq_eq_false_iff_ne.mpr h
      simp only[List.lookup,hb]
      exact ih
theorem oY(f:Str)(v:V):∀fs:List (Str×V),f∈(gH f v fs).map (·.1)∧∀g,g∈fs.map (·.1)→g∈(gH f v fs).map (·.1)
 | []=>⟨by simp[gH],fun g h=>by simp at h⟩
 |(k,x)::r=>by
  obtain⟨i1,i2⟩:=oY f v r
  rw[show gH f v ((k,x)::r)=(if k=f then(k,v)::r else(k,x)::gH f v r)from rfl]
  by_cases hk:k=f
  · rw[if_pos hk]
    subst hk
    exact⟨by simp,fun g h=>by simpa using h⟩
  · rw[if_neg hk]
    refine⟨?_,fun g h=>?_⟩
    · rw[List.map_cons]
      exact List.mem_cons_of_mem _ i1
    · rw[List.map_cons]at h⊢
      rcases List.mem_cons.mp h with e|e
      · exact List.mem_cons.mpr (.inl e)
      · exact List.mem_cons_of_mem _ (i2 g e)
theorem pX(f:Str)(v:V):∀fs:List (Str×V),(gH f v fs).length≤fs.length+1
 | []=>by simp[gH]
 |(k,x)::r=>by
  have ih:=pX f v r
  rw[show gH f v ((k,x)::r)=(if k=f then(k,v)::r else(k,x)::gH f v r)from rfl]
  by_cases hk:k=f
  · rw[if_pos hk,List.length_cons,List.length_cons];(first|lia|omega)
  · rw[if_neg hk,List.length_cons,List.length_cons];(first|lia|omega)
theorem mx.some_of{v:V}{o:Option Value}(r:mx (some v) o):∃u,o=some u∧RelV v u:=by
 cases o with
 |none=>exact(show False from r).elim
 |some u=>exact⟨u,rfl,r⟩
theorem mx.none_of{o:Option Value}(r:mx none o):o=none:=by
 cases o with
 |none=>rfl
 |some u=>exact(show False from r).elim
theorem AF{v:V}{u:Value}(r:RelV v u):PySem.W.handedIn u=true:=by
 cases v with
 |aC=>cases (show u=Value.none from r);rfl
 |bl b=>cases (show u=Value.bool b from r);rfl
 |int i=>obtain⟨t,e⟩:=(show∃t,u=Value.int i t from r);cases e;rfl
 |str x=>obtain⟨t,e⟩:=(show∃t,u=Value.str x t from r);cases e;rfl
 |p9 b=>obtain⟨t,e⟩:=(show∃t,u=Value.bytes b t from r);cases e;rfl
 |p7 b=>obtain⟨t,e⟩:=(show∃t,u=Value.float b t from r);cases e;rfl
 |ref a=>cases (show u=Value.ref a from r);rfl
 |ty n=>cases (show u=Value.type n from r);rfl
section
variable {P:Program}{w:World}{H H':Hp}{h h':Heap}{a C dx:Addr}{fs fs':List (Str×V)}
theorem m5(aI:g5 P w H h)(e:H a=some (.ins C dx fs)):∃mA,qC h a dx C mA∧(∀f,mx (fs.lookup f) (mA f))∧PySem.Within mA (fs.map (·.1))∧fs.length≤1000∧H dx=some (.own a):=by
 obtain⟨d,z,ne,ob,mA,n,r,q⟩:=(show dm P w H h a (.ins C dx fs)from aI a _ e)
 exact⟨mA,⟨ob,n,ne⟩,r,q,z,d⟩
end
structure lI(K:PySem.W.Frag)(C:Addr):Prop where
 pg:PySem.W.plainGet K C Str.empty=true
 hd:PySem.W.hasDictIn K C=true
 po:PySem.W.plainOver K C=true
 sa:PySem.W.findIn K (.ref C) "__setattr__"=some (some (.builtin "object.__setattr__"))
theorem lI.get{K:PySem.W.Frag}{C:Addr}(c:lI K C)(f:Str):PySem.W.plainGet K C f=true:=c.pg
noncomputable def gG(K:PySem.W.Frag)(C:Addr)(f:Str):Prop:=PySem.W.findIn K (.ref C) f=some none
theorem gG.I_{K:PySem.W.Frag}{C:Addr}{f:Str}(n:gG K C f):PySem.W.takerIn K C f=some none:=by
 unfold PySem.W.takerIn
 rw[show PySem.W.findIn K (.ref C) f=some none from n]
 rfl
structure Meth(K:PySem.W.Frag)(C:Addr)(m:Str)(f:Addr):Prop where
 at_:PySem.W.findIn K (.ref C) m=some (some (.ref f))
 fn:PySem.W.isFn K (.ref f)=true
 kp:PySem.W.keepIn K (.ref f)=true
section
variable {X:Cx}{pins:List (Addr×Obj)}{σ:St}{H:Hp}{s:Shared}{a C dx:Addr}{fs:List (Str×V)}{f:Str}{v:V}{A:Around}{E:Value→Shared→Prop}
theorem x4{b:Bool}{Q:Value→Shared→Prop}(I:Inv X pins σ H s)(e:H a=some (.ins C dx fs))(c:lI X.K C)(n:gG X.K C f)(l:fs.lookup f=some v)
 (h:∀u s',Inv X pins σ H s'→RelV v u→Q u s'):wpAny (model X.prog X.w) A (getAttr (.ref a) f b) Q E s:=by
 obtain⟨mA,O,r,_,_,_⟩:=m5 I.aI e
 obtain⟨u,hu,ru⟩:=mx.some_of (v:=v) (o:=mA f) (by rw[←l];exact r f)
 exact get_map I.gN O (c.get f) c.hd n hu (AF ru) (h u _ (I.tok _) ru)
theorem xO{m:Str}{g:Addr}{pl:Sem Bool}{Q:Value×List Value→Shared→Prop}(I:Inv X pins σ H s)(e:H a=some (.ins C dx fs))(c:lI X.K C)(k:Meth X.K C m g)(l:fs.lookup m=none)
 (h:Q (.ref g,[.ref a]) s):wpAny (model X.prog X.w) A (getMethod (.ref a) m pl) Q E s:=by
 obtain⟨mA,O,r,_,_,_⟩:=m5 I.aI e
 have hn:mA m=none:=mx.none_of (by rw[←l];exact r m)
 exact BR I.gN O (c.get m) k.at_ k.fn hn h
theorem ya{y:V}{u:Value}{Q:Unit→Shared→Prop}(I:Inv X pins σ H s)(e:H a=some (.ins C dx fs))(c:lI X.K C)(n:gG X.K C f)(hl:fs.length<1000)(ry:RelV y u)
 (h:∀s',Inv X pins σ (upd H a (.ins C dx (gH f y fs))) s'→Q () s'):wpAny (model X.prog X.w) A (setAttr (.ref a) f u) Q E s:=by
 obtain⟨mA,O,r,wi,_,ho⟩:=m5 I.aI e
 have hz:(fs.map (·.1)).length≤sizeLine:=by rw[List.length_map,sizeLine_eq];(first|lia|omega)
 refine hJ I.gN O c.sa c.po n.I_ c.hd wi hz fun h' O' sb=>h _ ?_
 have hd:∃o,h'.get? dx=some o:=let⟨o,_,_,e',_⟩:=O'.ns;⟨o,e'⟩
 refine I.write (x:=a) (e:=dx) (by rw[e];exact True.intro) (.inr ho) (fun b q hb z=>(sb.2 b hb).trans z) hd ?_
 refine⟨by rw[aL O.ne];exact ho,?_,O.ne,O'.obj,_,O'.ns,fun g=>?_,fun g hg=>?_⟩
 · have:=pX f y fs;(first|lia|omega)
 · show mx ((gH f y fs).lookup g) (if g=f then some u else mA g)
   rw[pZ]
   by_cases q:g=f
   · rw[if_pos q,if_pos q];exact ry
   · rw[if_neg q,if_neg q];exact r g
 · by_cases q:g=f
   · rw[q];exact(oY f y fs).1
   · refine(oY f y fs).2 g (wi g fun z=>hg ?_)
     show(if g=f then some u else mA g)=none
     rw[if_neg q];exact z
theorem Inv.made(I:Inv X pins σ H s):Inv X pins σ (upd (upd H s.heap.objs.size (.own (s.heap.objs.size+1))) (s.heap.objs.size+1) (.ins C s.heap.objs.size []))
 {s with heap:=(s.heap.push PySem.W.emptyDict).push (PySem.W.instObj C s.heap.objs.size)}:=by
 have e1:(s.heap.push PySem.W.emptyDict).get? s.heap.objs.size=some PySem.W.emptyDict:=Heap.get?_push_size s.heap rfl
 have e2:((s.heap.push PySem.W.emptyDict).push (PySem.W.instObj C s.heap.objs.size)).get? (s.heap.objs.size+1)=some (PySem.W.instObj C s.heap.objs.size):=by
  have:=Heap.get?_push_size (s.heap.push PySem.W.emptyDict) (o:=PySem.W.instObj C s.heap.objs.size) rfl
  rwa [Heap.size_push]at this
 have e3:(s.heap.push PySem.W.emptyDict).Ns s.heap.objs.size (fun _=>none):=⟨PySem.W.emptyDict,#[],_,e1,rfl,(fun e he=>absurd he (by simp)),fun _=>rfl⟩
 have I1:=I.laid (a:=s.heap.objs.size) (o:= .own (s.heap.objs.size+1)) (h':=s.heap.push PySem.W.emptyDict) (t':=s.toks) (fun b u q=>Heap.get?_push_of_some _ q) (Nat.le_refl _) ⟨_,e1⟩
 refine I1.laid (a:=s.heap.objs.size+1) (o:= .ins C s.heap.objs.size []) (t':=s.toks) (fun b u q=>Heap.get?_push_of_some _ q) (Nat.le_of_eq (Heap.size_push _ _)) ?_
 have ne:s.heap.objs.size≠s.heap.objs.size+1:=Nat.ne_of_lt (Nat.lt_succ_self _)
 refine⟨by rw[aL ne,aV],Nat.zero_le _,ne,e2,fun _=>none,(Heap.Ns1.of_empty e3).at fun o q=>Heap.get?_push_of_some _ q,fun _=>True.intro,fun y hy=>absurd rfl hy⟩
theorem Er{prog:Program}{w:World}{env:Env}{e:Expr}{f:Str}{pos:Pos}{s:Shared}{Q:Value→Shared→Prop}(hb:attributeBase e f env (eval e env)=eval e env)
 (h:wpAny (model prog w) A (eval e env) (fun o s₁=>wpAny (model prog w) A (getAttr o f true) Q E s₁) E s):wpAny (model prog w) A (eval (.Attribute e f pos) env) Q E s:=
 Attribute_any_ h (by rw[arm_eval_Attribute,hb])
end
noncomputable def Kj(K:PySem.W.Frag)(ta:TE)(f:Str):TE:=fun σ H Q=>ta σ H fun x H1=>∃a C dx fs v,x= .ref a∧H1 a=some (.ins C dx fs)∧lI K C∧gG K C f∧fs.lookup f=some v∧Q v H1
noncomputable def J6(K:PySem.W.Frag)(ta tv:TE)(f:Str):TS:=fun D σ H=>tv σ H fun y H1=>ta σ H1 fun x H2=>∃a C dx fs,x= .ref a∧H2 a=some (.ins C dx fs)∧lI K C∧gG K C f∧fs.length<1000∧
 D.nx σ (upd H2 a (.ins C dx (gH f y fs)))
section
variable {X:Cx}{o e value:Expr}{f:Str}{pos pos' tpos:Pos}{ta tv:TE}
theorem Fh(he:PE X e ta)(hb:attributeBase e f X.env (eval e X.env)=eval e X.env):PE X (.Attribute e f pos) (Kj X.K ta f):=by
 intro pins s σ H Q I h
 refine Er hb (bR (he pins s σ H _ I h) fun u s1 ⟨x,H1,I1,rx,a,C,dx,fs,v,ex,ea,c,n,l,q⟩=>?_)
 subst ex
 obtain rfl:u=Value.ref a:=rx
 exact x4 I1 ea c n l fun u' s2 I2 ru=>⟨v,H1,I2,ru,q⟩
theorem Fp(ha:PE X o ta)(hv:PE X value tv)(hs:swapsWith value (some (.Attribute o f pos')) pos.line X.env=pure false):PS X (.Assign [.Attribute o f pos'] value pos) (J6 X.K ta tv f):=by
 intro pins s σ H D I h
 refine plainObj_wpAny_Assign_Attribute (bR (hv pins s σ H _ I h) fun u s1 ⟨y,H1,I1,ry,q⟩=>bR (ha pins s1 σ H1 _ I1 q) fun ov s2 ⟨x,H2,I2,rx,a,C,dx,fs,ex,ea,c,n,l,q2⟩=>?_) hs
 subst ex
 obtain rfl:ov=Value.ref a:=rx
 exact ya I2 ea c n l ry fun s3 I3=>⟨σ,_,I3,q2⟩
end
section
variable {X:Cx}{pins:List (Addr×Obj)}{σ:St}{H:Hp}{s:Shared}{A:Around}{E:Value→Shared→Prop}{Q:Value→Shared→Prop}{c:Value}{b:Bool}
inductive iM(K:PySem.W.Frag)(H:Hp):V→Value→Prop where
 |aC:iM K H .aC (.type "NoneType")
 |bl (x:Bool):iM K H (.bl x) (.type "bool")
 |int (i:Int):iM K H (.int i) (.type "int")
 |str (x:Str):iM K H (.str x) (.type "str")
 |p7 (x:UInt64):iM K H (.p7 x) (.type "float")
 |lst {a:Addr} {xs:List V} (e:H a=some (.lst xs)):iM K H (.ref a) (.type "list")
 |gj {a:Addr} {o:Obj} {xs:List V} (e:H a=some (.gj o (.lst xs))):iM K H (.ref a) (.type "list")
 |tup {a:Addr} {xs:List V} (e:H a=some (.tup xs)):iM K H (.ref a) (.type "tuple")
 |dK {a:Addr} {kvs:List (Key×V)} (e:H a=some (.dK kvs)):iM K H (.ref a) (.type "dict")
 |dT {a:Addr} {kvs:List (List Key×V)} (e:H a=some (.dT kvs)):iM K H (.ref a) (.type "dict")
 |ins {a C dx:Addr} {fs:List (Str×V)} (e:H a=some (.ins C dx fs)) (cl:lI K C) (ha:PySem.W.findIn K (.ref C) "__class__"=some (some (.builtin "object.__class__")))
   (hn:PySem.W.specialIn K (.builtin "object.__class__") "__get__"=some (some (.builtin "getset_descriptor.__get__"))) (htk:PySem.W.takesIn K (.builtin "object.__class__")=some true)
   (hm:PySem.W.mroIn K C (.type "object")=some true):iM K H (.ref a) (.ref C)
theorem Ai{x:V}{u t:Value}(I:Inv X pins σ H s)(rx:RelV x u)(ty:iM X.K H x t)(e:PySem.W.kitOne X.K t c=some b)(h:∀tk,Q (.bool b) {s with toks:=tk}):
 wpAny (model X.prog X.w) A (call (.builtin "isinstance") [u,c]) Q E s:=by
 cases ty with
 |aC=>cases (show u=Value.none from rx);exact PySem.W.kia_one PySem.W.kitx_none I.gN True.intro e (fun z=>nomatch z) h
 |bl y=>cases (show u=Value.bool y from rx);exact PySem.W.kia_one PySem.W.kitx_bool I.gN True.intro e (fun z=>nomatch z) h
 |int i=>obtain⟨t,q⟩:=(show∃t,u=Value.int i t from rx);cases q;exact PySem.W.kia_one PySem.W.kitx_int I.gN True.intro e (fun z=>nomatch z) h
 |str y=>obtain⟨t,q⟩:=(show∃t,u=Value.str y t from rx);cases q;exact PySem.W.kia_one PySem.W.kitx_str I.gN True.intro e (fun z=>nomatch z) h
 |p7 y=>obtain⟨t,q⟩:=(show∃t,u=Value.float y t from rx);cases q;exact PySem.W.kia_one PySem.W.kitx_float I.gN True.intro e (fun z=>nomatch z) h
 | @lst a xs ea=>
   cases (show u=Value.ref a from rx)
   obtain⟨_,_,n,_,h1⟩:=(show dm X.prog X.w H s.heap a (.lst xs)from I.aI a _ ea)
   exact PySem.W.kia_one PySem.W.kitx_list I.gN ⟨_,h1,rfl⟩ e (fun z=>nomatch z) h
 | @gj a ob xs ea=>
   cases (show u=Value.ref a from rx)
   obtain⟨_,_,_,n,_,h1⟩:=(show dm X.prog X.w H s.heap a (.gj ob (.lst xs))from I.aI a _ ea)
   exact PySem.W.kia_one PySem.W.kitx_list I.gN ⟨_,h1,rfl⟩ e (fun z=>nomatch z) h
 | @tup a xs ea=>
   cases (show u=Value.ref a from rx)
   obtain⟨_,_,_,p⟩:=(show dm X.prog X.w H s.heap a (.tup xs)from I.aI a _ ea)
   obtain⟨o,h1,h2,_⟩:=p
   exact PySem.W.kia_one PySem.W.kitx_tuple I.gN ⟨o,h1,h2⟩ e (fun z=>nomatch z) h
 | @dK a kvs ea=>
   cases (show u=Value.ref a from rx)
   obtain⟨_,_,vs,_,p⟩:=(show dm X.prog X.w H s.heap a (.dK kvs)from I.aI a _ ea)
   obtain⟨o,es,ep,h1,h2,_⟩:=p
   exact PySem.W.kia_one PySem.W.kitx_dict I.gN ⟨o,h1,h2.1⟩ e (fun z=>nomatch z) h
 | @dT a kvs ea=>
   cases (show u=Value.ref a from rx)
   obtain⟨_,_,xs,_,o,es,ep,h1,h2,_⟩:=(show dm X.prog X.w H s.heap a (.dT kvs)from I.aI a _ ea)
   exact PySem.W.kia_one PySem.W.kitx_dict I.gN ⟨o,h1,h2.1⟩ e (fun z=>nomatch z) h
 | @ins a C dx fs ea cl ha hn htk hm=>
   cases (show u=Value.ref a from rx)
   obtain⟨mA,O,_⟩:=m5 I.aI ea
   obtain⟨od,J,_⟩:=O.look
   exact PySem.W.kia_one (PySem.W.kitx_own (cl.get _) cl.hd ha hn htk hm) I.gN J e (fun z=>nomatch z) h
end
end L2
namespace L2
open PySem PySem.Spec PyProof.Rows
structure cK(k:Nat)(A:Around):Prop where
 hd:A.handled=none
 dp:A.depth+3*k+105<recursionLimit
 un:A.units+16*k+200<cLine
theorem cK.mono{j k:Nat}{A:Around}(r:cK k A)(h:j≤k):cK j A:=⟨r.hd,by have:=r.dp;(first|lia|omega),by have:=r.un;(first|lia|omega)⟩
theorem cK.deeper{k:Nat}{A:Around}(r:cK (k+1) A)(env:Env):cK k (A.deeper env):=
 ⟨r.hd,by have:=r.dp;show A.depth+1+3*k+105<_;(first|lia|omega),by have:=r.un;show A.units+3+16*k+200<_;(first|lia|omega)⟩
theorem yv{A:Around}{C:Addr}{us:List Value}{kw:List (Str×Value)}:(A.under (.builtin "type.__call__" ⟨.ref C::us,kw⟩)).depth=A.depth+1:=by
 first|rfl|simp[Around.under,Code.weight,Code.isCreation,Code.isGuard,Code.isCaller,Code.frames,Code.isFrame,guardIds]
theorem yx{A:Around}{C:Addr}{us:List Value}{kw:List (Str×Value)}:(A.under (.builtin "type.__call__" ⟨.ref C::us,kw⟩)).units=A.units+1:=by
 first|rfl|simp[Around.under,Code.cUnits,Code.frames,Code.isFrame]
theorem cK.make{k:Nat}{A:Around}(r:cK (k+1) A)(C:Addr)(us:List Value)(kw:List (Str×Value)):cK k (A.under (.builtin "type.__call__" ⟨.ref C::us,kw⟩)):=
 ⟨r.hd,by have:=r.dp;rw[yv];(first|lia|omega),by have:=r.un;rw[yx];(first|lia|omega)⟩
theorem cK.depth{k:Nat}{A:Around}(r:cK k A):A.depth<recursionLimit:=by have:=r.dp;(first|lia|omega)
theorem cK.units{k:Nat}{A:Around}(r:cK k A):A.units+64<cLine:=by have:=r.un;(first|lia|omega)
noncomputable def J9:TA:=fun _ H Q=>Q [] H
noncomputable def IT(ta:TE)(tr:TA):TA:=fun σ H Q=>ta σ H fun x H1=>tr σ H1 fun xs H2=>Q (x::xs) H2
section
variable {X:Cx}{e:Expr}{es:List Expr}{te:TE}{t:TA}{pos:Pos}
theorem Gq:PA X [] J9:=fun _ _ _ _ H Q I h=>Calls.spliced_nil ⟨[],H,I,.nil,h⟩
theorem DG(ha:PE X e te)(hr:PA X es t)(hs:starEach (e::es) X.env=(false,eval e X.env)::starEach es X.env:=by rfl):PA X (e::es) (IT te t):=by
 intro pos pins s σ H Q I h
 rw[hs]
 show wpAny _ _ (spliced ((false,eval e X.env)::backTo pos (starEach es X.env))) _ _ s
 refine Calls.spliced_cons (bR (ha pins s σ H _ I h) fun u s1 ⟨x,H1,I1,r1,q1⟩=>?_)
 exact bR (hr pos pins s1 σ H1 _ I1 q1) fun us s2 ⟨xs,H2,I2,r2,q2⟩=>⟨x::xs,H2,I2,.cons r1 r2,q2⟩
noncomputable def Kt(t:TA):TE:=fun σ H Q=>t σ H fun xs H1=>xs.length≤sizeLine∧∀p,H1 p=none→Q (.ref p) (upd H1 p (.tup xs))
noncomputable def J0(t:TA):TE:=fun σ H Q=>t σ H fun xs H1=>xs.length≤sizeLine∧∀p,H1 p=none→Q (.ref p) (upd H1 p (.lst xs))
theorem Ft{x1}(h:PA X es t):PE X (.Tuple es x1 pos) (Kt t):=by
 intro pins s σ H Q I hq
 refine wpAny_Tuple_spliced (bR (h pos pins s σ H _ I hq) fun us s1 ⟨xs,H1,I1,r,z,q⟩=>⟨by rw[←r.length];exact z,?_⟩)
 have hf:H1 s1.heap.objs.size=none:=I1.aI.fresh (Nat.le_refl _)
 refine⟨.ref s1.heap.objs.size,upd H1 s1.heap.objs.size (.tup xs),I1.laid (t':=s1.toks) (fun b u e=>Heap.get?_push_of_some _ e) (Nat.le_refl _) ?_,rfl,q _ hf⟩
 exact⟨z,us,r,⟨_,Heap.get?_push_size _ rfl,rfl,_,rfl⟩⟩
theorem zx(h:PA X es t):PE X (.List es pos) (J0 t):=by
 intro pins s σ H Q I hq
 refine wpAny_List_spliced (bR (h pos pins s σ H _ I hq) fun us s1 ⟨xs,H1,I1,r,z,q⟩=>⟨by rw[←r.length];exact z,?_⟩)
 have hf:H1 s1.heap.objs.size=none:=I1.aI.fresh (Nat.le_refl _)
 refine⟨.ref s1.heap.objs.size,upd H1 s1.heap.objs.size (.lst xs),I1.laid (t':=s1.toks) (fun b u e=>Heap.get?_push_of_some _ e) (Nat.le_refl _) ?_,rfl,q _ hf⟩
 exact⟨z,us,0,r,Heap.get?_push_size _ rfl⟩
end
noncomputable abbrev Sp:=List V→Hp→VK→XK→Prop
noncomputable abbrev pQ:=List Env→Hp→Shared→XK→Value→Shared→Prop
structure qi(P:Program)(w:World)(K:PySem.W.Frag)(mg:Str→Option Value)(base:Heap)(A:Around)(outer:List Env)(s:Shared)(H:Hp):Prop where
 frames:A.frames=some outer
 mod:Mod K mg base
 bs:∀b o,base.get? b=some o→s.heap.get? b=some o∧H b=none
 oo:base.objs.size≤s.heap.objs.size
 jo:s.heap.FunFrames base outer
 qZ:∀b∈mY outer,H b=none
 aI:g5 P w H s.heap
 bare:AllBare s.gens
 gt:P.given.tree=none
noncomputable def CE(outer:List Env)(P:Program)(w:World)(H:Hp)(s:Shared)(Q:VK)(u:Value)(s':Shared):Prop:=
 ∃v H',s'.os=s.os∧AllBare s'.gens∧Un (mY outer) [] H H' s.heap s'.heap∧g5 P w H' s'.heap∧RelV v u∧Q v H'
noncomputable def CR(CX:pQ)(outer:List Env)(P:Program)(w:World)(H:Hp)(s:Shared)(Q:VK)(E:XK)(r:Result)(s':Shared):Prop:=
 match r with
 | .ok (.ret u)=>CE outer P w H s Q u s'
 | .ok _=>False
 | .error e=>CX outer H s E e s'
structure aw(P:Program)(w:World)(K:PySem.W.Frag)(mg:Str→Option Value)(base:Heap)(CX:pQ)(k:Nat)(f:Addr)(fd:FuncData)(ps:List Str)(sp:Sp):Prop where
 len:∀vs H Q E,sp vs H Q E→vs.length=ps.length
 run:∀(A:Around) (outer:List Env) (s:Shared) (H:Hp) (args:Args) (us:List Value) (vs:List V) (Q:VK) (E:XK),cK k A→qi P w K mg base A outer s H→BindsTo s fd args (ps.zip us)→Vals vs us→sp vs H Q E→
  codeAny (model P w) A (.call (.ref f) args) (CR CX outer P w H s Q E) s
theorem aw.imp{P:Program}{w:World}{K:PySem.W.Frag}{mg:Str→Option Value}{base:Heap}{CX:pQ}{k:Nat}{f:Addr}{fd:FuncData}{ps:List Str}{sp sp':Sp}(F:aw P w K mg base CX k f fd ps sp)
 (h:∀vs H Q E,sp' vs H Q E→sp vs H Q E):aw P w K mg base CX k f fd ps sp':=
 ⟨fun vs H Q E q=>F.len vs H Q E (h _ _ _ _ q),fun A outer s H args us vs Q E hr he hb hv hs=>F.run A outer s H args us vs Q E hr he hb hv (h _ _ _ _ hs)⟩
theorem qi.make{P:Program}{w:World}{K:PySem.W.Frag}{mg:Str→Option Value}{base:Heap}{A:Around}{outer:List Env}{s:Shared}{H:Hp}(e:qi P w K mg base A outer s H)(C:Addr)(us:List Value)(kw:List (Str×Value)):
 qi P w K mg base (A.under (.builtin "type.__call__" ⟨.ref C::us,kw⟩)) outer s H:=⟨by first|exact e.frames|(simpa[Around.under,Code.envs,Code.isFrame,pushEnvs]using e.frames),e.mod,e.bs,e.oo,e.jo,e.qZ,e.aI,e.bare,e.gt⟩
section
variable {X:Cx}{pins:List (Addr×Obj)}{σ:St}{H:Hp}{s s':Shared}
theorem Inv.FP(I:Inv X pins σ H s):qi X.prog X.w X.K X.mg X.base X.A X.stack s H:=
 ⟨I.ok.frames,I.ok.mod,I.bs,Nat.le_trans I.ok.oo I.sz,I.stack,I.su,I.aI,I.bare,I.ok.gt⟩
theorem Inv.after{Q:VK}{u:Value}(I:Inv X pins σ H s)(h:CE X.stack X.prog X.w H s Q u s'):EP X pins σ Q u s':=by
 obtain⟨v,H',os,bare,un,aI,r,q⟩:=h
 obtain⟨hh,g,d,t,os'⟩:=s'
 obtain rfl:os'=s.os:=os
 exact⟨v,H',I.call (h':=hh) (g':=g) (d':=d) (t':=t) (ch:=[]) un aI bare (fun b z=>absurd z (by simp)),r,q⟩
end
noncomputable def CB(sp:Sp)(dvs:List V)(E:XK)(t:TA):TE:=fun σ H Q=>t σ H fun vs H1=>sp (vs++dvs) H1 Q E
noncomputable def CP(C:Addr)(m:Str)(sp:Sp)(dvs:List V)(E:XK)(ta:TE)(t:TA):TE:=fun σ H Q=>ta σ H fun x H1=>∃a dx fs,x= .ref a∧H1 a=some (.ins C dx fs)∧fs.lookup m=none∧
 t σ H1 fun vs H2=>sp (x::(vs++dvs)) H2 Q E
noncomputable def Cr(C:Addr)(sp:Sp)(dvs:List V)(E:XK)(t:TA):TE:=fun σ H Q=>t σ H fun vs H1=>∀x dx,H1 x=none→H1 dx=none→dx≠x→
 sp (.ref x::(vs++dvs)) (upd (upd H1 dx (.own x)) x (.ins C dx [])) (fun v H2=>v= .aC∧Q (.ref x) H2) E
noncomputable def Binds(K:PySem.W.Frag)(fd:FuncData)(ps:List Str)(ds:List Value):Prop:=
 ∀(s:Shared) (us:List Value),K.In s.heap→(us++ds).length=ps.length→BindsTo s fd ⟨us,[]⟩ (ps.zip (us++ds))
theorem Binds.all{K:PySem.W.Frag}{fd:FuncData}{ps:List Str}(h:∀us:List Value,us.length=ps.length→bindArgs fd ⟨us,[]⟩=pure (ps.zip us)):Binds K fd ps []:=fun s us _ hl=>by
 rw[List.append_nil]at hl⊢
 exact .of_eq (h us hl)
noncomputable def Passes(CX:pQ)(X:Cx)(E:XK):Prop:=∀(pins:List (Addr×Obj)) (σ:St) (H:Hp) (s:Shared) (e:Value) (s':Shared),Inv X pins σ H s→CX X.stack H s E e s'→X.xe e s'
section
variable {X:Cx}{CX:pQ}{k:Nat}{f C:Addr}{fd:FuncData}{ps:List Str}{sp:Sp}{dvs:List V}{ds:List Value}{E:XK}{x m:Str}{p pos apos:Pos}{e o:Expr}{es:List Expr}{ta:TE}{t:TA}
theorem zf{pins:List (Addr×Obj)}{σ:St}{H:Hp}{s:Shared}{Q:VK}{us:List Value}{vs:List V}(F:aw X.prog X.w X.K X.mg X.base CX k f fd ps sp)(hr:cK k X.A)(hb:Binds X.K fd ps ds)(hd:Vals dvs ds)(hx:Passes CX X E)
 (I:Inv X pins σ H s) (r:Vals vs us) (h:sp (vs++dvs) H Q E):wpAny (model X.prog X.w) X.A (call (.ref f) us) (EP X pins σ Q) X.xe s:=by
 have r2:Vals (vs++dvs) (us++ds):=r.append hd
 have hl:(us++ds).length=ps.length:=by rw[←r2.length];exact F.len _ _ _ _ h
 refine wpAny_call (codeAny_mono (F.run X.A X.stack s H ⟨us,[]⟩ (us++ds) (vs++dvs) Q E hr I.FP (hb s us I.gN hl) r2 h) fun r s' hq=>?_)
 cases r with
 |error e=>exact hx pins σ H s e s' I hq
 |ok fl=>
  cases fl with
  |ret u=>exact I.after hq
  |next=>exact False.elim hq
  |brk=>exact False.elim hq
  |cont=>exact False.elim hq
theorem Dm(F:aw X.prog X.w X.K X.mg X.base CX k f fd ps sp)(hr:cK k X.A)(hg:Gl X x)(hm:X.mg x=some (.ref f))(hk:PySem.W.keepIn X.K (.ref f)=true)(hb:Binds X.K fd ps ds)(hd:Vals dvs ds)(hx:Passes CX X E)
 (ha:PA X (e::es) t) (hdb:(x==("__debug__":Str))=false:=by decide) (he:starEach (e::es) X.env=(false,eval e X.env)::starEach es X.env:=by rfl) (hpl:(backTo pos (starEach es X.env)).any (·.1)=false:=by rfl):
 PE X (.Call (.Name x p) (e::es) [] pos) (CB sp dvs E t):=by
 intro pins s σ H Q I h
 refine wpAny_Call_Name_kw (xF I hg hm ?_ hdb)
 refine PySem.W.callWith_K (h₀:=X.base) I.ok.mod.zC hk (bR (ha pos pins s σ H _ I h) fun us s1 ⟨vs,H1,I1,r,q⟩=>⟨I1.gN,?_⟩) he hpl
 exact zf F hr hb hd hx I1 r q
theorem EJ{pl:Sem Bool}(he:PE X o ta)(c:lI X.K C)(hm:Meth X.K C m f)(F:aw X.prog X.w X.K X.mg X.base CX k f fd ps sp)(hr:cK k X.A)(hb:Binds X.K fd ps ds)(hd:Vals dvs ds)(hx:Passes CX X E)(ha:PA X (e::es) t)
 (hst:starEach (e::es) X.env=(false,eval e X.env)::starEach es X.env:=by rfl) (hpl:(backTo pos (starEach es X.env)).any (·.1)=false:=by rfl)
 (ht:eval (.Call (.Attribute o m apos) (e::es) [] pos) X.env=(do
   let ov ←eval o X.env
   standAt apos.atName
   let(f,first) ←holding [ov] (getMethod ov m pl)
   callWith pos f first (backTo pos (starEach (e::es) X.env)) (backToKw pos (keywordEach [] X.env))):=by rfl):
 PE X (.Call (.Attribute o m apos) (e::es) [] pos) (CP C m sp dvs E ta t):=by
 intro pins s σ H Q I h
 refine PySem.W.methodCall_KW (pl:=pl) (bR (he pins s σ H _ I h) fun u s1 ⟨x,H1,I1,rx,a,dx,fs,ex,ea,l,q⟩=>?_) ht
 subst ex
 obtain rfl:u=Value.ref a:=rx
 refine xO I1 ea c hm l ?_
 refine PySem.W.callWith_K (first:=[.ref a]) (h₀:=X.base) I.ok.mod.zC hm.kp (bR (ha pos pins s1 σ H1 _ I1 q) fun us s2 ⟨vs,H2,I2,r,q2⟩=>⟨I2.gN,?_⟩) hst hpl
 exact zf (us:= .ref a::us) (vs:= .ref a::vs) F hr hb hd hx I2 (.cons rfl r) q2
structure Mk(K:PySem.W.Frag)(C f:Addr):Prop where
 makes:PySem.W.makesIn K C=true
 init:PySem.W.findIn K (.ref C) "__init__"=some (some (.ref f))
 fn:PySem.W.isFn K (.ref f)=true
 kp:PySem.W.keepIn K (.ref C)=true
theorem BJ{pins:List (Addr×Obj)}{σ:St}{H:Hp}{s:Shared}{Q:VK}{us:List Value}{vs:List V}(M:Mk X.K C f)(F:aw X.prog X.w X.K X.mg X.base CX k f fd ps sp)(hr:cK (k+1) X.A)(hb:Binds X.K fd ps ds)(hd:Vals dvs ds)
 (hx:Passes CX X E) (I:Inv X pins σ H s) (r:Vals vs us)
 (h:∀x dx,H x=none→H dx=none→dx≠x→sp (.ref x::(vs++dvs)) (upd (upd H dx (.own x)) x (.ins C dx [])) (fun v H2=>v= .aC∧Q (.ref x) H2) E):
 wpAny (model X.prog X.w) X.A (call (.ref C) us) (EP X pins σ Q) X.xe s:=by
 have hq:=h (s.heap.objs.size+1) s.heap.objs.size (I.aI.fresh (Nat.le_succ _)) (I.aI.fresh (Nat.le_refl _)) (Nat.ne_of_lt (Nat.lt_succ_self _))
 have I2:=Inv.made (C:=C) I
 have r2:Vals (V.ref (s.heap.objs.size+1)::(vs++dvs)) (Value.ref (s.heap.objs.size+1)::(us++ds)):= .cons rfl (r.append hd)
 have hl:(Value.ref (s.heap.objs.size+1)::us++ds).length=ps.length:=by
  have e:=r2.length
  rw[F.len _ _ _ _ hq]at e
  exact e.symm
 refine wpAny_call (BX (f:=f) I.gN M.makes M.init (beq_iff_eq.mp M.fn) (codeAny_mono (F.run _ X.stack _ _ ⟨Value.ref (s.heap.objs.size+1)::us,[]⟩ (Value.ref (s.heap.objs.size+1)::(us++ds)) _ _ E (hr.make C us [])
  (I2.FP.make C us []) (hb _ (Value.ref (s.heap.objs.size+1)::us) I2.gN hl) r2 hq) fun r s' hq'=>?_))
 cases r with
 |error e=>exact hx pins σ _ _ e s' I2 hq'
 |ok fl=>
  cases fl with
  |ret u=>
   obtain⟨v,H',I3,rv,ev,q3⟩:=I2.after hq'
   subst ev
   exact⟨rv,⟨V.ref (s.heap.objs.size+1),H',I3,rfl,q3⟩⟩
  |next=>exact False.elim hq'
  |brk=>exact False.elim hq'
  |cont=>exact False.elim hq'
theorem Ex(M:Mk X.K C f)(F:aw X.prog X.w X.K X.mg X.base CX k f fd ps sp)(hr:cK (k+1) X.A)(hg:Gl X x)(hm:X.mg x=some (.ref C))(hb:Binds X.K fd ps ds)(hd:Vals dvs ds)(hx:Passes CX X E)
 (ha:PA X (e::es) t) (hdb:(x==("__debug__":Str))=false:=by decide) (he:starEach (e::es) X.env=(false,eval e X.env)::starEach es X.env:=by rfl) (hpl:(backTo pos (starEach es X.env)).any (·.1)=false:=by rfl):
 PE X (.Call (.Name x p) (e::es) [] pos) (Cr C sp dvs E t):=by
 intro pins s σ H Q I h
 refine wpAny_Call_Name_kw (xF I hg hm ?_ hdb)
 refine PySem.W.callWith_K (h₀:=X.base) I.ok.mod.zC M.kp (bR (ha pos pins s σ H _ I h) fun us s1 ⟨vs,H1,I1,r,q⟩=>⟨I1.gN,?_⟩) he hpl
 exact BJ M F hr hb hd hx I1 r q
end
section
variable {X:Cx}{CX:pQ}{k:Nat}{f C:Addr}{fd:FuncData}{ps ks:List Str}{sp:Sp}{E:XK}{x m:Str}{p pos apos kpos:Pos}{e o:Expr}{es:List Expr}{kws:List Keyword}{te ta:TE}{t tk:TA}{nm:Option Str}
variable {g:List Value→List Value→List Value}{gV:List V→List V→List V}
end
structure bo(N P:List Str)(sc:Scope):Prop where
 kind:sc.kind= .function
 co:sc.isCoroutine=false
 gen:sc.isGenerator=false
 nd:N.Nodup
 pre:N.take P.length=P
 par:∀x∈P,sc.names.lookup x=some .local∨sc.names.lookup x=some .cell
 E9:∀y∈sc.names,y.2≠ .free
theorem s_{kindOf:Str→Option NameKind}{x:Str}:∀ {binds:List (Str×Value)} {m:Str→Option Value},(∀v,(x,v)∉binds)→bindL kindOf binds m x=m x
 | [],_,_=>rfl
 |(n,v)::r,m,h=>by
  unfold bindL
  rw[s_ fun w hw=>h w (List.mem_cons_of_mem _ hw)]
  split
  · have:x≠n:=by rintro rfl;exact h v List.mem_cons_self
    simp[this]
  · rfl
theorem tu{kindOf:Str→Option NameKind}{x:Str}:∀ {binds:List (Str×Value)} {m:Str→Option Value},(∀v,(x,v)∉binds)→bindC kindOf binds m x=m x
 | [],_,_=>rfl
 |(n,v)::r,m,h=>by
  unfold bindC
  rw[tu fun w hw=>h w (List.mem_cons_of_mem _ hw)]
  split
  · rfl
  · have:x≠n:=by rintro rfl;exact h v List.mem_cons_self
    simp[this]
theorem tK{kindOf:Str→Option NameKind}{x:Str}{v:Value}:∀ {P:List Str} {vs:List Value} {i:Nat} {m:Str→Option Value},P.Nodup→P[i]?=some x→vs[i]?=some v→kindOf x=some .local→
 bindL kindOf (P.zip vs) m x=some v
 | [],_,_,_,_,h,_,_=>by simp at h
 |_::_,[],_,_,_,_,h,_=>by simp at h
 |p::P,w::vs,0,m,nd,h1,h2,hk=>by
  simp at h1 h2;subst h1;subst h2
  show bindL kindOf ((p,w)::P.zip vs) m p=_
  unfold bindL
  rw[s_ fun v hv=>(List.nodup_cons.mp nd).1 (List.of_mem_zip hv).1,if_pos hk]
  simp
 |p::P,w::vs,i+1,m,nd,h1,h2,hk=>by
  show bindL kindOf ((p,w)::P.zip vs) m x=_
  unfold bindL
  exact tK (i:=i) (List.nodup_cons.mp nd).2 (by simpa using h1) (by simpa using h2) hk
theorem tF{kindOf:Str→Option NameKind}{x:Str}{v:Value}:∀ {P:List Str} {vs:List Value} {i:Nat} {m:Str→Option Value},P.Nodup→P[i]?=some x→vs[i]?=some v→kindOf x≠some .local→
 bindC kindOf (P.zip vs) m x=some v
 | [],_,_,_,_,h,_,_=>by simp at h
 |_::_,[],_,_,_,_,h,_=>by simp at h
 |p::P,w::vs,0,m,nd,h1,h2,hk=>by
  simp at h1 h2;subst h1;subst h2
  show bindC kindOf ((p,w)::P.zip vs) m p=_
  unfold bindC
  rw[tu fun v hv=>(List.nodup_cons.mp nd).1 (List.of_mem_zip hv).1,if_neg hk]
  simp
 |p::P,w::vs,i+1,m,nd,h1,h2,hk=>by
  show bindC kindOf ((p,w)::P.zip vs) m x=_
  unfold bindC
  exact tF (i:=i) (List.nodup_cons.mp nd).2 (by simpa using h1) (by simpa using h2) hk
noncomputable def start(N:List Str)(vs:List V):St:=vs.map some++List.replicate (N.length-vs.length) none
noncomputable def nh(CX:pQ)(P:Program)(w:World)(K:PySem.W.Frag)(mg:Str→Option Value)(base:Heap)(N:List Str)(qual:Str)(scope:Scope)(f:Addr)(cd:Value)(A:Around)(outer:List Env)(s:Shared)(H:Hp)(E:XK):Cx where
 prog:=P
 w:=w
 K:=K
 mg:=mg
 base:=base
 A:=A.deeper (envOfC qual scope s.heap.objs.size f cd)
 N:=N
 s₀:=s
 H₀:=H
 env:=envOfC qual scope s.heap.objs.size f cd
 outer:=outer
 stack:=envOfC qual scope s.heap.objs.size f cd::outer
 ex:=[]
 calm:=true
 fn:=fun _=>true
 pn:=[]
 xe:=fun e s'=>wpAny (model P w) (A.deeper (envOfC qual scope s.heap.objs.size f cd)) (leaving (envOfC qual scope s.heap.objs.size f cd) e) (fun _ s''=>CX outer H s E e s'') (fun e' s''=>CX outer H s E e' s'') s'
theorem vG{sc:Scope}{n:Nat}{x:Str}(h:sc.names.lookup x=some .cell):∃c,(cellsFrom n sc.names []).lookup x=some c:=by
 have q:=PySem.W.cellsFrom_some sc.names n [] (.inl h)
 exact Option.isSome_iff_exists.mp q
theorem zd{CX:pQ}{P:Program}{w:World}{K:PySem.W.Frag}{mg:Str→Option Value}{base:Heap}{N ps:List Str}{qual:Str}{scope:Scope}{f:Addr}{cd:Value}{A:Around}{outer:List Env}{s s1:Shared}{H:Hp}{E:XK}{us:List Value}{vs:List V}
 (S:bo N ps scope) (hd:A.handled=none) (e0:qi P w K mg base A outer s H) (hl:vs.length=ps.length) (r:Vals vs us)
 (x:InCallC s s.heap.objs.size (bindL (envOfC qual scope s.heap.objs.size f cd).kindOf (ps.zip us) fun _=>none) (cellsFrom (s.heap.objs.size+1) scope.names []) (bindC (envOfC qual scope s.heap.objs.size f cd).kindOf (ps.zip us) fun _=>none) s1):
 Inv (nh CX P w K mg base N qual scope f cd A outer s H E) [] (start N vs) H s1:=by
 have hpl:ps.length≤N.length:=by have:=congrArg List.length S.pre;rw[List.length_take]at this;(first|lia|omega)
 obtain⟨h1,tk,rfl,hk⟩:=x.done
 have noA:∀b:Addr,b∉(nh CX P w K mg base N qual scope f cd A outer s H E).ex:=fun b z=>absurd (show b∈([]:List Addr)from z) (by simp)
 refine⟨⟨e0.mod,S.kind,rfl,rfl,Nat.le_refl _,fun y z c h1 h2=>?_,fun y hy=>?_,fun y c _ h=>?_,fun _=>hd,Around.frames_deeper e0.frames,.inr ⟨rfl,rfl⟩,fun b z=>absurd z (noA b),e0.bs,e0.oo,fun b _ _=>noA b,fun b z=>absurd z (noA b),e0.jo,e0.qZ,e0.gt⟩,
  rfl,e0.bare,Un.kept hk,⟨_,x.toInCall.ns,fun i y v h1 h2 h3=>?_⟩,fun y c h=>⟨_,x.cell y c h⟩,e0.aI.fresh (Nat.le_refl _),fun y c h=>?_,fun p hp=>absurd (show p∈([]:List (Addr×Obj))from hp) (by simp),e0.aI.kept hk,?_⟩
 · exact name_of_addr x.apart (PySem.mem_of_lookup h1) (PySem.mem_of_lookup h2)
 · have hy:scope.names.lookup y=some .cell∨scope.names.lookup y=some .free:=hy
   rcases hy with hy|hy
   · exact vG hy
   · exact absurd rfl (S.E9 _ (PySem.mem_of_lookup hy))
 · exact Nat.le_of_lt (x.above y c (PySem.mem_of_lookup h))
 · have hi:i<vs.length:=by
    unfold start at h2
    by_cases hi:i<vs.length
    · exact hi
    · rw[List.getElem?_append_right (by simpa using hi)]at h2
      rw[List.getElem?_replicate]at h2
      split at h2<;>cases h2
   have ha:vs[i]?=some v:=by
    unfold start at h2
    rw[List.getElem?_append_left (by simpa using hi),List.getElem?_map]at h2
    cases e:vs[i]? with
    |none=>rw[e]at h2;cases h2
    |some a=>rw[e]at h2;cases h2;rfl
   obtain⟨u,hu,rv⟩:=r.get ha
   have hp:ps[i]?=some y:=by
    rw[←S.pre,List.getElem?_take_of_lt (by(first|lia|omega))];exact h1
   have ndP:ps.Nodup:=by rw[←S.pre];exact S.nd.sublist (List.take_sublist _ _)
   refine⟨u,rv,?_⟩
   rcases S.par y (List.mem_of_getElem? hp)with k|k
   · exact .inl ⟨k,tK ndP hp hu k⟩
   · obtain⟨c,e⟩:=vG (n:=s.heap.objs.size+1) k
     refine .inr ⟨.inl k,c,e,?_⟩
     have q:=x.cell y c e
     rw[tF ndP hp hu (by show scope.names.lookup y≠_;rw[k];decide)]at q
     exact q
 · exact e0.aI.fresh (Nat.le_of_lt (x.above y c (PySem.mem_of_lookup h)))
 · unfold start
   show _=N.length
   rw[List.length_append,List.length_map,List.length_replicate]
   (first|lia|omega)
theorem CW{CX:pQ}{P:Program}{w:World}{K:PySem.W.Frag}{mg:Str→Option Value}{base:Heap}{k:Nat}{f:Addr}{name qual:Str}{params:Arguments}{body:List Stmt}{scope:Scope}{dV kV doc pm cdv ct oc:Value}{an od:Option Addr}
 {osl:Array (Option Value)} {N ps:List Str} {sp:Sp} (lk:K.lookup f=some ⟨oc,od,.func (PySem.W.fnOf name qual params body scope dV kV doc pm an cdv ct),osl⟩) (hcd:PySem.W.codeIn K cdv qual=true) (S:bo N ps scope)
 (len:∀vs H Q E,sp vs H Q E→vs.length=ps.length)
 (hbody:∀(A:Around) (outer:List Env) (s:Shared) (H:Hp) (vs:List V) (Q:VK) (E:XK),cK k (A.deeper (envOfC qual scope s.heap.objs.size f cdv))→sp vs H Q E→
   ∃t,gM (nh CX P w K mg base N qual scope f cdv A outer s H E) body t∧t {nx:=fun _ H'=>Q .aC H',rt:=Q} (start N vs) H):
 aw P w K mg base CX (k+1) f (PySem.W.fnOf name qual params body scope dV kV doc pm an cdv ct) ps sp:=by
 refine⟨len,fun A outer s H args us vs Q E hr e0 hb r hsp=>?_⟩
 have hl:=len _ _ _ _ hsp
 have KX:K.In s.heap:=e0.mod.zC.keeps fun b o e=>(e0.bs b o e).1
 have lim:s.heap.NoLimit:=e0.mod.nolimit.keeps fun b o e=>(e0.bs b o e).1
 have hkind:∀y∈ps.zip us,scope.names.lookup y.1=some .local∨(scope.names.lookup y.1=some .cell∧((cellsFrom (s.heap.objs.size+1) scope.names []).lookup y.1).isSome=true):=fun⟨n,v⟩ hy=>by
  rcases S.par n (List.of_mem_zip hy).1 with q|q
  · exact .inl q
  · exact .inr ⟨q,PySem.W.cellsFrom_some _ _ _ (.inl q)⟩
 refine codeAny_call_function hr.depth (KX _ _ lk) rfl S.co S.gen rfl (PySem.W.codeRec_of KX hcd) (hb _ _ _ _ ?_)
 refine wpAny_newFunctionEnv_cells S.kind hkind fun env he s1 x=>?_
 subst he
 refine⟨lim.keeps x.toInCall.keep,codeAny_func ?_⟩
 obtain⟨t,ht,hq⟩:=hbody A outer s H vs Q E (hr.deeper _) hsp
 have I:Inv (nh CX P w K mg base N qual scope f cdv A outer s H E) [] (start N vs) H s1:=zd S hr.hd e0 hl r x
 refine wpAny_mono (ht [] s1 (start N vs) H _ I hq) (fun fl s' hs=>?_) fun e s' hs=>hs
 have fin:∀ {σ':St} {H':Hp} {v:V} {u:Value},Inv (nh CX P w K mg base N qual scope f cdv A outer s H E) [] σ' H' s'→RelV v u→Q v H'→CE outer P w H s Q u s':=
  fun{σ' H' v u} J rv q=>⟨v,H',J.os,J.bare,J.base,J.aI,rv,q⟩
 cases fl with
 |ret u=>
  obtain⟨v,σ',H',J,rv,q⟩:=hs
  exact fin J rv q
 |next=>
  obtain⟨σ',H',J,q⟩:=hs
  exact fin (v:=V.aC) (u:=Value.none) J rfl q
 |brk=>
  obtain⟨_,_,_,q⟩:=hs
  exact False.elim q
 |cont=>
  obtain⟨_,_,_,q⟩:=hs
  exact False.elim q
end L2
namespace L2
open PySem PySem.Spec PyProof.Rows
section
variable {X:Cx}{x:Str}{p pos:Pos}{e:Expr}{es:List Expr}{t:TA}{id T:String}{r:List V→Hp→VK→Prop}
noncomputable def GV(r:List V→Hp→VK→Prop)(t:TA):TE:=fun σ H Q=>t σ H fun vs H1=>r vs H1 Q
theorem AZ(hc:bJ X (.builtin id) r)(hg:Gl X x)(hm:X.mg x=none)(hv:bootBuiltins x=some (.builtin id))(ha:PA X (e::es) t)(hn:x≠"__name__":=by decide)(hdb:(x==("__debug__":Str))=false:=by decide)
 (he:starEach (e::es) X.env=(false,eval e X.env)::starEach es X.env:=by rfl) (hpl:(backTo pos (starEach es X.env)).any (·.1)=false:=by rfl):PE X (.Call (.Name x p) (e::es) [] pos) (GV r t):=by
 intro pins s σ H Q I h
 refine wpAny_Call_Name_kw (kg I hg hm hv ?_ hn hdb)
 exact PyProof.Rows.callWith_builtin1 (bR (ha pos pins s σ H _ I h) fun us s1 ⟨vs,H1,I1,r1,q1⟩=>hc pins s1 σ H1 vs us Q I1 r1 q1) he hpl
theorem zG(hc:bJ X (.type T) r)(hg:Gl X x)(hm:X.mg x=none)(hv:bootBuiltins x=some (.type T))(ha:PA X (e::es) t)(hn:x≠"__name__":=by decide)(hdb:(x==("__debug__":Str))=false:=by decide)
 (he:starEach (e::es) X.env=(false,eval e X.env)::starEach es X.env:=by rfl) (hpl:(backTo pos (starEach es X.env)).any (·.1)=false:=by rfl):PE X (.Call (.Name x p) (e::es) [] pos) (GV r t):=by
 intro pins s σ H Q I h
 refine wpAny_Call_Name_kw (kg I hg hm hv ?_ hn hdb)
 exact PyProof.Rows.callWith_type1 (bR (ha pos pins s σ H _ I h) fun us s1 ⟨vs,H1,I1,r1,q1⟩=>hc pins s1 σ H1 vs us Q I1 r1 q1) he hpl
end
end L2
namespace HT
open PySem PyProof.Rows
section
open PySem.SeqAt
open PySem.AutoSeq1 (wpAny_loadPart')
open PySem.MeetsSeq PySem.MeetsSeq2 PySem.MeetsSeq3
end
section
variable {prog:Program}{w:World}{A:Around}{E:Value→Shared→Prop}{s:Shared}
theorem EW{t b:Addr}{vs ws:List Value}{Q:Value→Shared→Prop}(ht:IsTup s.heap t vs.toArray)(hb:IsTup s.heap b ws.toArray)(hv:vs≠ [])
 (h1:ws=[]→Q (.ref t) s) (h2:ws≠ []→Q (.ref s.heap.objs.size) {s with heap:=s.heap.push {cls:= .type "tuple",data:= .seq (vs++ws).toArray}})
 (hsz:vs.length+ws.length≤sizeLine):wpAny (model prog w) A (binaryOp .Add (.ref t) (.ref b)) Q E s:=by
 obtain⟨⟨cls,dd,data,sl⟩,ho,hc,n,hd⟩:=id ht
 obtain⟨⟨cls2,dd2,data2,sl2⟩,ho2,hc2,n2,hd2⟩:=id hb
 simp only at hc hd hc2 hd2
 subst hc hd hc2 hd2
 have e:vs.toArray++ws.toArray=(vs++ws).toArray:=by simp
 by_cases hw:ws=[]
 · exact concat_meets ⟨_,ho,rfl⟩ ⟨_,ho2,rfl⟩ noFill_tuple_add seq_tuple_add PySem.F.slot_tuple_add PySem.F.entry_tuple_add (PySem.F.args_tuple_add_2 _ _)
    (tuple_addW1 t b vs.toArray ws.toArray n n2 dd dd2 sl sl2 (by simpa using hv) (by simp[hw])) ⟨ho,ho2,h1 hw⟩
 · refine concat_meets ⟨_,ho,rfl⟩ ⟨_,ho2,rfl⟩ noFill_tuple_add seq_tuple_add PySem.F.slot_tuple_add PySem.F.entry_tuple_add (PySem.F.args_tuple_add_2 _ _)
    (tuple_addW2 t b vs.toArray ws.toArray n n2 dd dd2 sl sl2 (by simpa using hv) (by simpa using hw) (by rw[List.size_toArray,List.size_toArray];exact hsz)) ⟨ho,ho2,?_⟩
   rw[e]
   exact h2 hw
noncomputable def bS(n d:Nat):Option Int→Nat
 |none=>d
 |some v=>if v<0 then(v+(n:Int)).toNat else min v.toNat n
theorem BE(n d:Nat):bS n d none=d:=rfl
theorem EV(n d k:Nat):bS n d (some (k:Int))=min k n:=by
 show(if(k:Int)<0 then((k:Int)+(n:Int)).toNat else min (k:Int).toNat n)=min k n
 rw[if_neg (by(first|lia|omega)),Int.toNat_natCast]
theorem GI(n d:Nat)(hd:d≤n)(o:Option Int):bS n d o≤n:=by
 cases o with
 |none=>exact hd
 |some v=>
  show(if v<0 then(v+(n:Int)).toNat else min v.toNat n)≤n
  by_cases hv:v<0
  · rw[if_pos hv];(first|lia|omega)
  · rw[if_neg hv];exact Nat.min_le_right _ _
theorem wV(v:Int)(n d:Nat):(if v<0 then max (v+(n:Int)) 0 else min v (n:Int))=((bS n d (some v):Nat):Int):=by
 show(if v<0 then max (v+(n:Int)) 0 else min v (n:Int))=(((if v<0 then(v+(n:Int)).toNat else min v.toNat n):Nat):Int)
 by_cases hv:v<0
 · simp only[if_pos hv];(first|lia|omega)
 · simp only[if_neg hv];(first|lia|omega)
theorem yl(lo hi:Option Int)(n:Nat):Builtin.Slice.sliceAdjust lo hi 1 (n:Int)=(((bS n 0 lo:Nat):Int),((bS n n hi:Nat):Int)):=by
 have h1:¬((1:Int)<0):=by(first|lia|omega)
 unfold Builtin.Slice.sliceAdjust
 simp only[h1,if_false]
 refine Prod.ext ?_ ?_
 · cases lo with
   |none=>rfl
   |some v=>exact wV v n 0
 · cases hi with
   |none=>rfl
   |some v=>exact wV v n n
theorem yD(i j:Nat):Builtin.Slice.slicePlaces (i:Int) (j:Int) 1=j-i:=by
 unfold Builtin.Slice.slicePlaces
 have h1:(1:Int)>0:=by(first|lia|omega)
 simp only[h1,if_true,Int.ediv_one]
 split<;>(first|lia|omega)
theorem rG{v:Value}{o:Option Int}{Q:Option Int→Shared→Prop}(p:IsPart v o)(h:Q o s):wpAny (model prog w) A (Builtin.Slice.slicePartIndex v) Q E s:=by
 cases p with
 |none=>exact slicePart_none h
 |int i t=>exact slicePart_int h
theorem lE{sl:Addr}{vl vu:Value}{lo hi:Option Int}{n:Nat}{Q:Int×Int×Nat→Shared→Prop}(hs:s.heap.IsSliceOf sl vl vu .none)(pl:IsPart vl lo)(pu:IsPart vu hi)
 (h:Q (((bS n 0 lo:Nat):Int),1,bS n n hi-bS n 0 lo) s):wpAny (model prog w) A (Builtin.Slice.sliceApplied (.ref sl) (pure (n:Int))) Q E s:=by
 obtain⟨os,hos,hcs,hds⟩:=id hs
 unfold Builtin.Slice.sliceApplied Builtin.Slice.sliceFields
 refine wpAny_bind (wpAny_bind (wpAny_field hos hds (x:=vl) rfl (wpAny_bind (wpAny_field hos hds (x:=vu) rfl (wpAny_bind (wpAny_field hos hds (x:= .none) rfl (wpAny_pure ?_)))))))
 refine wpAny_bind (slicePart_none ?_)
 show wpAny _ _ (if((1:Int)==0)=true then _ else _) _ _ s
 rw[if_neg (by decide)]
 refine wpAny_bind (rG pl (wpAny_bind (rG pu (wpAny_bind (wpAny_pure ?_)))))
 show wpAny _ _ (match Builtin.Slice.sliceAdjust lo hi 1 (n:Int)with|(lo,hi)=>pure (lo,(1:Int),Builtin.Slice.slicePlaces lo hi 1)) _ _ s
 rw[yl lo hi n]
 show wpAny _ _ (pure (((bS n 0 lo:Nat):Int),(1:Int),Builtin.Slice.slicePlaces ((bS n 0 lo:Nat):Int) ((bS n n hi:Nat):Int) 1)) _ _ s
 rw[yD]
 exact wpAny_pure h
theorem Bs(xs:Array Value)(i k:Nat):((List.range k).filterMap fun(m:Nat)=>xs[((i:Int)+(m:Int)*1).toNat]?).toArray=((xs.toList.drop i).take k).toArray:=by
 have e:(fun(m:Nat)=>xs[((i:Int)+(m:Int)*1).toNat]?)=fun m=>xs[i+m]?:=by
  funext m
  have:((i:Int)+(m:Int)*1).toNat=i+m:=by(first|lia|omega)
  rw[this]
 rw[e]
 have:=pick_run xs i k
 rw[List.filterMap_map]at this
 have e2:((fun x=>xs[x]?)∘fun x=>i+x)=fun m=>xs[i+m]?:=rfl
 rw[e2]at this
 rw[this]
theorem pL{t sl:Addr}{items:Array Value}{vl vu:Value}{lo hi:Option Int}{Q:Value→Shared→Prop}(ht:IsTup s.heap t items)(hs:s.heap.IsSliceOf sl vl vu .none)(pl:IsPart vl lo)(pu:IsPart vu hi)
 (hw:¬(bS items.size 0 lo=0∧bS items.size items.size hi=items.size))
 (h:Q (.ref s.heap.objs.size) {s with heap:=s.heap.push {cls:= .type "tuple",data:= .seq ((items.toList.drop (bS items.size 0 lo)).take (bS items.size items.size hi-bS items.size 0 lo)).toArray}})
 (hsz:items.size≤sizeLine):wpAny (model prog w) A (getItem (.ref t) (.ref sl)) Q E s:=by
 have htake:sizeOk (.seq ((items.toList.drop (bS items.size 0 lo)).take (bS items.size items.size hi-bS items.size 0 lo)).toArray):=by
  show((items.toList.drop (bS items.size 0 lo)).take (bS items.size items.size hi-bS items.size 0 lo)).toArray.size≤sizeLine
  rw[List.size_toArray,List.length_take,List.length_drop,Array.length_toList]
  (first|lia|omega)
 have hj:bS items.size items.size hi≤items.size:=GI _ _ (Nat.le_refl _) hi
 obtain⟨os,hos,hcs,hds⟩:=id hs
 have hTs:s.TypeIs (.ref sl) "slice":=⟨os,hos,hcs⟩
 unfold getItem
 try with_reducible refine wpAny_holding ?_
 first|refine wpAny_bind (wpAny_pure ?_)|skip
 refine wpAny_bind (wpAny_sequenceKey ht.typeIs (by decide) ?_)
 refine wpAny_bind (wpAny_callSpecial?_slot (name:=Str.ofString "__getitem__") ht.typeIs PyProof.Rows.slot_tuple_getitem
  (wpAny_call_entry PyProof.Rows.slot_tuple_getitem ht.typeIs entry_tuple_getitem ?_ (args_tuple_getitem _ _)))
 show wpAny _ _ (Builtin.Tuple.tupleItemsOf (.ref t) >>= _) _ _ s
 refine wpAny_bind (tupleItemsOf_ ht ?_)
 refine wpAny_bind (wpAny_typeOf hTs ?_)
 rw[if_pos (by decide)]
 refine wpAny_bind (lE hs pl pu ?_)
 have hno:¬((((bS items.size 0 lo:Nat):Int)==0&&(1:Int)==1&&(bS items.size items.size hi-bS items.size 0 lo)==items.size)=true):=by
  intro q
  rw[Bool.and_eq_true,Bool.and_eq_true]at q
  have q1:((bS items.size 0 lo:Nat):Int)=0:=eq_of_beq q.1.1
  have q2:bS items.size items.size hi-bS items.size 0 lo=items.size:=eq_of_beq q.2
  exact hw ⟨by(first|lia|omega),by(first|lia|omega)⟩
 show wpAny _ _ (if(((bS items.size 0 lo:Nat):Int)==0&&(1:Int)==1&&(bS items.size items.size hi-bS items.size 0 lo)==items.size)=true then _ else _) _ _ s
 rw[if_neg hno,Bs]
 first
  |exact wpAny_bind (m:=Builtin.Tuple.tupleExact _) (wpAny_newObj_type (wpAny_pure ⟨_,rfl,wpAny_pure h⟩) htake)
  |exact wpAny_bind (m:=Builtin.Tuple.tupleExact _) (wpAny_newObj_type (wpAny_bind (wpAny_pure (wpAny_pure ⟨_,rfl,wpAny_pure h⟩))) htake)
  |exact wpAny_bind (wpAny_bind (m:=Builtin.Tuple.tupleExact _) (wpAny_newObj_type (wpAny_pure (wpAny_pure ⟨_,rfl,wpAny_pure h⟩)) htake))
  |exact wpAny_bind (wpAny_bind (m:=Builtin.Tuple.tupleExact _) (wpAny_newObj_type (wpAny_pure ⟨_,rfl,wpAny_pure h⟩) htake))
end
end HT
namespace L2
open PySem PySem.Spec PyProof.Rows
noncomputable abbrev TO:=St→Hp→(Option Int→Hp→Prop)→Prop
noncomputable def PO(X:Cx)(e:Option Expr)(t:TO):Prop:=
 ∀(pins:List (Addr×Obj)) (s:Shared) (σ:St) (H:Hp) (Q:Option Int→Hp→Prop),Inv X pins σ H s→t σ H Q→
  wpAny (model X.prog X.w) X.A (evalPart e X.env) (fun u s'=>∃o H',Inv X pins σ H' s'∧IsPart u o∧Q o H') X.xe s
noncomputable def EZ:TO:=fun _ H Q=>Q none H
noncomputable def IU(t:TE):TO:=fun σ H Q=>t σ H fun x H1=>∃i,x= .int i∧Q (some i) H1
section
variable {X:Cx}{e:Expr}{te:TE}{lo hi:Option Expr}{tl th:TO}{pos p2:Pos}
theorem DV:PO X none EZ:=by
 intro pins s σ H Q I h
 rw[evalPart_none]
 exact wpAny_pure ⟨none,H,I,.none,h⟩
theorem Dw(h:PE X e te):PO X (some e) (IU te):=by
 intro pins s σ H Q I hw
 rw[evalPart_some]
 refine bR (h pins s σ H _ I hw) fun u s1 ⟨x,H1,I1,r1,q1⟩=>?_
 obtain⟨i,rfl,q⟩:=q1
 obtain⟨t,rfl⟩:=r1
 exact⟨some i,H1,I1,.int i t,q⟩
noncomputable def Aa(X:Cx)(r:V→Option Int→Option Int→Hp→VK→Prop):Prop:=
 ∀(pins:List (Addr×Obj)) (s:Shared) (σ:St) (H:Hp) (x:V) (v vl vu:Value) (lo hi:Option Int) (sl:Addr) (Q:VK),Inv X pins σ H s→RelV x v→s.heap.IsSliceOf sl vl vu .none→IsPart vl lo→IsPart vu hi→r x lo hi H Q→
  ∃T id,typeLookup (.type T) "__getitem__"=pure (some (.builtin id))∧s.TypeIs v T∧wpAny (model X.prog X.w) X.A (getItem v (.ref sl)) (EP X pins σ Q) X.xe s
noncomputable def KJ(r:V→Option Int→Option Int→Hp→VK→Prop)(te:TE)(tl th:TO):TE:=fun σ H Q=>te σ H fun x H1=>tl σ H1 fun l H2=>th σ H2 fun u H3=>r x l u H3 Q
theorem BA{r:V→Option Int→Option Int→Hp→VK→Prop}(hr:Aa X r)(he:PE X e te)(hl:PO X lo tl)(hu:PO X hi th):PE X (.Subscript e (.Slice lo hi none p2) pos) (KJ r te tl th):=by
 intro pins s σ H Q I h
 refine Subscript_ (bR (he pins s σ H _ I h) fun v s1 ⟨x,H1,I1,r1,q1⟩=>?_)
 refine wpAny_Slice (bR (hl pins s1 σ H1 _ I1 q1) fun vl s2 ⟨l,H2,I2,pl,q2⟩=>bR (hu pins s2 σ H2 _ I2 q2) fun vu s3 ⟨u,H3,I3,pu,q3⟩=>?_)
 rw[evalPart_none]
 refine wpAny_pure ?_
 have I4:Inv X pins σ H3 {s3 with heap:=s3.heap.push {cls:= .type "slice",data:= .fields #[vl,vu,.none]}}:=I3.kept (t':=s3.toks) fun b ob q=>Heap.get?_push_of_some _ q
 obtain⟨T,id,hT,ht,hg⟩:=hr pins {s3 with heap:=s3.heap.push {cls:= .type "slice",data:= .fields #[vl,vu,.none]}} σ H3 x v vl vu l u s3.heap.objs.size Q I4 r1 (Heap.IsSliceOf.new ..) pl pu q3
 show wpAny (model X.prog X.w) X.A (subscriptTail e (.Slice lo hi none p2) v (.ref s3.heap.objs.size)) (EP X pins σ Q) X.xe {s3 with heap:=s3.heap.push {cls:= .type "slice",data:= .fields #[vl,vu,.none]}}
 exact tail_any (ops:=[.ref s3.heap.objs.size,v]) ht hT hg (by with_unfolding_all rfl)
noncomputable def nG(xs:List V)(lo hi:Option Int):List V:=(xs.drop (HT.bS xs.length 0 lo)).take (HT.bS xs.length xs.length hi-HT.bS xs.length 0 lo)
theorem pS(xs:List V)(lo hi:Option Int):(nG xs lo hi).length≤xs.length:=by
 unfold nG
 rw[List.length_take,List.length_drop]
 (first|lia|omega)
noncomputable def Kv(K:PySem.W.Frag):V→Option Int→Option Int→Hp→VK→Prop:=fun x lo hi H Q=>∃a xs,x= .ref a∧ir K H a xs∧
 ¬(HT.bS xs.length 0 lo=0∧HT.bS xs.length xs.length hi=xs.length)∧∀p,H p=none→Q (.ref p) (upd H p (.tup (nG xs lo hi)))
theorem HI:Aa X (Kv X.K):=by
 intro pins s σ H x v vl vu lo hi sl Q I rx hs pl pu h
 obtain⟨a,xs,rfl,hx,hw,q⟩:=h
 cases rx
 obtain⟨its,r,ht,hz⟩:=I.tuple hx
 have hlen:its.toArray.size=xs.length:=by rw[List.size_toArray];exact r.length.symm
 refine⟨"tuple",_,PyProof.Rows.slot_tuple_getitem.lookup,ht.typeIs,?_⟩
 refine HT.pL ht hs pl pu (by rw[hlen];exact hw) ?_ (by rw[hlen];exact hz)
 rw[hlen]
 refine⟨.ref s.heap.objs.size,_,I.laid (t':=s.toks) (o:= .tup (nG xs lo hi)) (fun b ob q=>Heap.get?_push_of_some _ q) (Nat.le_refl _) ?_,rfl,q _ (I.aI.fresh (Nat.le_refl _))⟩
 exact⟨Nat.le_trans (pS xs lo hi) hz,_,(r.drop (HT.bS xs.length 0 lo)).take (HT.bS xs.length xs.length hi-HT.bS xs.length 0 lo),IsTup.new _ _⟩
noncomputable def IY(K:PySem.W.Frag):R2:=fun x y H Q=>∃a b xs ys,x= .ref a∧y= .ref b∧ir K H a xs∧ir K H b ys∧xs≠ []∧xs.length+ys.length≤sizeLine∧
 (ys=[]→Q (.ref a) H)∧(ys≠ []→∀p,H p=none→Q (.ref p) (upd H p (.tup (xs++ys))))
theorem Vals.pf{xs:List V}{us:List Value}(r:Vals xs us):us=[]↔xs=[]:=by
 cases r with
 |nil=>simp
 |cons _ _=>simp
theorem EE:bW X (binaryOp .Add) (IY X.K):=by
 intro pins s σ H x y v u Q I rx ry h
 obtain⟨a,b,xs,ys,rfl,rfl,ha,hb,hx,hz,q1,q2⟩:=h
 cases rx
 cases ry
 obtain⟨its,r1,p1,_⟩:=I.tuple ha
 obtain⟨its2,r2,p2,_⟩:=I.tuple hb
 refine HT.EW p1 p2 (fun z=>hx (r1.pf.mp z)) (fun z=>⟨.ref a,H,I,rfl,q1 (r2.pf.mp z)⟩) (fun z=>?_) (by rw[←r1.length,←r2.length];exact hz)
 refine⟨.ref s.heap.objs.size,_,I.laid (t':=s.toks) (o:= .tup (xs++ys)) (fun b ob q=>Heap.get?_push_of_some _ q) (Nat.le_refl _) ?_,rfl,q2 (fun w=>z (r2.pf.mpr w)) _ (I.aI.fresh (Nat.le_refl _))⟩
 exact⟨by rw[List.length_append];exact hz,_,r1.append r2,IsTup.new _ _⟩
end
end L2
namespace L2
open PySem PySem.Spec PyProof.Rows
noncomputable def jK(n:Nat)(i:Int):Option Nat:=if 0≤i then(if i<n then some i.toNat else none)else if-(n:Int)≤i then some (i+n).toNat else none
noncomputable def dJ{α:Type}(xs:List α)(i:Int):Option α:=(jK xs.length i).bind fun j=>xs[j]?
theorem sf{n:Nat}{i:Int}{j:Nat}(h:jK n i=some j):seqIndex? i n=some j∧j<n∧ -(n:Int)≤i∧i<n:=by
 unfold jK at h
 by_cases h0:0≤i
 · rw[if_pos h0]at h
   by_cases h1:i<n
   · rw[if_pos h1]at h
     have e:i.toNat=j:=Option.some.inj h
     exact⟨by rw[seqIndex_of h0 h1,e],by(first|lia|omega),by(first|lia|omega),h1⟩
   · rw[if_neg h1]at h;cases h
 · rw[if_neg h0]at h
   by_cases h1: -(n:Int)≤i
   · rw[if_pos h1]at h
     have e:(i+n).toNat=j:=Option.some.inj h
     exact⟨by rw[seqIndex_neg (by(first|lia|omega)) h1,e],by(first|lia|omega),h1,by(first|lia|omega)⟩
   · rw[if_neg h1]at h;cases h
theorem si{α:Type}{xs:List α}{i:Int}{v:α}(h:dJ xs i=some v):∃j,seqIndex? i xs.length=some j∧xs[j]?=some v∧j<xs.length∧ -(xs.length:Int)≤i∧i<xs.length:=by
 unfold dJ at h
 cases e:jK xs.length i with
 |none=>rw[e]at h;cases h
 |some j=>
  rw[e]at h
  obtain⟨h1,h2,h3,h4⟩:=sf e
  exact⟨j,h1,h,h2,h3,h4⟩
theorem g7{α:Type}{xs:List α}{j:Nat}{v:α}(h:xs[j]?=some v):dJ xs (j:Int)=some v:=by
 have hj:j<xs.length:=(List.getElem?_eq_some_iff.mp h).1
 have e:jK xs.length (j:Int)=some j:=by
  unfold jK
  rw[if_pos (by(first|lia|omega)),if_pos (by(first|lia|omega))];simp
 unfold dJ;rw[e];exact h
noncomputable def o3(b:Expr):Prop:=∀o i,subscripted b false o i=operate [o,i] (getItem o i)
noncomputable def CL(X:Cx)(r:R2):Prop:=
 ∀(value slice:Expr) (pins:List (Addr×Obj)) (s:Shared) (σ:St) (H:Hp) (x y:V) (v u:Value) (Q:VK),Inv X pins σ H s→RelV x v→RelV y u→r x y H Q→
  subscripted slice false v u=operate [v,u] (getItem v u)→wpAny (model X.prog X.w) X.A (subscriptTail value slice v u) (EP X pins σ Q) X.xe s
noncomputable def Fw(X:Cx)(id:String)(r:V→List V→Hp→VK→Prop):Prop:=
 ∀(pins:List (Addr×Obj)) (s:Shared) (σ:St) (H:Hp) (x:V) (xs:List V) (v:Value) (us:List Value) (Q:VK),Inv X pins σ H s→RelV x v→Vals xs us→r x xs H Q→
  wpAny (model X.prog X.w) X.A (call (.builtin id) (v::us)) (EP X pins σ Q) X.xe s
section
variable {X:Cx}{a b:Expr}{ta tb:TE}{pos:Pos}
theorem IK{r:R2}(hr:CL X r)(ha:PE X a ta)(hb:PE X b tb)(hs:o3 b):PE X (.Subscript a b pos) (zM r ta tb):=by
 intro pins s σ H Q I h
 exact Subscript_ (BV ha hb I h fun v u s2 x y H2 I2 rx ry q=>hr a b pins s2 σ H2 x y v u Q I2 rx ry q (hs _ _))
noncomputable def Kz(K:PySem.W.Frag):R2:=fun x y H Q=>∃p xs i v,x= .ref p∧y= .int i∧kb K H p xs∧dJ xs i=some v∧Q v H
noncomputable def Kg(K:PySem.W.Frag):R2:=fun x y H Q=>∃p xs i v,x= .ref p∧y= .int i∧ir K H p xs∧dJ xs i=some v∧Q v H
theorem xm:CL X (Kz X.K):=by
 intro value slice pins s σ H x y v u Q I rx ry h hs
 obtain⟨p,xs,i,z,rfl,rfl,hq,he,q⟩:=h
 cases rx
 obtain⟨t,rfl⟩:=ry
 obtain⟨its,r,pl,hz⟩:=I.list hq
 obtain⟨j,h1,h2,h3,h4,h5⟩:=si he
 obtain⟨w,ew,rw'⟩:=r.get h2
 have hl:=r.length
 have hn:=oM
 have fin:EP X pins σ Q w s:=⟨z,H,I,rw',q⟩
 by_cases h0:0≤i
 · have hj:i.toNat=j:=by
    rw[seqIndex_of h0 h5]at h1
    exact Option.some.inj h1
   exact item_listR pl.isList h0 (by(first|lia|omega)) (by rw[hj];simpa using ew) fin hs
 · have hj:(i+(its.toArray.size:Int)).toNat=j:=by
    rw[seqIndex_neg (by(first|lia|omega)) h4]at h1
    rw[List.size_toArray,←hl]
    exact Option.some.inj h1
   exact subscriptTail_builtinR (x:=w) pl.isList.typeIs slot_list_getitem.lookup
    (wpAny_getItem_list_neg (Q:=fun r s'=>r=w∧EP X pins σ Q r s') pl.isList (by(first|lia|omega)) (by rw[List.size_toArray]<;>(first|lia|omega)) (by(first|lia|omega)) (by rw[hj];simpa using ew) ⟨rfl,fin⟩) hs
theorem Fs:CL X (Kg X.K):=by
 intro value slice pins s σ H x y v u Q I rx ry h hs
 obtain⟨p,xs,i,z,rfl,rfl,hq,he,q⟩:=h
 cases rx
 obtain⟨t,rfl⟩:=ry
 obtain⟨its,r,pl,hz⟩:=I.tuple hq
 obtain⟨j,h1,h2,h3,h4,h5⟩:=si he
 obtain⟨w,ew,rw'⟩:=r.get h2
 have hl:=r.length
 have hn:=oM
 have fin:EP X pins σ Q w s:=⟨z,H,I,rw',q⟩
 exact subscriptTail_builtinR (x:=w) pl.typeIs slot_tuple_getitem.lookup
  (getItem_tuple (j:=j) (Q:=fun r s'=>r=w∧EP X pins σ Q r s') pl (by(first|lia|omega)) (by(first|lia|omega)) (by rw[List.size_toArray,←hl];exact h1) (by simpa using ew) ⟨rfl,fin⟩) hs
theorem y9(its:List Value)(n j:Nat)(u:Value):Obj.mapSeq (·.setIfInBounds j u) {cls:= .type "list",data:= .seq its.toArray n}= {cls:= .type "list",data:= .seq (its.set j u).toArray n}:=by
 simp[Obj.mapSeq]
theorem Inv.lst{pins:List (Addr×Obj)}{σ:St}{H:Hp}{s:Shared}{p:Addr}{xs:List V}(I:Inv X pins σ H s)(h:H p=some (.lst xs)):
 ∃(its:List Value) (n:Nat),Vals xs its∧s.heap.get? p=some {cls:= .type "list",data:= .seq its.toArray n}∧xs.length≤sizeLine:=by
 obtain⟨z,its,n,r,e⟩:=I.aI p _ h
 exact⟨its,n,r,e,z⟩
theorem Inv.Fm{pins:List (Addr×Obj)}{σ:St}{H:Hp}{s:Shared}{p:Addr}{xs ys:List V}{its its':List Value}{n n':Nat}{f:Obj→Obj}(I:Inv X pins σ H s)(h:H p=some (.lst xs))
 (ho:s.heap.get? p=some {cls:= .type "list",data:= .seq its.toArray n}) (hf:f {cls:= .type "list",data:= .seq its.toArray n}= {cls:= .type "list",data:= .seq its'.toArray n'}) (r:Vals ys its') (hz:ys.length≤sizeLine) (t:Nat):
 Inv X pins σ (upd H p (.lst ys)) {s with heap:=s.heap.update p f,toks:=t}:=by
 have e:(s.heap.update p f).get? p=some {cls:= .type "list",data:= .seq its'.toArray n'}:=by
  rw[Heap.get?_update_self f ho (by rw[hf]<;>rfl),hf]
 refine I.write (x:=p) (e:=p) (by rw[h];trivial) (.inl rfl) (fun b u hb q=>(Heap.get?_update_other _ _ (Ne.symm hb)).trans q) ⟨_,e⟩ ?_
 exact⟨hz,its',n',r,e⟩
noncomputable def o8:V→V→V→Hp→(Hp→Prop)→Prop:=fun o i v H Q=>∃p xs k j,o= .ref p∧i= .int k∧H p=some (.lst xs)∧jK xs.length k=some j∧Q (upd H p (.lst (xs.set j v)))
theorem set_list:GD X o8:=by
 intro pins s σ H o i v ov iv u Q I ro ri rv h
 obtain⟨p,xs,k,j,rfl,rfl,hp,hj,q⟩:=h
 cases ro
 obtain⟨t,rfl⟩:=ri
 obtain⟨its,n,r,ho,hz⟩:=I.lst hp
 obtain⟨h1,h2,h3,h4⟩:=sf hj
 have hl:=r.length
 have hn:=oM
 have I':Inv X pins σ (upd H p (.lst (xs.set j v))) {s with heap:=s.heap.update p (Obj.mapSeq (·.setIfInBounds j u))}:=
  I.Fm hp ho (y9 its n j u) (r.set rv j) (by rw[List.length_set];exact hz) s.toks
 by_cases h0:0≤k
 · have hk:k.toNat=j:=by
    rw[seqIndex_of h0 h4]at h1
    exact Option.some.inj h1
   exact PySem.W.ki_setAt ho h0 (by(first|lia|omega)) (by rw[List.size_toArray,←hl];exact h4) (by rw[hk];exact⟨_,I',q⟩)
 · have hk:(k+(its.toArray.size:Int)).toNat=j:=by
    rw[seqIndex_neg (by(first|lia|omega)) h3]at h1
    rw[List.size_toArray,←hl]
    exact Option.some.inj h1
   exact PySem.W.ki_setBack ho (by(first|lia|omega)) (by rw[List.size_toArray,←hl];exact h3) (by(first|lia|omega)) (by rw[hk];exact⟨_,I',q⟩)
theorem vb(lo hi:Option Int)(n:Nat):(sliceBounds lo hi none n).1=((HT.bS n 0 lo:Nat):Int)∧(sliceBounds lo hi none n).2.1=((HT.bS n n hi:Nat):Int)∧(sliceBounds lo hi none n).2.2=1:=by
 refine⟨?_,?_,rfl⟩
 · cases lo with
   |none=>simp[sliceBounds,HT.bS]
   |some i=>
    simp only[sliceBounds,HT.bS,Option.getD_none,show(1:Int)>0 by decide,if_true]
    by_cases h:i<0
    · simp only[h,if_true]<;>(first|lia|omega)
    · simp only[h,if_false]<;>(first|lia|omega)
 · cases hi with
   |none=>simp[sliceBounds,HT.bS]
   |some i=>
    simp only[sliceBounds,HT.bS,Option.getD_none,show(1:Int)>0 by decide,if_true]
    by_cases h:i<0
    · simp only[h,if_true]<;>(first|lia|omega)
    · simp only[h,if_false]<;>(first|lia|omega)
theorem tU(its:List Value)(lo hi:Option Int):slicePick its.toArray lo hi none=((its.drop (HT.bS its.length 0 lo)).take (HT.bS its.length its.length hi-HT.bS its.length 0 lo)).toArray:=by
 obtain⟨h1,h2,h3⟩:=vb lo hi its.toArray.size
 unfold slicePick
 rw[h1,h2,h3]
 simp only[sliceRange_one,pick_run,List.size_toArray]<;>rfl
noncomputable def Ks(K:PySem.W.Frag):V→Option Int→Option Int→Hp→VK→Prop:=fun x lo hi H Q=>∃a xs,x= .ref a∧kb K H a xs∧∀p,H p=none→Q (.ref p) (upd H p (.lst (nG xs lo hi)))
theorem xr:Aa X (Ks X.K):=by
 intro pins s σ H x v vl vu lo hi sl Q I rx hs pl pu h
 obtain⟨a,xs,rfl,hx,q⟩:=h
 cases rx
 obtain⟨its,r,ht,hz⟩:=I.list hx
 have hlen:=r.length
 refine⟨"list",_,slot_list_getitem.lookup,ht.isList.typeIs,?_⟩
 refine wpAny_getItem_list_slice ht.isList hs pl pu .none (by simp) ?_ (by rw[List.size_toArray]<;>(first|lia|omega))
 rw[tU,←hlen]
 refine⟨.ref s.heap.objs.size,_,I.laid (t':=s.toks) (o:= .lst (nG xs lo hi)) (fun b ob q=>Heap.get?_push_of_some _ q) (Nat.le_refl _) ?_,rfl,q _ (I.aI.fresh (Nat.le_refl _))⟩
 exact⟨Nat.le_trans (pS xs lo hi) hz,_,0,(r.drop (HT.bS xs.length 0 lo)).take (HT.bS xs.length xs.length hi-HT.bS xs.length 0 lo),Heap.get?_push_size _ rfl⟩
theorem vf:bJ X (.builtin "len") (fun xs H Q=>∃p ys,xs=[.ref p]∧(kb X.K H p ys∨ir X.K H p ys)∧Q (.int ys.length) H):=by
 intro pins s σ H xs us Q I r h
 obtain⟨p,ys,rfl,hq,q⟩:=h
 obtain⟨u,rfl,rx⟩:=vals1 r
 cases rx
 have hn:=oM
 rcases hq with hq|hq
 · obtain⟨its,r',pl,hz⟩:=I.list hq
   have hlen:=r'.length
   exact Calls.call_len_list pl.isList (by simp only[List.size_toArray]<;>(first|lia|omega)) ⟨.int ys.length,H,I.tok _,⟨s.toks+1,by rw[List.size_toArray,hlen]⟩,q⟩
 · obtain⟨its,r',pl,hz⟩:=I.tuple hq
   have hlen:=r'.length
   exact len_tuple pl (by simp only[List.size_toArray]<;>(first|lia|omega)) ⟨.int ys.length,H,I.tok _,⟨s.toks+1,by rw[List.size_toArray,hlen]⟩,q⟩
theorem v9:bJ X (.builtin "len") (fun xs H Q=>∃z,xs=[.str z]∧z.length≤sizeLine∧Q (.int z.length) H):=by
 intro pins s σ H xs us Q I r h
 obtain⟨z,rfl,hz,q⟩:=h
 obtain⟨u,rfl,t,rfl⟩:=vals1 r
 have hn:=oM
 exact len_str (by(first|lia|omega)) ⟨.int z.length,H,I.tok _,⟨_,rfl⟩,q⟩
theorem oC:bJ X (.type "list") (fun xs H Q=>∃p ys,xs=[.ref p]∧(kb X.K H p ys∨ir X.K H p ys)∧∀l,H l=none→Q (.ref l) (upd H l (.lst ys))):=by
 intro pins s σ H xs us Q I r h
 obtain⟨p,ys,rfl,hq,q⟩:=h
 obtain⟨u,rfl,rx⟩:=vals1 r
 cases rx
 have fin:∀(its:List Value),Vals ys its→ys.length≤sizeLine→∀(h':Heap) (c':Nat),(∀b o',s.heap.get? b=some o'→h'.get? b=some o')→
  h'.get? s.heap.objs.size=some {cls:= .type "list",dict:=none,data:= .seq its.toArray c',slots:= #[]}→EP X pins σ Q (.ref s.heap.objs.size) {s with heap:=h'}:=fun its r' hz h' c' kp e=>
  ⟨.ref s.heap.objs.size,_,I.laid (t':=s.toks) kp (Nat.le_refl _) (show dm X.prog X.w _ h' _ (.lst ys)from⟨hz,its,c',r',e⟩),rfl,q _ (I.aI.fresh (Nat.le_refl _))⟩
 rcases hq with hq|hq
 · obtain⟨its,r',pl,hz⟩:=I.list hq
   have hlen:=r'.length
   obtain⟨o,ho,hc,n,hd⟩:=pl.isList
   exact call_list_seq p (.inl rfl) ho hc hd (fun h' c' kp e=>fin its r' hz h' c' kp e) (by simp only[List.size_toArray]<;>(first|lia|omega))
 · obtain⟨its,r',pl,hz⟩:=I.tuple hq
   have hlen:=r'.length
   obtain⟨o,ho,hc,n,hd⟩:=pl
   exact call_list_seq p (.inr rfl) ho hc hd (fun h' c' kp e=>fin its r' hz h' c' kp e) (by simp only[List.size_toArray]<;>(first|lia|omega))
theorem tR:bJ X (.type "tuple") (fun xs H Q=>∃p ys,xs=[.ref p]∧((kb X.K H p ys∧∀l,H l=none→Q (.ref l) (upd H l (.tup ys)))∨(ir X.K H p ys∧Q (.ref p) H))):=by
 intro pins s σ H xs us Q I r h
 obtain⟨p,ys,rfl,h⟩:=h
 obtain⟨u,rfl,rx⟩:=vals1 r
 cases rx
 rcases h with⟨hq,q⟩|⟨hq,q⟩
 · obtain⟨its,r',pl,hz⟩:=I.list hq
   have hlen:=r'.length
   refine call_tuple_list pl.isList (fun h' kp=>?_) (by simp only[List.size_toArray]<;>(first|lia|omega))
   have I1:Inv X pins σ H {s with heap:=h'}:=I.kept (t':=s.toks) kp
   have I2:Inv X pins σ (upd H h'.objs.size (.tup ys)) {s with heap:=h'.push {cls:= .type "tuple",data:= .seq its.toArray}}:=
    I1.laid (t':=s.toks) (fun b o e=>Heap.get?_push_of_some _ e) (Nat.le_refl _) (show dm X.prog X.w _ _ _ (.tup ys)from⟨hz,its,r',IsTup.new _ _⟩)
   exact⟨.ref h'.objs.size,_,I2,rfl,q _ (I1.aI.fresh (Nat.le_refl _))⟩
 · obtain⟨its,r',pl,hz⟩:=I.tuple hq
   exact call_tuple_same pl ⟨.ref p,H,I,rfl,q⟩
noncomputable def JJ(K:PySem.W.Frag)(T:String)(x:V)(H:Hp):Prop:=match x with
 | .str _=>T="str"
 | .int _=>T="int"
 | .ref p=>(T="list"∧∃xs,kb K H p xs)∨(T="tuple"∧∃o,K.lookup p=some o∧o.cls= .type "tuple"∧o.dict=none)∨
    (T="dict"∧((∃kvs,H p=some (.dK kvs))∨∃kvs,H p=some (.dT kvs)))∨(T="set"∧∃S n,H p=some (.set S n))
 |_=>False
theorem Gh{pins:List (Addr×Obj)}{σ:St}{H:Hp}{s:Shared}{T:String}{x:V}{v:Value}(I:Inv X pins σ H s)(r:RelV x v)(ty:JJ X.K T x H):
 s.TypeIs v T∧∀a,v= .ref a→∃ob,s.heap.get? a=some ob∧ob.dict=none:=by
 cases x with
 |str z=>
  obtain⟨t,rfl⟩:=r
  cases (show T="str" from ty)
  exact⟨typeIs_str s z t,fun _ e=>nomatch e⟩
 |int i=>
  obtain⟨t,rfl⟩:=r
  cases (show T="int" from ty)
  exact⟨typeIs_int s i t,fun _ e=>nomatch e⟩
 |ref p=>
  cases r
  rcases ty with⟨rfl,xs,hq⟩|⟨rfl,o,hk,hc,hd⟩|⟨rfl,hk⟩|⟨rfl,S,n,hk⟩
  · obtain⟨its,_,pl,_⟩:=I.list hq
    refine⟨pl.isList.typeIs,fun a e=>?_⟩
    cases e
    obtain⟨o,n,e,c,hd,_⟩:=pl
    exact⟨o,e,hd⟩
  · refine⟨⟨o,I.gN p o hk,hc⟩,fun a e=>?_⟩
    cases e
    exact⟨o,I.gN _ o hk,hd⟩
  · have z:∃o,s.heap.get? p=some o∧o.ExactDict:=by
     rcases hk with⟨kvs,hk⟩|⟨kvs,hk⟩
     · obtain⟨_,_,_,_,o,_,_,e,ex,_⟩:=I.aI p _ hk
       exact⟨o,e,ex⟩
     · obtain⟨_,_,_,_,o,_,_,e,ex,_⟩:=I.aI p _ hk
       exact⟨o,e,ex⟩
    obtain⟨o,e,ex⟩:=z
    refine⟨⟨o,e,ex.1⟩,fun a e2=>?_⟩
    cases e2
    exact⟨o,e,ex.2.1⟩
  · obtain⟨o,_,_,_,e,ex,_⟩:=I.aI p _ hk
    refine⟨⟨o,e,ex.1⟩,fun a e2=>?_⟩
    cases e2
    exact⟨o,e,ex.2.1⟩
 |_=>exact False.elim ty
noncomputable def Gd(K:PySem.W.Frag)(T:String)(r:V→List V→Hp→VK→Prop)(to:TE)(t:TA):TE:=fun σ H Q=>to σ H fun x H1=>JJ K T x H1∧t σ H1 fun xs H2=>r x xs H2 Q
variable {o e:Expr}{es:List Expr}{to:TE}{t:TA}{name:Str}{apos cpos:Pos}{T id:String}{r:V→List V→Hp→VK→Prop}
theorem CS(pa:PlainAttrs T)(slot:Slot T name id)(hty:typeOf (.builtin id)=pure (.type "method_descriptor"))(hm:Fw X id r)(ho:PE X o to)(ha:PA X (e::es) t)
 (hbase:attributeBase o name X.env (eval o X.env)=eval o X.env:=by rfl)
 (hfew:((backTo cpos (starEach (e::es) X.env)).all (fun x=> !x.1)&&(backToKw cpos (keywordEach [] X.env)).all (fun x=>x.1.isSome)
   &&decide ((e::es).length+([]:List Keyword).length+(if([]:List Keyword).isEmpty then 0 else 1)<30))=true:=by rfl)
 (hline:(apos.endLine==cpos.line)=true:=by rfl) (hs:starEach (e::es) X.env=(false,eval e X.env)::starEach es X.env:=by rfl) (hplain:(backTo cpos (starEach es X.env)).any (·.1)=false:=by rfl):
 PE X (.Call (.Attribute o name apos) (e::es) [] cpos) (Gd X.K T r to t):=by
 intro pins s σ H Q I h
 refine wpAny_Call_method_late hbase hfew hline rfl (bR (ho pins s σ H _ I h) fun v s1 ⟨x,H1,I1,r1,ty,q1⟩=>?_)
 obtain⟨h1,h2⟩:=Gh I1 r1 ty
 refine⟨T,id,pa,slot,hty,h1,h2,?_⟩
 have hA:=ha cpos pins s1 σ H1 _ I1 q1
 rw[hs]at hA⊢
 refine Calls.callWith_builtin (by show(false||(backTo cpos (starEach es X.env)).any (·.1))=false;rw[hplain]<;>rfl) (Calls.evalArgs_plain ?_)
 exact bR hA fun us s2 ⟨vs,H2,I2,r2,q2⟩=>hm pins s2 σ H2 x vs v us Q I2 r1 r2 q2
/-xs.append(e),list.index on a module's tuple .. are Fw facts of 06m-/
end
end L2
namespace L2
open PySem PySem.Spec PyProof.Rows
noncomputable def Jt(X:Cx)(id:String)(r:V→List V→Hp→VK→Prop):Prop:=
 ∀(pins:List (Addr×Obj)) (s:Shared) (σ:St) (H:Hp) (x:V) (xs:List V) (v:Value) (us:List Value) (Q:VK),Inv X pins σ H s→RelV x v→Vals xs us→r x xs H Q→
  wpAny (model X.prog X.w) X.A (call (.builtin id) (v::us)) (EP X pins σ Q) X.xe s
theorem Vals.one:∀ {x:V} {us:List Value},Vals [x] us→∃u,us=[u]∧RelV x u
 |_,_,.cons r .nil=>⟨_,rfl,r⟩
theorem Vals.eraseIdx:∀ {xs:List V} {us:List Value} (i:Nat),Vals xs us→Vals (xs.eraseIdx i) (us.eraseIdx i)
 |_,_,_,.nil=> .nil
 |_,_,0,.cons _ t=>t
 |_,_,i+1,.cons r t=> .cons r (Vals.eraseIdx i t)
theorem Vals.rep{xs:List V}{us:List Value}(h:Vals xs us):∀k:Nat,Vals (List.replicate k xs).flatten (List.replicate k us).flatten
 |0=> .nil
 |k+1=>by
  rw[List.replicate_succ,List.replicate_succ,List.flatten_cons,List.flatten_cons]
  exact Vals.append h (Vals.rep h k)
theorem tH{α:Type}:∀(l:List α) (i:Nat),(l.eraseIdx i).length≤l.length
 | [],_=>Nat.le_refl _
 |_::_,0=>Nat.le_succ _
 |_::r,i+1=>Nat.succ_le_succ (tH r i)
theorem foldl_rep(its:List Value):∀(k:Nat) (acc:List Value),
 List.foldl (fun x1 x2=>x1++x2) acc.toArray (List.replicate k its.toArray)=(acc++(List.replicate k its).flatten).toArray
 |0,acc=>by simp
 |k+1,acc=>by
  have e:acc.toArray++its.toArray=(acc++its).toArray:=by simp
  have e2:(acc++its)++(List.replicate k its).flatten=acc++(List.replicate (k+1) its).flatten:=by
   rw[List.replicate_succ,List.flatten_cons,List.append_assoc]
  rw[←e2,←foldl_rep its k (acc++its),←e,List.replicate_succ,List.foldl_cons]
section
variable {X:Cx}{pins:List (Addr×Obj)}{σ:St}{H:Hp}{s:Shared}{l b:Addr}{xs ys zs:List V}
theorem Inv.Gr{its its':List Value}{n:Nat}{f:Array Value→Array Value}{t':Nat}(I:Inv X pins σ H s)(hH:H l=some (.lst xs))
 (e:s.heap.get? l=some {cls:= .type "list",data:= .seq its.toArray n}) (hf:f its.toArray=its'.toArray) (hv:Vals ys its') (hz:ys.length≤sizeLine):
 Inv X pins σ (upd H l (.lst ys)) {s with heap:=s.heap.update l (Obj.mapSeq f),toks:=t'}:=by
 have q:=PySem.IsL.update e f
 rw[hf]at q
 refine I.write (x:=l) (e:=l) (by rw[hH];exact trivial) (.inl rfl) (fun b' u hb hu=>(Heap.get?_update_other s.heap (Obj.mapSeq f) (Ne.symm hb)).trans hu) ⟨_,q⟩ ?_
 exact⟨hz,its',_,hv,q⟩
theorem Inv.BN{its:List Value}{t':Nat}(I:Inv X pins σ H s)(hv:Vals ys its)(hz:ys.length≤sizeLine):
 Inv X pins σ (upd H s.heap.objs.size (.lst ys)) {s with heap:=s.heap.push {cls:= .type "list",data:= .seq its.toArray},toks:=t'}:=
 I.laid (fun _ _ q=>Heap.get?_push_of_some _ q) (Nat.le_refl _) ⟨hz,its,0,hv,Heap.get?_push_size _ rfl⟩
theorem Inv.fresh(I:Inv X pins σ H s):H s.heap.objs.size=none:=I.aI.fresh (Nat.le_refl _)
theorem Inv.Fc(I:Inv X pins σ H s)(hH:H l=some (.lst xs)):xs.length≤sizeLine∧∃(its:List Value) (n:Nat),Vals xs its∧xs.length=its.length∧s.heap.get? l=some {cls:= .type "list",data:= .seq its.toArray n}:=by
 obtain⟨z,its,n,r,e⟩:=I.aI l _ hH
 exact⟨z,its,n,r,r.length,e⟩
theorem BP{n:Nat}(h:n≤sizeLine):Builtin.List.listTooLong n=false:=by
 unfold Builtin.List.listTooLong
 exact decide_eq_false (by(first|lia|omega))
end
section
variable {X:Cx}
noncomputable def xB:V→List V→Hp→VK→Prop:=fun x vs H Q=>∃l xs y,x= .ref l∧vs=[y]∧H l=some (.lst xs)∧xs.length<sizeLine∧Q .aC (upd H l (.lst (xs++[y])))
theorem tf:Jt X "list.append" xB:=by
 intro pins s σ H x vs v us Q I rx rv h
 obtain⟨l,xs,y,rfl,rfl,hH,hz,q⟩:=h
 cases rx
 obtain⟨u,rfl,ru⟩:=rv.one
 obtain⟨z,its,n,r,hl,e⟩:=I.Fc hH
 refine call_meets F.slot_list_append ⟨_,e,rfl⟩ F.entry_list_append (F.args_list_append_2 _ _) (PySem.list_append l its.toArray n u (by rw[List.size_toArray];(first|lia|omega))) ⟨e,?_⟩
 refine⟨.aC,_,I.Gr (its':=its++[u]) hH e (by simp) (r.append (.cons ru .nil)) ?_,rfl,q⟩
 rw[List.length_append,List.length_singleton]
 (first|lia|omega)
noncomputable def zu:V→List V→Hp→VK→Prop:=fun x vs H Q=>∃l xs i k y,x= .ref l∧vs=[.int i]∧H l=some (.lst xs)∧ -(2^63)≤i∧i<2^63∧seqIndex? i xs.length=some k∧xs[k]?=some y∧Q y (upd H l (.lst (xs.eraseIdx k)))
theorem A3:Jt X "list.pop" zu:=by
 intro pins s σ H x vs v us Q I rx rv h
 obtain⟨l,xs,i,k,y,rfl,rfl,hH,h1,h2,hk,hy,q⟩:=h
 cases rx
 obtain⟨u,rfl,ru⟩:=rv.one
 obtain⟨t,rfl⟩:=ru
 obtain⟨z,its,n,r,hl,e⟩:=I.Fc hH
 obtain⟨w,hw,rw'⟩:=r.get hy
 refine call_meets F.slot_list_pop ⟨_,e,rfl⟩ F.entry_list_pop (F.args_list_pop_2 _ _)
  (MeetsSeq.list_pop_at l its.toArray n i t k w (fitsIndex_both h1 h2) (by rw[List.size_toArray,←hl];exact hk) (by rw[←Array.getElem?_toList];exact hw) (by rw[List.size_toArray];(first|lia|omega))) ⟨e,?_⟩
 refine⟨y,_,I.Gr (its':=its.eraseIdx k) hH e ?_ (r.eraseIdx k) ?_,rw',q⟩
 · show its.toArray.eraseIdxIfInBounds k=(its.eraseIdx k).toArray
   rw[List.eraseIdxIfInBounds_toArray]
 · have:=tH xs k
   (first|lia|omega)
theorem len_rep{α:Type}(xs:List α)(k:Nat):(List.replicate k xs).flatten.length=k*xs.length:=by
 induction k with
 |zero=>simp
 |succ k ih=>rw[List.replicate_succ,List.flatten_cons,List.length_append,ih,Nat.succ_mul,Nat.add_comm]
end
section
variable {prog:Program}{w:World}{A:Around}{E:Value→Shared→Prop}{s:Shared}
set_option maxRecDepth 100000 in
end
section
variable {X:Cx}
end
end L2
namespace Att
open PySem PySem.W PySem.Calls PyProof.Rows
theorem rJ{P:Params}{h:Heap}:∀(ns:List Int) (vs:List Value),WellAll P h vs (ns.map WData.int)→IntsAre vs ns:=by
 intro ns
 induction ns with
 |nil=>
  intro vs w
  rw[List.map_nil]at w
  cases w
  exact .nil
 |cons n ns ih=>
  intro vs w
  rw[List.map_cons]at w
  cases w with
  |cons a b=>
   cases a
   exact .cons _ _ (ih _ b)
theorem zo{l:OpenLaw}{n:Nat}(hn:l.most=some n){P:Params}{h:Heap}{args:List WData}{vals:List Value}
 (hpre:l.row.toRowW.claim.pre args=true) (hwl:WellAll P h vals args):
 ∃a vs ns,vals=[Value.ref a]∧args=[WData.list (ns.map WData.int)]∧h.get? a=some {cls:= .type "list",data:= .seq vs.toArray}∧IntsAre vs ns∧ns.length≤n:=by
 have hsh:WShape.hasAll [] args [.list .int]=true:=(pre_splitW hpre).1
 have hc:l.pre.holds [] {args:=args}=true:=(pre_splitW hpre).2
 obtain⟨d,r,rfl,h1,h2⟩:=hasAllW_cons hsh
 obtain rfl:=hasAllW_nil h2
 obtain⟨xs,rfl,h3⟩:=hasW_list h1
 obtain⟨ns,rfl⟩:=items_int h3
 have hlen:ns.length≤n:=by
  unfold OpenLaw.pre at hc
  have h4:(WTm.not (.lt (.lit (.int (n:Int))) (.len (.arg 0)))).holds [] {args:=[.list (ns.map .int)]}=true:=by
   have h4:=(holds_andW hc).1
   rw[hn]at h4
   exact h4
  have h5:=condW_of h4 (w_not (w_lt w_lit (w_len_list (w_arg rfl))))
  rw[List.length_map]at h5
  refine Nat.le_of_not_lt fun q=>?_
  have q':(n:Int)<((ns.length:Nat):Int):=by(first|lia|omega)
  first
   |(rw[decide_eq_true q']at h5;exact absurd h5 (by decide))
   |(simp at h5;(first|lia|omega))
 cases hwl with
 |cons w1 w2=>
  cases w2
  cases w1 with
  |list ho hall=>exact⟨_,_,ns,rfl,rfl,ho,rJ ns _ hall,hlen⟩
theorem Aw(l:OpenLaw)(args:List WData):l.row.toRowW.claim.post args (.bool true) args=true:=
 postW_of (r:=l.row.toRowW) (X:=(true==true))
  (show WShape.has [] (.bool true) .bool=true by first|rfl|decide|simp[WShape.has,WShape.arms,WShape.armsAll])
  (show(WTm.eq .res (.lit (.bool true))).value [] {args:=args,res:=some (.bool true),after:=args}=some (.bool (true==true))from w_eq_bool (w_res rfl) w_lit) rfl
theorem wD{l:OpenLaw}{n:Nat}{q:Program}{loose:List Str}{XP:(Str→Option Value)→Heap→Prop}{YP:World→Heap→Prop}{d:DefRec}
 (hn:l.most=some n) (hdf:d.params.defaults=[])
 (call:∀(w:World) (s₀ s₁:Shared) (mg mb:Str→Option Value) (fa:Addr) (o:Obj) (pm cd doc:Value) (a:Addr) (vs:List Value) (ns:List Int),
   Ground q loose [] XP w s₀ mg mb s₁.heap→YP w s₁.heap→
   s₁.heap.get? fa=some o→o.data= .func (docDef d.name d.params d.body d.scope pm cd doc)→s₁.heap.CodeRec cd d.name→mg d.name=some (.ref fa)→
   s₁.heap.get? a=some {cls:= .type "list",data:= .seq vs.toArray}→IntsAre vs ns→ns.length≤n→s₁.gens= #[]→
   codeAny (model l.prog w) callerA (.call (.ref fa) ⟨[.ref a],[]⟩) (fun r s'=>r= .ok (.ret (.bool true))∧OldK s₁.heap s'.heap∧s'.os=s₁.os∧AllBare s'.gens) s₁):
 WalkO q loose XP YP l.row.toRowW d [] (fun f vs=>PySem.call f vs):=by
 intro w s₀ s₁ mg mb G Y fa o pm cd doc dV kV ho hd hcd hD hmg hg args vals as hpre hlay hrd hwl hlo
 obtain rfl:dV= .none:=Dflts.none hD hdf
 obtain rfl:kV= .none:=Dflts.noKw hD
 obtain⟨a,vs,ns,rfl,rfl,hobj,hints,hlen⟩:=zo hn hpre hwl
 refine enter_call (codeAny_mono (call w s₀ s₁ mg mb fa o pm cd doc a vs ns G Y ho (fd_plain hd) hcd hmg hobj hints hlen hg) fun r s' hq=>?_)
 obtain⟨rfl,h2,h3,h4⟩:=hq
 exact⟨.inl ⟨.bool true,.bool true,[],rfl,fun _=>rfl,.bool true,Aw l _,fun _=>⟨List.Pairwise.nil,fun _ hm=>(nomatch hm)⟩⟩,h2,h3,h4⟩
section
variable {prog:Program}{w:World}{A:Around}{E:Value→Shared→Prop}{s:Shared}{K:Frag}
end
end Att
namespace L2
open PySem PySem.Spec PyProof.Rows
theorem mh:∀ {vs:List Value} {ns:List Int},IntsAre vs ns→Vals (ns.map V.int) vs
 |_,_,.nil=> .nil
 |_,_,.cons n t h=> .cons ⟨t,rfl⟩ (mh h)
end L2
/-THE LAST THEOREM (shape;LID,My.*are yours):
 My.Adr:a structure of the addresses that your layer names (classes,functions);My.Txt K t:a structure (Prop) of the equations over K;
 My.txt_mk:{K} {implicit addresses ..} (e1:nsIn K mainGlobals "law"=some (some (.ref f))) (e2:K.lookup f=some ⟨oc,od,.func (fnOf "law" "law" params body scope dV kV doc pm an cdv ct),sl⟩) (e3:codeIn K cdv "law"=true) .. :∃t,My.Txt K t
set_option maxRecDepth 100000 in
set_option maxHeartbeats 0 in
(the tactic k_is has no namespace:write k_is)-/
namespace L2
open PySem PySem.Spec PyProof.Rows
noncomputable def inClass(s:Stmt)(j:Nat):Stmt:=match s with
 | .ClassDef _ _ _ body _ _ _ _ _ _ _=>body.getD j (.Pass ⟨0,0,0,0⟩)
 |_=> .Pass ⟨0,0,0,0⟩
noncomputable def bh(s:Stmt):Arguments:=match s with
 | .FunctionDef _ a _ _ _ _ _ _ _ _=>a
 |_=>{posonlyargs:=[],args:=[],vararg:=none,kwonlyargs:=[],kw_defaults:=[],kwarg:=none,defaults:=[]}
noncomputable def aY(s:Stmt):List Stmt:=match s with
 | .FunctionDef _ _ b _ _ _ _ _ _ _=>b
 |_=>[]
noncomputable def af(s:Stmt):Scope:=match s with
 | .FunctionDef _ _ _ _ _ _ sc _ _ _=>sc
 |_=>{kind:= .function,names:=[],isGenerator:=false,isCoroutine:=false}
noncomputable abbrev aJ:pQ:=fun _ _ _ _ _ _=>False
noncomputable abbrev E0:XK:=fun _ _ _=>False
theorem yt{X:Cx}:Passes aJ X E0:=fun _ _ _ _ _ _ _ h=>h.elim
structure mX(K:PySem.W.Frag)(x qual:Str)(st:Stmt)(f:Addr)(fd:FuncData):Prop where
 ex:∃(oc:Value) (od:Option Addr) (kV doc pm:Value) (an:Option Addr) (cdv ct:Value) (osl:Array (Option Value)),
  fd=PySem.W.fnOf x qual (bh st) (aY st) (af st) .none kV doc pm an cdv ct∧K.lookup f=some ⟨oc,od,.func fd,osl⟩∧PySem.W.codeIn K cdv qual=true
 kp:PySem.W.keepIn K (.ref f)=true
section
variable {P:Program}{w:World}{K:PySem.W.Frag}{mg:Str→Option Value}{base:Heap}
theorem mX.ok{x qual:Str}{st:Stmt}{f:Addr}{fd:FuncData}{N ps:List Str}{k:Nat}{sp:Sp}(F:mX K x qual st f fd)(S:bo N ps (af st))(len:∀vs H Q E,sp vs H Q E→vs.length=ps.length)
 (hbody:∀(cdv:Value) (A:Around) (outer:List Env) (s:Shared) (H:Hp) (vs:List V) (Q:VK) (E:XK),cK k (A.deeper (envOfC qual (af st) s.heap.objs.size f cdv))→sp vs H Q E→
   ∃t,gM (nh aJ P w K mg base N qual (af st) f cdv A outer s H E).tw (aY st) t∧t {nx:=fun _ H'=>Q .aC H',rt:=Q} (start N vs) H):aw P w K mg base aJ (k+1) f fd ps sp:=by
 obtain⟨oc,od,kV,doc,pm,an,cdv,ct,osl,rfl,lk,hcd⟩:=F.ex
 refine CW lk hcd S len fun A outer s H vs Q E hr hsp=>?_
 obtain⟨t,h,q⟩:=hbody cdv A outer s H vs Q E hr hsp
 exact⟨t,h.tw,q⟩
theorem mX.binds{x qual:Str}{st:Stmt}{f:Addr}{fd:FuncData}{ps:List Str}(F:mX K x qual st f fd)
 (h:∀(kV doc pm:Value) (an:Option Addr) (cdv ct:Value) (us:List Value),us.length=ps.length→bindArgs (PySem.W.fnOf x qual (bh st) (aY st) (af st) .none kV doc pm an cdv ct) ⟨us,[]⟩=pure (ps.zip us)):Binds K fd ps []:=by
 obtain⟨oc,od,kV,doc,pm,an,cdv,ct,osl,rfl,lk,hcd⟩:=F.ex
 exact .all (h kV doc pm an cdv ct)
theorem bO{x qual:Str}{st:Stmt}{f:Addr}{oc:Value}{od an:Option Addr}{osl:Array (Option Value)}{kV doc pm cdv ct:Value}(l:K.lookup f=some ⟨oc,od,.func (PySem.W.fnOf x qual (bh st) (aY st) (af st) .none kV doc pm an cdv ct),osl⟩)
 (c:PySem.W.codeIn K cdv qual=true) (k:PySem.W.keepIn K (.ref f)=true):mX K x qual st f (PySem.W.fnOf x qual (bh st) (aY st) (af st) .none kV doc pm an cdv ct):=⟨⟨oc,od,kV,doc,pm,an,cdv,ct,osl,rfl,l,c⟩,k⟩
end
section
variable {X:Cx}
end
theorem eV{A B:Prop}(h:A):if true=true then A else B:=by
 rw[if_pos rfl]
 exact h
noncomputable def Cd(H H':Hp):Prop:=∀b o,H b=some o→H' b=some o
end L2
set_option maxHeartbeats 4000000
namespace L3
open PySem PySem.Spec PyProof.Rows L2
section
variable {prog:Program}{w:World}{A:Around}{R:Result→Shared→Prop}{s:Shared}
theorem wH{elt target iter:Expr}{ifs:List Expr}{scope:Scope}{pos:Pos}{it acc:Value}{env:Env}(I:Nat→Shared→Prop)
 (turn:∀n s,I n s→wpAny (model prog w) A (pyNext it) (fun r s₁=>match r with
   |none=>R (.ok .next) s₁
   |some v=>wpAny (model prog w) A (letOwnedTupleGo target it v) (fun _ s₀=>wpAny (model prog w) A (assign target env v) (fun _ s₂=>
     wpAny (model prog w) A (forIn ifs true fun c r=>if r=true then do let ok ←isTrue c env (eval c env);pure (ForInStep.yield ok)else pure (ForInStep.yield r)) (fun ok s₃=>
      if ok=true then wpAny (model prog w) A (eval elt env) (fun x s₄=>
       wpAny (model prog w) A (call (.builtin "list.append") [acc,x]) (fun _ s₅=>∃m,m<n∧I m s₅) (fun _ _=>False) s₄) (fun _ _=>False) s₃
      else∃m,m<n∧I m s₃) (fun _ _=>False) s₂) (fun _ _=>False) s₀) (fun _ _=>False) s₁) (fun _ _=>False) s)
 (n:Nat) (h:I n s):
 codeAny (model prog w) A (.compLoop (.ListComp elt [⟨target,iter,ifs,0⟩] scope pos) 0 it acc env) R s:=by
 refine codeAny_loop rfl I (fun n s hI=>?_) n h
 show wpAny _ A ((compTurn (.ListComp elt [⟨target,iter,ifs,0⟩] scope pos) 0 it acc env).onRaise (fun x=>do noteFrame x env;theTreesLotGoes x)) _ _ s
 refine wpAny_noted ?_
 rw[compTurn_list]
 refine wpAny_bind (wpAny_standAt (wpAny_bind (wpAny_mono (turn n s hI) (fun r s₁ h₁=>?_) fun _ _ h'=>h'.elim)))
 cases r with
 |none=>exact wpAny_pure h₁
 |some v=>
  refine wpAny_bind (wpAny_mono h₁ (fun _ s₀ h₀=>?_) fun _ _ h'=>h'.elim)
  refine wpAny_bind (wpAny_mono h₀ (fun _ s₂ h₂=>wpAny_bind (wpAny_mono h₂ (fun ok s₃ h₃=>?_) fun _ _ h'=>h'.elim)) fun _ _ h'=>h'.elim)
  cases ok with
  |false=>exact wpAny_pure ⟨rfl,h₃⟩
  |true=>
   exact wpAny_bind (wpAny_bind (wpAny_mono h₃ (fun x s₄ h₄=>wpAny_bind (wpAny_mono h₄ (fun _ s₅ h₅=>wpAny_pure (wpAny_pure ⟨rfl,h₅⟩)) fun _ _ h'=>h'.elim)) fun _ _ h'=>h'.elim))
end
noncomputable def cY(cells:List (Str×Addr)):List (Str×NameKind)→List (Str×Addr)→List (Str×Addr)
 | [],acc=>acc
 |(n,k)::r,acc=>if k== .free then(match cells.lookup n with|some c=>cY cells r ((n,c)::acc)|none=>cY cells r acc)else cY cells r acc
theorem cN{cells:List (Str×Addr)}:∀(names:List (Str×NameKind)) (acc:List (Str×Addr)),(∀x c,acc.lookup x=some c→cells.lookup x=some c)→
 ∀x c,(cY cells names acc).lookup x=some c→cells.lookup x=some c
 | [],acc,h,x,c,e=>h x c e
 |(n,k)::r,acc,h,x,c,e=>by
  unfold cY at e
  split at e
  · split at e
    · rename_i d q
      refine cN r _ (fun y b e'=>?_) x c e
      rw[List.lookup_cons]at e'
      split at e'
      · rename_i z
        cases e'
        have z':y=n:=by simpa using z
        rw[z'];exact q
      · exact h y b e'
    · exact cN r _ h x c e
  · exact cN r _ h x c e
theorem ip{cells:List (Str×Addr)}{x:Str}:∀(names:List (Str×NameKind)) (acc:List (Str×Addr)),(∃c,cells.lookup x=some c)→((x,NameKind.free)∈names∨∃c,acc.lookup x=some c)→
 ∃c,(cY cells names acc).lookup x=some c
 | [],acc,_,h=>by
   rcases h with h|h
   · simp at h
   · exact h
 |(n,k)::r,acc,hc,h=>by
  unfold cY
  split
  · rename_i hk
    split
    · rename_i d q
      refine ip r _ hc ?_
      rcases h with h|⟨c,h⟩
      · rcases List.mem_cons.mp h with e|e
        · cases e
          exact .inr ⟨d,by simp[List.lookup_cons]⟩
        · exact .inl e
      · refine .inr ?_
        rw[List.lookup_cons]
        split
        · exact⟨_,rfl⟩
        · exact⟨c,h⟩
    · rename_i q
      refine ip r _ hc ?_
      rcases h with h|h
      · rcases List.mem_cons.mp h with e|e
        · cases e
          obtain⟨c,hc⟩:=hc
          rw[hc]at q;cases q
        · exact .inl e
      · exact .inr h
  · rename_i hk
    refine ip r _ hc ?_
    rcases h with h|h
    · rcases List.mem_cons.mp h with e|e
      · cases e
        exact absurd rfl hk
      · exact .inl e
    · exact .inr h
theorem ku{scope:Scope}{env:Env}(h:∀x∈scope.names,x.2= .free→∃c,env.cells.lookup x.1=some c):closureFor scope env=pure (cY env.cells scope.names []):=by
 have key:∀(names:List (Str×NameKind)) (acc:List (Str×Addr)),(∀x∈names,x.2= .free→∃c,env.cells.lookup x.1=some c)→
  (forIn names acc (fun(x:Str×NameKind) (cs:List (Str×Addr))=>if(x.2==NameKind.free)=true then(do let a ←cellOf env x.1;pure (ForInStep.yield ((x.1,a)::cs)):Sem (ForInStep (List (Str×Addr))))else pure (ForInStep.yield cs)))=(pure (cY env.cells names acc):Sem (List (Str×Addr))):=by
  intro names
  induction names with
  |nil=>intro acc _;rfl
  |cons p r ih=>
   intro acc hh
   obtain⟨n,k⟩:=p
   rw[List.forIn_cons]
   have ih':=ih
   by_cases hk:(k==NameKind.free)=true
   · obtain⟨c,e⟩:=hh (n,k) List.mem_cons_self (by simpa using hk)
     simp only[hk,if_true]
     have e1:cellOf env n=pure c:=by
      unfold cellOf
      rw[e]
     rw[e1]
     simp only[pure_bind]
     rw[ih _ fun x hx=>hh x (List.mem_cons_of_mem _ hx)]
     conv=>rhs;unfold cY
     simp only[hk,if_true]
     rw[show env.cells.lookup n=some c from e]
   · have hk':(k==NameKind.free)=false:=by simpa using hk
     simp only[hk',Bool.false_eq_true,if_false,pure_bind]
     rw[ih _ fun x hx=>hh x (List.mem_cons_of_mem _ hx)]
     conv=>rhs;unfold cY
     simp only[hk',Bool.false_eq_true,if_false]
 unfold closureFor
 have:=key scope.names [] h
 rw[bind_pure]
 first
  |exact this
  |(simp only[bind_pure]at this⊢;exact this)
end L3
namespace L3
open PySem PySem.Spec L2
open PyProof.Rows hiding St
theorem iL(env:Env):∀(names:List (Str×NameKind)) (x:Str),
 (names.map fun(n,k)=>if(k==NameKind.free&&env.scope.kind== .function&&env.kindOf n==some .cell)then(n,NameKind.cell)else(n,k)).lookup x=
   (names.lookup x).map fun k=>if(k==NameKind.free&&env.scope.kind== .function&&env.kindOf x==some .cell)then NameKind.cell else k
 | [],_=>rfl
 |(n,k)::r,x=>by
  show List.lookup x ((if(k==NameKind.free&&env.scope.kind== .function&&env.kindOf n==some .cell)=true then(n,NameKind.cell)else(n,k))::_)=_
  cases hx:x==n with
  |true=>
   have e:x=n:=by simpa using hx
   subst e
   by_cases hc:(k==NameKind.free&&env.scope.kind== .function&&env.kindOf x==some .cell)=true
   · rw[if_pos hc];simp only[List.lookup_cons,beq_self_eq_true,Option.map_some];rw[if_pos hc]
   · rw[if_neg hc];simp only[List.lookup_cons,beq_self_eq_true,Option.map_some];rw[if_neg hc]
  |false=>
   by_cases hc:(k==NameKind.free&&env.scope.kind== .function&&env.kindOf n==some .cell)=true
   · rw[if_pos hc];simp only[List.lookup_cons,hx];exact iL env r x
   · rw[if_neg hc];simp only[List.lookup_cons,hx];exact iL env r x
theorem vX{env:Env}{scope:Scope}{x:Str}(h:scope.names.lookup x=some .free):(relabel scope env).names.lookup x=some .cell∨(relabel scope env).names.lookup x=some .free:=by
 have e:(relabel scope env).names.lookup x=_:=iL env scope.names x
 rw[e,h]
 simp only[Option.map_some]
 split
 · exact .inl rfl
 · exact .inr rfl
theorem uQ{env:Env}{scope:Scope}{x:Str}(h:(relabel scope env).names.lookup x=some .cell∨(relabel scope env).names.lookup x=some .free):(x,NameKind.free)∈scope.names∨scope.names.lookup x=some .cell:=by
 have e:(relabel scope env).names.lookup x=_:=iL env scope.names x
 rw[e]at h
 cases q:scope.names.lookup x with
 |none=>rw[q]at h;rcases h with h|h<;>cases h
 |some k=>
  rw[q]at h
  simp only[Option.map_some]at h
  have m:=PySem.mem_of_lookup q
  by_cases hc:(k==NameKind.free&&env.scope.kind== .function&&env.kindOf x==some .cell)=true
  · have:k= .free:=by
     simp only[Bool.and_eq_true]at hc
     simpa using hc.1.1
    subst this;exact .inl m
  · rw[if_neg hc]at h
    rcases h with h|h
    · cases h;exact .inr rfl
    · cases h;exact .inl m
theorem f_:∀(names:List (Str×NameKind)) (L:Nat) (acc:List (Str×Addr)),cellsFrom L names acc=cellsFrom L names []++acc
 | [],_,_=>rfl
 |(n,k)::r,L,acc=>by
  unfold cellsFrom
  by_cases hk:(k==NameKind.cell)=true
  · rw[if_pos hk,if_pos hk,f_ r (L+1) ((n,L)::acc),f_ r (L+1) [(n,L)],List.append_assoc];rfl
  · rw[if_neg hk,if_neg hk];exact f_ r L acc
theorem ox:∀ {names:List (Str×NameKind)} {L:Nat} {x:Str} {c:Addr},(x,c)∈cellsFrom L names []→(x,NameKind.cell)∈names
 | [],_,_,_,h=>by unfold cellsFrom at h;cases h
 |(n,k)::r,L,x,c,h=>by
  unfold cellsFrom at h
  by_cases hk:(k==NameKind.cell)=true
  · rw[if_pos hk,f_]at h
    have hk':k= .cell:=by simpa using hk
    subst hk'
    rcases List.mem_append.mp h with h|h
    · exact List.mem_cons_of_mem _ (ox h)
    · have:(x,c)=(n,L):=by simpa using h
      cases this
      exact List.mem_cons_self
  · rw[if_neg hk]at h
    exact List.mem_cons_of_mem _ (ox h)
theorem nu:∀ {l1 l2:List (Str×Addr)} {x:Str} {c:Addr},(l1++l2).lookup x=some c→l1.lookup x=some c∨(l1.lookup x=none∧l2.lookup x=some c)
 | [],_,_,_,h=> .inr ⟨rfl,h⟩
 |(n,d)::l1,l2,x,c,h=>by
  rw[List.cons_append,List.lookup_cons]at h
  rw[List.lookup_cons]
  cases hx:x==n with
  |true=>rw[hx]at h;exact .inl h
  |false=>rw[hx]at h;exact nu h
theorem pR:∀ {l1 l2:List (Str×Addr)} {x:Str},l1.lookup x=none→(l1++l2).lookup x=l2.lookup x
 | [],_,_,_=>rfl
 |(n,d)::l1,l2,x,h=>by
  rw[List.lookup_cons]at h
  rw[List.cons_append,List.lookup_cons]
  cases hx:x==n with
  |true=>rw[hx]at h;cases h
  |false=>rw[hx]at h;exact pR h
noncomputable def ki(scope:Scope)(C:Addr)(cl:List (Str×Addr)):List (Str×Addr):=cellsFrom (C+1) scope.names cl
theorem ix{scope:Scope}{C:Addr}{cl:List (Str×Addr)}{x:Str}{c:Addr}(h:(ki scope C cl).lookup x=some c):(x,c)∈cellsFrom (C+1) scope.names []∨cl.lookup x=some c:=by
 unfold ki at h
 rw[f_]at h
 rcases nu h with h|h
 · exact .inl (PySem.mem_of_lookup h)
 · exact .inr h.2
theorem FO(names:List (Str×NameKind))(h:Heap){C:Addr}(e:h.objs.size=C+1):CellsOk (pushCells h names) (C+1) (cellsFrom (C+1) names []):=by
 have:=cellsFrom_ok names h (C+1) [] ⟨fun _ _ hm=>(nomatch hm),List.Pairwise.nil⟩ (by rw[e];exact Nat.le_refl _)
 rw[e]at this
 exact this
theorem lP{names:List (Str×NameKind)}{C:Addr}{x:Str}{c:Addr}:∀ {L:Nat},C≤L→(x,c)∈cellsFrom L names []→C≤c:=by
 induction names with
 |nil=>intro L _ h;unfold cellsFrom at h;cases h
 |cons p r ih=>
  obtain⟨n,k⟩:=p
  intro L hL h
  unfold cellsFrom at h
  by_cases hk:(k==NameKind.cell)=true
  · rw[if_pos hk,f_]at h
    rcases List.mem_append.mp h with h|h
    · exact ih (Nat.le_trans hL (Nat.le_succ L)) h
    · have:(x,c)=(n,L):=by simpa using h
      cases this
      exact hL
  · rw[if_neg hk]at h
    exact ih hL h
theorem own_apart{names:List (Str×NameKind)}{x y:Str}{c:Addr}:∀ {L:Nat},(x,c)∈cellsFrom L names []→(y,c)∈cellsFrom L names []→x=y:=by
 induction names with
 |nil=>intro L h;unfold cellsFrom at h;cases h
 |cons p r ih=>
  obtain⟨n,k⟩:=p
  intro L h1 h2
  unfold cellsFrom at h1 h2
  by_cases hk:(k==NameKind.cell)=true
  · rw[if_pos hk,f_]at h1 h2
    rcases List.mem_append.mp h1 with g1|g1<;>rcases List.mem_append.mp h2 with g2|g2
    · exact ih g1 g2
    · have e2:(y,c)=(n,L):=by simpa using g2
      have ec:c=L:=(Prod.mk.inj e2).2
      have:=lP (C:=L+1) (Nat.le_refl _) g1
      rw[ec]at this
      exact absurd this (Nat.not_succ_le_self _)
    · have e1:(x,c)=(n,L):=by simpa using g1
      have ec:c=L:=(Prod.mk.inj e1).2
      have:=lP (C:=L+1) (Nat.le_refl _) g2
      rw[ec]at this
      exact absurd this (Nat.not_succ_le_self _)
    · have e1:(x,c)=(n,L):=by simpa using g1
      have e2:(y,c)=(n,L):=by simpa using g2
      exact(Prod.mk.inj e1).1.trans (Prod.mk.inj e2).1.symm
  · rw[if_neg hk]at h1 h2
    exact ih h1 h2
theorem qj{M:Model}{A:Around}{E:Value→Shared→Prop}{s:Shared}{scope:Scope}{globals:Addr}{cl:List (Str×Addr)}{qual:Str}{env:Env}{Q:Env→Shared→Prop}
 (hQ:Q (newEnv scope s.heap.objs.size globals (ki scope s.heap.objs.size cl) qual none .none (some env) builtinsNs) {s with heap:=pushCells (s.heap.push {cls:= .type "dict",data:= .dict #[]}) scope.names}):
 wpAny M A (newFunctionEnv scope globals cl [] qual none .none (some env)) Q E s:=by
 simp only[newFunctionEnv,Option.isSome_some,if_true]
 refine wpAny_bind (wpAny_alloc ?_)
 refine wpAny_bind (wpAny_layCells _ (fun name kind cells=>by cases hkc:kind==NameKind.cell<;>simp[hkc]) _ _ _ _ ?_)
 rw[show({s with heap:=s.heap.push {cls:= .type "dict",data:= .dict #[]}}:Shared).heap.objs.size=s.heap.objs.size+1 from Heap.size_push ..]
 rw[List.forIn_nil]
 exact wpAny_bind (wpAny_pure (wpAny_pure hQ))
structure br(X:Cx)(scope:Scope)(Nc:List Str)(fr:List (Option Nat)):Prop where
 kind:scope.kind= .function
 cells:∀x∈scope.names,x.2= .cell→scope.names.lookup x.1=some .cell
 names:∀x∈scope.names,x.2= .local→scope.names.lookup x.1=some .local
 free:∀x∈scope.names,x.2= .free→X.env.kindOf x.1=some .cell∨X.env.kindOf x.1=some .free
 len:fr.length=Nc.length
 map:∀(i j:Nat) (x:Str),Nc[i]?=some x→fr[i]?=some (some j)→X.N[j]?=some x∧scope.names.lookup x=some .free∧(X.env.kindOf x=some .cell∨X.env.kindOf x=some .free)
noncomputable def σC(fr:List (Option Nat))(σ:St):St:=fr.map fun o=>o.bind fun j=>(σ[j]?).join
noncomputable def eY(X:Cx)(scope:Scope)(Nc:List Str)(C:Addr)(s:Shared)(H:Hp)(ex:List Addr):Cx:=
 {X with N:=Nc,s₀:=s,H₀:=H,env:=compEnvC scope (ki scope C (cY X.env.cells scope.names [])) C X.env,outer:=X.stack,stack:=X.stack,ex:=ex,fn:=fun x=>scope.names.lookup x==some .cell,pn:=[],xe:=fun _ _=>False}
noncomputable def pC(wi:TI)(fr:List (Option Nat))(g:TG)(c:TT)(te:TE):TE:=fun σ H Q=>wi σ H fun J H1=>∀l,H1 l=none→
 ∃W:Nat→Nat→L2.St→Hp→Prop,(∃m,W 0 m (σC fr σ) (upd H1 l (.lst [])))∧∀i m σ H,W i m σ H→
  (J.stop i H∧Q (.ref l) H)∨(J.go i H∧∃N:L2.St→Hp→Prop,(∀σ' H',N σ' H'→∃m',m'<m∧W (i+1) m' σ' H')∧∀x H',J.mS i H x H'→
    g x σ H' fun σ2 H2=>c σ2 H2 fun b H3=>if b=true then te σ2 H3 fun y H4=>∃ys,H4 l=some (.lst ys)∧ys.length<sizeLine∧N σ2 (upd H4 l (.lst (ys++[y])))else N σ2 H3)
noncomputable def oH(X:Cx)(ifs:List Expr)(t:TT):Prop:=
 ∀(pins:List (Addr×Obj)) (s:Shared) (σ:St) (H:Hp) (Q:Bool→Hp→Prop),Inv X pins σ H s→t σ H Q→
  wpAny (model X.prog X.w) X.A (forIn ifs true fun c r=>if r=true then do let ok ←isTrue c X.env (eval c X.env);pure (ForInStep.yield ok)else pure (ForInStep.yield r)) (TP X pins σ Q) X.xe s
noncomputable def Ji:TT:=fun _ H Q=>Q true H
theorem Dt{X:Cx}:oH X [] Ji:=fun _ _ _ H _ I h=>wpAny_tests_nil ⟨H,I,h⟩
theorem ET{X:Cx}{c:Expr}{t:TT}(h:PT X c t):oH X [c] t:=fun pins s σ H Q I q=>wpAny_tests_one (h pins s σ H Q I q)
section
variable {X:Cx}{scope:Scope}{Nc:List Str}{fr:List (Option Nat)}{pins:List (Addr×Obj)}{σ:St}{H:Hp}{s:Shared}
theorem Gw{C:Addr}{fp:List Addr}(S:br X scope Nc fr)(I:Inv X pins σ H s)(hC:C=s.heap.objs.size)(hf:∀b∈fp,jX X pins H b)(hlt:∀b∈fp,b<s.heap.objs.size)(hnc:∀b∈fp,∀x c,X.env.cells.lookup x=some c→c≠b):
 (eY X scope Nc C s H fp).Ok where
 mod:=I.ok.mod
 kind:=S.kind
 glob:=I.ok.glob
 blt:=I.ok.blt
 above:=Nat.le_of_eq hC.symm
 inj:=fun x y c h1 h2=>by
  have low:∀ {z},(cY X.env.cells scope.names []).lookup z=some c→c<s.heap.objs.size:=fun{z} hz=>by
   obtain⟨v,q⟩:=I.cell z c (cN _ [] (fun _ _ e=>by cases e) z c hz)
   exact q.lt
  rcases ix h1 with h1|h1<;>rcases ix h2 with h2|h2
  · exact own_apart h1 h2
  · have a:=lP (C:=C+1) (Nat.le_refl _) h1
    have b:c<C:=by rw[hC];exact low h2
    exact absurd a (Nat.not_le_of_gt (Nat.lt_succ_of_lt b))
  · have a:=lP (C:=C+1) (Nat.le_refl _) h2
    have b:c<C:=by rw[hC];exact low h1
    exact absurd a (Nat.not_le_of_gt (Nat.lt_succ_of_lt b))
  · exact I.ok.inj x y c (cN _ [] (fun _ _ e=>by cases e) x c h1) (cN _ [] (fun _ _ e=>by cases e) y c h2)
 has:=fun x hx=>by
  rcases uQ hx with m|m
  · obtain⟨c,e⟩:=ip scope.names [] (I.ok.has x (S.free _ m rfl)) (.inl m)
    exact Option.isSome_iff_exists.mp (PySem.W.cellsFrom_some _ _ _ (.inr (by rw[e];rfl)))
  · exact Option.isSome_iff_exists.mp (PySem.W.cellsFrom_some _ _ _ (.inl m))
 vg:=fun x c hf h=>by
  have hl:scope.names.lookup x=some .cell:=by
   have:(scope.names.lookup x==some .cell)=true:=hf
   simpa using this
  obtain⟨c',e⟩:=Option.isSome_iff_exists.mp (PySem.W.cellsFrom_some (x:=x) scope.names (C+1) [] (.inl hl))
  have h':(cellsFrom (C+1) scope.names []++cY X.env.cells scope.names []).lookup x=some c:=by
   rw[←f_];exact h
  rcases nu h' with q|q
  · have:=lP (C:=C+1) (Nat.le_refl _) (PySem.mem_of_lookup q)
    show s.heap.objs.size≤c
    rw[←hC];exact Nat.le_of_succ_le this
  · rw[q.1]at e;cases e
 hd:=I.ok.hd
 frames:=I.ok.frames
 xJ:= .inl rfl
 Ac:=fun b hb=>⟨by rw[show(eY X scope Nc C s H fp).env.locals=s.heap.objs.size from hC];exact Nat.ne_of_lt (hlt b hb),fun x c h=>by
  rcases ix h with h|h
  · have a:=lP (C:=C+1) (Nat.le_refl _) h
    have b':b<C:=by rw[hC];exact hlt b hb
    exact Nat.ne_of_gt (Nat.lt_of_lt_of_le b' (Nat.le_of_succ_le a))
  · exact hnc b hb x c (cN _ [] (fun _ _ e=>by cases e) x c h)⟩
 bs:=I.bs
 oo:=Nat.le_trans I.ok.oo I.sz
 qz:=fun b o e hb=>by
  have hn:=(hf b hb).2.2.2.1
  rcases hn with hn|hn
  · exact I.ok.qz b o e hn
  · exact absurd (Heap.lt_size (I.ok.bs b o e).1) (Nat.not_lt.mpr hn)
 qu:=fun b hb z=>by
  have q:=I.v_ b z
  rcases List.mem_cons.mp q with q|q
  · exact(hf b hb).2.1 q
  · exact(hf b hb).2.2.1 q
 jo:=I.stack
 qZ:=fun b hb=>I.su b hb
 gt:=I.ok.gt
theorem xh{i:Nat}{v:V}(h:(σC fr σ)[i]?=some (some v)):∃j,fr[i]?=some (some j)∧σ[j]?=some (some v):=by
 unfold σC at h
 rw[List.getElem?_map]at h
 cases q:fr[i]? with
 |none=>rw[q]at h;cases h
 |some o=>
  rw[q]at h
  cases o with
  |none=>simp at h
  |some j=>
   simp only[Option.map_some,Option.some.injEq,Option.bind_some]at h
   refine⟨j,rfl,?_⟩
   cases r:σ[j]? with
   |none=>rw[r]at h;cases h
   |some u=>rw[r]at h;simp at h;rw[h]
theorem A9{s':Shared}{h':Heap}{C:Addr}{fp:List Addr}{t':Nat}(S:br X scope Nc fr)(I:Inv X pins σ H s)(hC:C=s.heap.objs.size)(ok:(eY X scope Nc C s H fp).Ok)(hfr:∀b∈fp,H b=none)
 (k:∀b o,s.heap.get? b=some o→h'.get? b=some o) (hn:h'.Ns C (fun _=>none)) (hcs:∀x c,(x,c)∈cellsFrom (C+1) scope.names []→h'.IsCell c none):Inv (eY X scope Nc C s H fp) [] (σC fr σ) H {s with heap:=h',toks:=t'} where
 ok:=ok
 os:=rfl
 bare:=I.bare
 base:=Un.kept k
 loc:=⟨_,hn,fun i x v h1 h2 h3=>by
  obtain⟨j,q1,q2⟩:=xh h2
  obtain⟨n1,n2,n3⟩:=S.map i j x h1 q1
  obtain⟨m,hm,hl⟩:=I.loc
  have vis:vc X.env.scope x:=by
   rcases n3 with z|z
   · exact .inr (.inl z)
   · exact .inr (.inr z)
  obtain⟨u,r,lk⟩:=hl j x v n1 q2 vis
  refine⟨u,r,?_⟩
  rcases lk with⟨z,_⟩|⟨z,c,e,ic⟩
  · rcases n3 with y|y
    · rw[y]at z;cases z
    · rw[y]at z;cases z
  · refine .inr ⟨vX n2,?_⟩
    obtain⟨c',e'⟩:=ip scope.names [] ⟨c,e⟩ (.inl (PySem.mem_of_lookup n2))
    have e2:=cN _ [] (fun _ _ e=>by cases e) x c' e'
    rw[e]at e2;cases e2
    refine⟨c,?_,ic.keeps k⟩
    show(ki scope C (cY X.env.cells scope.names [])).lookup x=some c
    unfold ki
    rw[f_,pR ?_]
    · exact e'
    · cases q:(cellsFrom (C+1) scope.names []).lookup x with
      |none=>rfl
      |some c2=>
       have:=S.cells _ (ox (PySem.mem_of_lookup q)) rfl
       rw[n2]at this;cases this⟩
 cell:=fun x c h=>by
  rcases ix h with h|h
  · exact⟨_,hcs x c h⟩
  obtain⟨v,q⟩:=I.cell x c (cN _ [] (fun _ _ e=>by cases e) x c h)
  exact⟨v,q.keeps k⟩
 free:=by show H C=none;rw[hC];exact I.aI.fresh (Nat.le_refl _)
 h9:=fun x c h=>by
  rcases ix h with h|h
  · have a:=lP (C:=C+1) (Nat.le_refl _) h
    exact I.aI.fresh (by rw[←hC];exact Nat.le_of_succ_le a)
  · exact I.h9 x c (cN _ [] (fun _ _ e=>by cases e) x c h)
 pin:=fun p hp=>by cases hp
 aI:=I.aI.kept k
 len:=by unfold σC;rw[List.length_map];exact S.len
theorem Inv.forget{C:Addr}{h':Heap}(I:Inv X pins σ H s)(f:jX X pins H C)(hs:Heap.SameBut C s.heap h'):Inv X pins σ H {s with heap:=h'}:=by
 refine I.yh (s':={s with heap:=h'}) (ch:=[C]) rfl ?_ ?_ I.bare fun b hb=>?_
 · have ne:∀b,b∉[C]→b≠C:=fun b hb z=>hb (by simp[z])
   exact{keep:=fun b o q _ _ hx=>(hs.2 b (ne b hx)).trans q,slot:=fun b o q _ _ hx=>⟨o.slots,(hs.2 b (ne b hx)).trans q⟩,free:=fun b o q n _=>n,there:=fun b o q hx=>⟨o,(hs.2 b (ne b hx)).trans q⟩,mr:=fun _ _ e=>e,lx:=fun _ _ _ e=>e,lJ:=fun b ps e=>⟨#[],by rw[e];simp⟩}
 · intro a o q
   have na:∀b u,H b=some u→b≠C:=fun b u q z=>by rw[z,f.1]at q;cases q
   refine(I.aI a o q).mD (fun b u hb e=>?_) (fun _ q=>q) fun _ _ q=>q
   rw[hs.2 b ?_]
   · exact e
   · rcases hb with rfl|hb
     · exact na _ _ q
     · exact na _ _ hb
 · have:b=C:=by simpa using hb
   subst this
   exact⟨f.2.2.2.1,f.2.1,f.2.2.2.2.1,f.2.2.2.2.2⟩
theorem qW{elt tg iter:Expr}{ifs:List Expr}{wi:TI}{g:TG}{c:TT}{te:TE}{pos:Pos}{Q:VK}{RR:Value→Addr→Result→Shared→Prop}(hx:X.xe=fun _ _=>False)(hc:X.calm=true)(S:br X scope Nc fr)(hi:PI X tg iter wi)
 (hg:∀C s H ex,PG (eY X scope Nc C s H ex) tg g) (ht:∀C s H ex,oH (eY X scope Nc C s H ex) ifs c) (he:∀C s H ex,PE (eY X scope Nc C s H ex) elt te) (I:Inv X pins σ H s) (h:pC wi fr g c te σ H Q)
 (fin:∀(l C:Addr) (s6:Shared) (H5:Hp) (m:Str→Option Value),s6.heap.Ns C m→jX X pins H5 C→Inv X pins σ H5 s6→Q (.ref l) H5→RR (.ref l) C (.ok .next) s6):
 wpAny (model X.prog X.w) X.A (eval iter X.env) (fun x s₁=>wpAny (model X.prog X.w) X.A (pyIter x) (fun it s₂=>wpAny (model X.prog X.w) X.A (newList []) (fun acc s₃=>
  wpAny (model X.prog X.w) X.A (newFunctionEnv scope X.env.globals (cY X.env.cells scope.names []) [] X.env.qual none .none (some X.env)) (fun cenv s₄=>
   codeAny (model X.prog X.w) X.A (.compStart (.ListComp elt [⟨tg,iter,ifs,0⟩] scope pos) 0 it acc {cenv with scope:=relabel scope X.env}) (RR acc cenv.locals) s₄) X.xe s₃) X.xe s₂) X.xe s₁) X.xe s:=by
 refine bR (hi pins s σ H _ I h) fun v s1 h1=>bR h1 fun itv s2 h2=>?_
 obtain⟨it,fp,tn,J,H2,e,I2,T,st2,f2,hR⟩:=h2
 subst e
 refine wpAny_newList ?_ (Nat.zero_le _)
 have I3:=I2.BN (t':=s2.toks) (its:=[]) (ys:=[]) .nil (Nat.zero_le _)
 generalize e3:({s2 with heap:=s2.heap.push {cls:= .type "list",data:= .seq ([]:List Value).toArray}}:Shared)=s3
 have I3:Inv X pins σ (upd H2 s2.heap.objs.size (.lst [])) s3:=by rw[←e3];exact I3
 have ml:s2.heap.objs.size<s3.heap.objs.size:=by rw[←e3];show _<(s2.heap.push _).objs.size;rw[Heap.size_push];(first|lia|omega)
 have k3:∀b o,s2.heap.get? b=some o→s3.heap.get? b=some o:=fun b o q=>by rw[←e3];exact Heap.get?_push_of_some _ q
 obtain⟨W,⟨m0,w0⟩,turn⟩:=hR s2.heap.objs.size (I2.aI.fresh (Nat.le_refl _))
 refine qj ?_
 have hn:(pushCells (s3.heap.push {cls:= .type "dict",data:= .dict #[]}) scope.names).Ns s3.heap.objs.size (fun _=>none):=(Heap.Ns.new s3.heap (.type "dict")).keeps (pushCells_keeps _ _)
 have hcs:∀x c,(x,c)∈cellsFrom (s3.heap.objs.size+1) scope.names []→(pushCells (s3.heap.push {cls:= .type "dict",data:= .dict #[]}) scope.names).IsCell c none:=fun x c h=>((FO scope.names _ (Heap.size_push ..)).empty x c h).1
 have k4:∀b o,s3.heap.get? b=some o→(pushCells (s3.heap.push {cls:= .type "dict",data:= .dict #[]}) scope.names).get? b=some o:=fun b o q=>pushCells_keeps _ _ b o (Heap.get?_push_of_some _ q)
 generalize(pushCells (s3.heap.push {cls:= .type "dict",data:= .dict #[]}) scope.names)=h' at hn hcs k4⊢
 have hobj:∀b∈fp,∃o,s2.heap.get? b=some o∧∀v,o.data≠ .cell v:=T.obj _ _ st2
 have hlt2:∀b∈fp,b<s3.heap.objs.size:=fun b hb=>let⟨o,q,_⟩:=hobj b hb;Heap.lt_size (k3 b o q)
 have hnl:∀b∈fp,b≠s2.heap.objs.size:=fun b hb=>by
  obtain⟨o,q,_⟩:=hobj b hb
  exact Nat.ne_of_lt (Heap.lt_size q)
 have f3:∀b∈fp,jX X pins (upd H2 s2.heap.objs.size (.lst [])) b:=fun b hb=>⟨by rw[aL (hnl b hb)];exact(f2 b hb).1,(f2 b hb).2⟩
 have ok:=Gw (C:=s3.heap.objs.size) (fp:=fp) S I3 rfl f3 hlt2 fun b hb=>(f2 b hb).2.2.2.2.1
 have I4:Inv (eY X scope Nc s3.heap.objs.size s3 (upd H2 s2.heap.objs.size (.lst [])) fp) [] (σC fr σ) (upd H2 s2.heap.objs.size (.lst [])) {s3 with heap:=h',toks:=s3.toks}:=
  A9 (s':=s3) S I3 rfl ok (fun b hb=>(f3 b hb).1) k4 hn hcs
 have st4:tn 0 h':=T.keep _ _ _ st2 fun b _ o q=>k4 b o (k3 b o q)
 generalize hXc:eY X scope Nc s3.heap.objs.size s3 (upd H2 s2.heap.objs.size (.lst [])) fp=Xc at I4
 have hgc:PG Xc tg g:=by rw[←hXc];exact hg _ _ _ _
 have htc:oH Xc ifs c:=by rw[←hXc];exact ht _ _ _ _
 have hec:PE Xc elt te:=by rw[←hXc];exact he _ _ _ _
 have xP:Xc.prog=X.prog:=by rw[←hXc];rfl
 have xW:Xc.w=X.w:=by rw[←hXc];rfl
 have xK:Xc.K=X.K:=by rw[←hXc];rfl
 have xc:Xc.calm=true:=by rw[←hXc];exact hc
 have xA:Xc.A=X.A:=by rw[←hXc];rfl
 have xE:Xc.env=compEnvC scope (ki scope s3.heap.objs.size (cY X.env.cells scope.names [])) s3.heap.objs.size X.env:=by rw[←hXc];rfl
 have xx:Xc.xe=fun _ _=>False:=by rw[←hXc];rfl
 have fpc:∀ {H':Hp},(∀b∈fp,H' b=none)→∀b∈fp,jX Xc [] H' b:=fun{H'} hn b hb=>by
  rw[←hXc]
  refine⟨hn b hb,Nat.ne_of_lt (hlt2 b hb),ok.qu b hb,.inl hb,(ok.Ac b hb).2,fun p hp=>by cases hp⟩
 have loop:codeAny (model X.prog X.w) X.A (.compLoop (.ListComp elt [⟨tg,iter,ifs,0⟩] scope pos) 0 (.ref it) (.ref s2.heap.objs.size) (compEnvC scope (ki scope s3.heap.objs.size (cY X.env.cells scope.names [])) s3.heap.objs.size X.env))
  (RR (.ref s2.heap.objs.size) s3.heap.objs.size) {s3 with heap:=h',toks:=s3.toks}:=by
  refine wH (fun n s'=>∃i σ' H',Inv Xc [] σ' H' s'∧tn i s'.heap∧(∀b∈fp,H' b=none)∧W i n σ' H') ?_ m0 ⟨0,_,_,I4,st4,fun b hb=>(f3 b hb).1,w0⟩
  rintro n s5 ⟨i,σ5,H5,I5,st5,fr5,w5⟩
  rcases turn i n σ5 H5 w5 with⟨stop,qn⟩|⟨go,N,hN,step⟩
  · have q:=T.done Xc xP xW xK xc i [] s5 σ5 H5 (fun _ _=>False) I5 (fpc fr5) st5 stop
    rw[xA]at q
    refine bR q fun r s6 ⟨hr,I6⟩=>?_
    subst hr
    obtain⟨m,hm,_⟩:=I6.loc
    rw[xE]at hm
    have free6:H5 s3.heap.objs.size=none:=by have:=I6.free;rw[xE]at this;exact this
    have un6:Un (mY X.stack) fp (upd H2 s2.heap.objs.size (.lst [])) H5 s3.heap s6.heap:=by have:=I6.base;rw[←hXc]at this;exact this
    have os6:s6.os=s3.os:=by have:=I6.os;rw[←hXc]at this;exact this
    have hok6:g5 X.prog X.w H5 s6.heap:=by have:=I6.aI;rw[xP,xW]at this;exact this
    have J:=I3.yh (s':=s6) (ch:=fp) os6 un6 hok6 I6.bare fun b hb=>⟨(f3 b hb).2.2.2.1,(f3 b hb).2.1,(f3 b hb).2.2.2.2.1,(f3 b hb).2.2.2.2.2⟩
    exact fin _ _ s6 H5 m hm (I3.sJ (Nat.le_refl _) free6) J qn
  · have q:=T.item Xc xP xW xK xc i [] s5 σ5 H5 (fun _ _=>False) I5 (fpc fr5) st5 go
    rw[xA]at q
    refine bR q fun r s6 ⟨u,hr,h6⟩=>?_
    subst hr
    refine bR h6 fun _ s7 ⟨x,H7,I7,r7,y7,st7,fr7⟩=>?_
    have I7':=I7.pinned (fpc fr7) (T.obj _ _ st7)
    have q8:=hgc _ s7 σ5 H7 x u _ I7' r7 (step x H7 y7)
    rw[xP,xW,xA,xE,xx]at q8
    refine bR q8 fun _ s8 ⟨σ8,H8,I8,q8⟩=>?_
    have q9:=htc _ s8 σ8 H8 _ I8 q8
    rw[xP,xW,xA,xE,xx]at q9
    refine bR q9 fun b s9 ⟨H9,I9,q9⟩=>?_
    have again:∀ {H':Hp} {s':Shared},Inv Xc ([]++oV fp s7.heap) σ8 H' s'→N σ8 H'→∃m,m<n∧∃i σ' H',Inv Xc [] σ' H' s'∧tn i s'.heap∧(∀b∈fp,H' b=none)∧W i m σ' H':=fun{H' s'} J nn=>by
     obtain⟨m',hm,w7⟩:=hN σ8 H' nn
     refine⟨m',hm,i+1,σ8,H',J.gS,T.keep _ _ _ st7 fun b hb o e=>(J.pin (b,o) (List.mem_append_right _ (List.mem_append_right _ (kP hb e)))).1,fun b hb=>?_,w7⟩
     obtain⟨o,e,d⟩:=T.obj _ _ st7 b hb
     exact(J.pin (b,o) (List.mem_append_right _ (List.mem_append_right _ (kP hb e)))).2.1
    cases b with
    |false=>exact again I9 q9
    |true=>
     have qe:=hec _ s9 σ8 H9 _ I9 q9
     rw[xP,xW,xA,xE,xx]at qe
     refine bR qe fun y s10 ⟨vy,H10,I10,ry,ys,hy,hlt,qN⟩=>?_
     have qa:=tf (X:=Xc) _ s10 σ8 H10 (.ref s2.heap.objs.size) [vy] (.ref s2.heap.objs.size) [y] (fun _ H'=>N σ8 H') I10 rfl (.cons ry .nil) ⟨_,ys,vy,rfl,rfl,hy,hlt,qN⟩
     rw[xP,xW,xA,xx]at qa
     exact bR qa fun _ s11 ⟨_,H11,I11,_,q11⟩=>again I11 q11
 refine codeAny_compStart_list ?_ ?_
 · exact loop
 · exact T.self _ 0 _ _ _ st4 loop
theorem xD{elt tg iter:Expr}{ifs:List Expr}{wi:TI}{g:TG}{c:TT}{te:TE}{pos:Pos}(hx:X.xe=fun _ _=>False)(hc:X.calm=true)(S:br X scope Nc fr)(hi:PI X tg iter wi)
 (hg:∀C s H ex,PG (eY X scope Nc C s H ex) tg g) (ht:∀C s H ex,oH (eY X scope Nc C s H ex) ifs c) (he:∀C s H ex,PE (eY X scope Nc C s H ex) elt te)
 (hs:∀x,foldedSetIterable iter X.env x=pure x:=by intro _;rfl):PE X (.ListComp elt [⟨tg,iter,ifs,0⟩] scope pos) (pC wi fr g c te):=by
 intro pins s σ H Q I h
 rw[eval_ListComp]
 have hcl:closureFor scope X.env=pure (cY X.env.cells scope.names []):=ku fun x hx hk=>I.ok.has x.1 (S.free x hx hk)
 refine wpAny_comprehension_free rfl hs hcl S.kind S.names ?_
 exact qW (RR:=fun acc C=>compPost (model X.prog X.w) X.A X.xe none (EP X pins σ Q) acc C) hx hc S hi hg ht he I h fun l C s6 H5 m hm f J q=>⟨m,hm,fun h'' hs''=>⟨.ref l,H5,Inv.forget J f hs'',rfl,q⟩⟩
theorem xk{elt tg iter:Expr}{ifs:List Expr}{wi:TI}{g:TG}{c:TT}{te:TE}{pos pos' spos:Pos}{i:Nat}{x:Str}(hx:X.xe=fun _ _=>False)(hc:X.calm=true)(S:br X scope Nc fr)(hi:PI X tg iter wi)
 (hg:∀C s H ex,PG (eY X scope Nc C s H ex) tg g) (ht:∀C s H ex,oH (eY X scope Nc C s H ex) ifs c) (he:∀C s H ex,PE (eY X scope Nc C s H ex) elt te) (hN:X.N.Nodup) (hni:X.N[i]?=some x) (hl:Loc X.env.scope x) (hf:X.fn x=true∨X.env.scope.names.lookup x=some .local)
 (hsw:swapsWith (.ListComp elt [⟨tg,iter,ifs,0⟩] scope pos) (some (.Name x pos')) spos.line X.env=pure true)
 (hs:∀x,foldedSetIterable iter X.env x=pure x:=by intro _;rfl):PS X (.Assign [.Name x pos'] (.ListComp elt [⟨tg,iter,ifs,0⟩] scope pos) spos) (jV (pC wi fr g c te) (jZ i)):=by
 intro pins s σ H D I h
 have hcl:closureFor scope X.env=pure (cY X.env.cells scope.names []):=ku fun x hx hk=>I.ok.has x.1 (S.free x hx hk)
 rw[exec_Assign_Name_used _ _ _ _ hsw]
 refine wpAny_bind (wpAny_standAt (wpAny_bind ?_))
 show wpAny _ X.A (do let _ ←comprehension (.ListComp elt [⟨tg,iter,ifs,0⟩] scope pos) scope X.env _ (newList []) false (eval iter X.env) (some (assign (.Name x pos') X.env))) _ _ s
 refine wpAny_bind (wpAny_mono (wpAny_comprehension_free (use:=some (assign (.Name x pos') X.env)) (Q:=fun _ s'=>SP X pins D .next s') rfl hs hcl S.kind S.names
  (qW (RR:=fun acc C=>compPost (model X.prog X.w) X.A X.xe (some (assign (.Name x pos') X.env)) (fun _ s'=>SP X pins D .next s') acc C) hx hc S hi hg ht he I h fun l C s6 H5 m hm f J q=>?_)) (fun _ s' hq=>wpAny_pure (wpAny_pure hq)) fun _ _ e=>e)
 show wpAny _ X.A (assign (.Name x pos') X.env (.ref l)) _ _ _
 refine wpAny_assign_Name (tj J hN hni hl (show RelV (.ref l) (.ref l)from rfl) (fun s7 J7 hch=>?_) hf)
 obtain⟨a,hsame,ha⟩:=hch
 have hCa:C≠a:=by
  rcases ha with rfl|ha
  · exact f.2.1
  · exact fun z=>f.2.2.2.2.1 x a ha z.symm
 refine⟨m,hm.sameBut hsame hCa,fun h'' hs''=>⟨σ.set i (some (.ref l)),H5,Inv.forget J7 f hs'',q⟩⟩
end
end L3
namespace L3
open PySem PySem.Spec L2
open PyProof.Rows hiding St
inductive D where
 |aC|bl (b:Bool)|int (i:Int)|str (x:Str)|ty (n:String)|ref (n:Nat)|lst (xs:List D)|tup (xs:List D)
inductive Cell where
 |lst (xs:List D)|ins (C:Addr) (fs:List (Str×D))|dead
  |tab (P:Addr) (pos:Pos) (qual:Str) (b:Bool)
noncomputable abbrev ag:=List Cell
noncomputable abbrev bG:=List (Option D)
mutual
noncomputable def Rep(α:List (Option Addr))(H:Hp):D→V→Prop
 | .aC,v=>v= .aC
 | .bl b,v=>v= .bl b
 | .int i,v=>v= .int i
 | .str x,v=>v= .str x
 | .ty n,v=>v= .ty n
 | .ref n,v=>α[n]?=some none∨∃a,α[n]?=some (some a)∧v= .ref a
 | .lst xs,v=>∃a vs,v= .ref a∧some a∉α∧Rd H a (.lst vs)∧aN α H xs vs
 | .tup xs,v=>∃a vs,v= .ref a∧some a∉α∧H a=some (.tup vs)∧aN α H xs vs
noncomputable def aN(α:List (Option Addr))(H:Hp):List D→List V→Prop
 | [],vs=>vs=[]
 |d::ds,vs=>∃v r,vs=v::r∧Rep α H d v∧aN α H ds r
end
theorem aU{α:List (Option Addr)}{H:Hp}:∀ {ds:List D} {vs:List V},aN α H ds vs↔Paired (Rep α H) ds vs
 | [],vs=>by
   unfold aN
   constructor
   · rintro rfl;exact .nil
   · intro h;cases h;rfl
 |d::ds,vs=>by
  unfold aN
  constructor
  · rintro⟨v,r,rfl,h1,h2⟩;exact .cons h1 (aU.mp h2)
  · intro h;cases h with|cons h1 h2=>exact⟨_,_,rfl,h1,aU.mpr h2⟩
section
variable {α:List (Option Addr)}{H:Hp}
theorem aN.length{ds:List D}{vs:List V}(h:aN α H ds vs):ds.length=vs.length:=Paired.length (aU.mp h)
theorem rD{A B:Type}{F:A→B→Prop}:∀ {xs:List A} {ys:List B} {i:Nat} {x:A},Paired F xs ys→xs[i]?=some x→∃y,ys[i]?=some y∧F x y
 |_,_,_,_,.nil,e=>by simp at e
 |_,_,0,_,.cons r _,e=>by simp at e;subst e;exact⟨_,rfl,r⟩
 |_,_,i+1,x,.cons _ t,e=>by
  obtain⟨u,h1,h2⟩:=rD (i:=i) (x:=x) t (by simpa using e)
  exact⟨u,by simpa using h1,h2⟩
theorem e_{A B:Type}{F:A→B→Prop}:∀ {xs xs':List A} {ys ys':List B},Paired F xs ys→Paired F xs' ys'→Paired F (xs++xs') (ys++ys')
 |_,_,_,_,.nil,s=>s
 |_,_,_,_,.cons r t,s=> .cons r (e_ t s)
theorem pW{A B:Type}{F:A→B→Prop}:∀ {xs:List A} {ys:List B} (n:Nat),Paired F xs ys→Paired F (xs.take n) (ys.take n)
 |_,_,0,_=> .nil
 |_,_,_+1,.nil=> .nil
 |_,_,n+1,.cons r t=> .cons r (pW n t)
theorem pU{A B:Type}{F:A→B→Prop}:∀ {xs:List A} {ys:List B} (n:Nat),Paired F xs ys→Paired F (xs.drop n) (ys.drop n)
 |_,_,0,r=>r
 |_,_,_+1,.nil=> .nil
 |_,_,n+1,.cons _ t=>pU n t
theorem m9{A B:Type}{F:A→B→Prop}{x:A}{y:B}(r:F x y):∀ {xs:List A} {ys:List B} (i:Nat),Paired F xs ys→Paired F (xs.set i x) (ys.set i y)
 |_,_,_,.nil=> .nil
 |_,_,0,.cons _ t=> .cons r t
 |_,_,i+1,.cons q t=> .cons q (m9 r i t)
theorem j6{A B:Type}{F:A→B→Prop}{xs:List A}{ys:List B}(h:Paired F xs ys):∀k:Nat,Paired F (List.replicate k xs).flatten (List.replicate k ys).flatten
 |0=> .nil
 |k+1=>by
  rw[List.replicate_succ,List.replicate_succ,List.flatten_cons,List.flatten_cons]
  exact e_ h (j6 h k)
theorem aN.get{ds:List D}{vs:List V}{i:Nat}{d:D}(h:aN α H ds vs)(e:ds[i]?=some d):∃v,vs[i]?=some v∧Rep α H d v:=rD (aU.mp h) e
end
structure Step(α:List (Option Addr))(H:Hp)(α':List (Option Addr))(H':Hp):Prop where
 ext:∀b o,some b∉α→H b=some o→H' b=some o
 pre:∀(n:Nat) (x:Option Addr),α[n]?=some x→α'[n]?=some x∨α'[n]?=some none
 new:∀b,some b∈α'→some b∉α→H b=none
theorem Step.refl{α:List (Option Addr)}{H:Hp}:Step α H α H:=⟨fun _ _ _ h=>h,fun _ _ h=> .inl h,fun _ h n=>absurd h n⟩
theorem Step.trans{α α1 α2:List (Option Addr)}{H H1 H2:Hp}(a:Step α H α1 H1)(b:Step α1 H1 α2 H2):Step α H α2 H2 where
 ext:=fun c o hc e=>b.ext c o (fun z=>by rw[a.new c z hc]at e;cases e) (a.ext c o hc e)
 pre:=fun n x e=>by
  rcases a.pre n x e with h|h
  · exact b.pre n x h
  · rcases b.pre n none h with h'|h'
    · exact .inr h'
    · exact .inr h'
 new:=fun c hc n=>by
  by_cases h1:some c∈α1
  · exact a.new c h1 n
  · have:=b.new c hc h1
    cases q:H c with
    |none=>rfl
    |some o=>rw[a.ext c o n q]at this;cases this
theorem Step.laid{α:List (Option Addr)}{H:Hp}{p:Addr}{o:HO}(h:H p=none):Step α H α (upd H p o):=
 ⟨fun b u _ e=>by rw[aL (dv e h)];exact e,fun _ _ h=> .inl h,fun _ h n=>absurd h n⟩
theorem Step.cell{α:List (Option Addr)}{H:Hp}{p:Addr}{o:HO}(h:H p=none):Step α H (α++[some p]) (upd H p o):=
 ⟨fun b u _ e=>by rw[aL (dv e h)];exact e,fun n x e=> .inl (by rw[List.getElem?_append_left (List.getElem?_eq_some_iff.mp e).1];exact e),fun b hb n=>by
  rcases List.mem_append.mp hb with z|z
  · exact absurd z n
  · have:b=p:=by simpa using z
    subst this;exact h⟩
theorem Step.write{α:List (Option Addr)}{H:Hp}{p:Addr}{o:HO}(h:some p∈α):Step α H α (upd H p o):=
 ⟨fun b u n e=>by rw[aL (fun z=>by subst z;exact n h)];exact e,fun _ _ h=> .inl h,fun _ h n=>absurd h n⟩
mutual
theorem Rep.step{α α':List (Option Addr)}{H H':Hp}(s:Step α H α' H'):∀ {d:D} {v:V},Rep α H d v→Rep α' H' d v
 | .aC,_,h=>by unfold Rep at h⊢;exact h
 | .bl _,_,h=>by unfold Rep at h⊢;exact h
 | .int _,_,h=>by unfold Rep at h⊢;exact h
 | .str _,_,h=>by unfold Rep at h⊢;exact h
 | .ty _,_,h=>by unfold Rep at h⊢;exact h
 | .ref n,_,h=>by
   unfold Rep at h⊢
   rcases h with h|⟨a,e,r⟩
   · rcases s.pre _ _ h with z|z<;>exact .inl z
   · rcases s.pre _ _ e with z|z
     · exact .inr ⟨a,z,r⟩
     · exact .inl z
 | .lst xs,_,h=>by
   unfold Rep at h⊢
   obtain⟨a,vs,e,n,r,q⟩:=h
   refine⟨a,vs,e,fun z=>?_,?_,aN.step s q⟩
   · have:=s.new a z n
     rcases r with r|⟨o,r⟩<;>(rw[this]at r;cases r)
   · rcases r with r|⟨o,r⟩
     · exact .inl (s.ext _ _ n r)
     · exact .inr ⟨o,s.ext _ _ n r⟩
 | .tup xs,_,h=>by
   unfold Rep at h⊢
   obtain⟨a,vs,e,n,r,q⟩:=h
   exact⟨a,vs,e,(fun z=>by rw[s.new a z n]at r;exact nomatch r),s.ext _ _ n r,aN.step s q⟩
theorem aN.step{α α':List (Option Addr)}{H H':Hp}(s:Step α H α' H'):∀ {ds:List D} {vs:List V},aN α H ds vs→aN α' H' ds vs
 | [],_,h=>by unfold aN at h⊢;exact h
 |d::ds,_,h=>by
  unfold aN at h⊢
  obtain⟨v,r,e,h1,h2⟩:=h
  exact⟨v,r,e,Rep.step s h1,aN.step s h2⟩
end
structure bT(G F H:Hp):Prop where
 eq:∀b,H b=(G b).or (F b)
 uF:∀b o,G b=some o→F b=none
section
variable {G F H:Hp}
theorem bT.get(P:bT G F H){b:Addr}{o:HO}(h:G b=some o):H b=some o:=by rw[P.eq b,h];rfl
theorem bT.same(P:bT G F H):Cd G H:=fun _ _ h=>P.get h
theorem bT.none(P:bT G F H){b:Addr}(h:H b=none):G b=none∧F b=none:=by
 have e:=P.eq b
 rw[h]at e
 cases q:G b with
 |none=>rw[q]at e;exact⟨rfl,e.symm⟩
 |some o=>rw[q]at e;cases e
theorem bT.frame(P:bT G F H){b:Addr}{o:HO}(h:F b=some o):H b=some o∧G b=Option.none:=by
 have hn:G b=Option.none:=by
  cases q:G b with
  |none=>rfl
  |some u=>rw[P.uF b u q]at h;cases h
 exact⟨by rw[P.eq b,hn,h];rfl,hn⟩
theorem bT.laid(P:bT G F H){p:Addr}{o:HO}(h:H p=Option.none):bT (upd G p o) F (upd H p o):=by
 obtain⟨h1,h2⟩:=P.none h
 refine⟨fun b=>?_,fun b u e=>?_⟩
 · by_cases hb:b=p
   · subst hb;rw[aV,aV];rfl
   · rw[aL hb,aL hb];exact P.eq b
 · by_cases hb:b=p
   · subst hb;exact h2
   · rw[aL hb]at e;exact P.uF b u e
theorem bT.write(P:bT G F H){p:Addr}{o o':HO}(h:G p=some o):bT (upd G p o') F (upd H p o'):=by
 refine⟨fun b=>?_,fun b u e=>?_⟩
 · by_cases hb:b=p
   · subst hb;rw[aV,aV];rfl
   · rw[aL hb,aL hb];exact P.eq b
 · by_cases hb:b=p
   · subst hb;exact P.uF b o h
   · rw[aL hb]at e;exact P.uF b u e
theorem bT.hide(P:bT G F H){p:Addr}{o:HO}(h:H p=Option.none):bT G (upd F p o) (upd H p o):=by
 obtain⟨h1,h2⟩:=P.none h
 refine⟨fun b=>?_,fun b u e=>?_⟩
 · by_cases hb:b=p
   · subst hb;rw[aV,aV,h1];rfl
   · rw[aL hb,aL hb];exact P.eq b
 · by_cases hb:b=p
   · subst hb;rw[h1]at e;cases e
   · rw[aL hb];exact P.uF b u e
theorem bT.Ct(P:bT G F H){p:Addr}{o o':HO}(h:F p=some o):bT G (upd F p o') (upd H p o'):=by
 have h1:=(P.frame h).2
 refine⟨fun b=>?_,fun b u e=>?_⟩
 · by_cases hb:b=p
   · subst hb;rw[aV,aV,h1];rfl
   · rw[aL hb,aL hb];exact P.eq b
 · by_cases hb:b=p
   · subst hb;rw[h1]at e;cases e
   · rw[aL hb];exact P.uF b u e
theorem bT.show{p:Addr}{o:HO}(P:bT G (upd F p o) H)(h:F p=Option.none):bT (upd G p o) F H:=by
 have h1:=(P.frame (b:=p) aV)
 refine⟨fun b=>?_,fun b u e=>?_⟩
 · by_cases hb:b=p
   · subst hb;rw[aV,h1.1];rfl
   · rw[aL hb,P.eq b,aL hb]
 · by_cases hb:b=p
   · subst hb;exact h
   · rw[aL hb]at e
     have:=P.uF b u e
     rw[aL hb]at this;exact this
end
mutual
theorem Rep.mono{α:List (Option Addr)}{G H:Hp}(s:Cd G H):∀ {d:D} {v:V},Rep α G d v→Rep α H d v
 | .aC,_,h=>by unfold Rep at h⊢;exact h
 | .bl _,_,h=>by unfold Rep at h⊢;exact h
 | .int _,_,h=>by unfold Rep at h⊢;exact h
 | .str _,_,h=>by unfold Rep at h⊢;exact h
 | .ty _,_,h=>by unfold Rep at h⊢;exact h
 | .ref n,_,h=>by unfold Rep at h⊢;exact h
 | .lst xs,_,h=>by
   unfold Rep at h⊢
   obtain⟨a,vs,e,n,r,q⟩:=h
   refine⟨a,vs,e,n,?_,aN.mono s q⟩
   rcases r with r|⟨o,r⟩
   · exact .inl (s _ _ r)
   · exact .inr ⟨o,s _ _ r⟩
 | .tup xs,_,h=>by
   unfold Rep at h⊢
   obtain⟨a,vs,e,n,r,q⟩:=h
   exact⟨a,vs,e,n,s _ _ r,aN.mono s q⟩
theorem aN.mono{α:List (Option Addr)}{G H:Hp}(s:Cd G H):∀ {ds:List D} {vs:List V},aN α G ds vs→aN α H ds vs
 | [],_,h=>by unfold aN at h⊢;exact h
 |d::ds,_,h=>by
  unfold aN at h⊢
  obtain⟨v,r,e,h1,h2⟩:=h
  exact⟨v,r,e,Rep.mono s h1,aN.mono s h2⟩
end
noncomputable def i0(α:List (Option Addr))(H:Hp):List (Str×D)→List (Str×V)→Prop:=Paired fun p q=>p.1=q.1∧Rep α H p.2 q.2
noncomputable def jI(α:List (Option Addr))(H:Hp)(a:Addr):Cell→Prop
 | .lst xs=>∃vs,H a=some (.lst vs)∧aN α H xs vs
 | .ins C fs=>∃dx vs,H a=some (.ins C dx vs)∧i0 α H fs vs
 | .dead=>False
 | .tab P pos qual b=>a=P∧∃ps:Array Value,H a=some (.jd ps)∧TriplesOk ps.toList∧
    ((b=false∧codeAmong pos ps.toList=none)∨(b=true∧∃c o vs t,codeAmong pos ps.toList=some (.ref c)∧some c∉α∧H c=some (.gj o (.own c))∧o.data= .fields vs∧vs[1]?=some (.str qual t)))
structure aT(α:List (Option Addr))(st:ag)(H:Hp):Prop where
 len:α.length=st.length
 nd:∀(i j:Nat) (a:Addr),α[i]?=some (some a)→α[j]?=some (some a)→i=j
 at':∀(n:Nat) (c:Cell),st[n]?=some c→(c= .dead∧α[n]?=some none)∨∃a,α[n]?=some (some a)∧jI α H a c
theorem i0.step{α α':List (Option Addr)}{H H':Hp}(s:Step α H α' H'){ds:List (Str×D)}{vs:List (Str×V)}(h:i0 α H ds vs):i0 α' H' ds vs:=Paired.BI h fun _ _ z=>⟨z.1,z.2.step s⟩
theorem jI.same{α α':List (Option Addr)}{H H':Hp}{a:Addr}{c:Cell}(s:Step α H α' H')(e:H' a=H a)(h:jI α H a c):jI α' H' a c:=by
 cases c with
 |lst xs=>obtain⟨vs,h1,h2⟩:=h;exact⟨vs,e.trans h1,h2.step s⟩
 |ins C fs=>obtain⟨dx,vs,h1,h2⟩:=h;exact⟨dx,vs,e.trans h1,h2.step s⟩
 |dead=>exact h.elim
 |tab P pos qual b=>
  obtain⟨z,ps,h1,h2,h3⟩:=h
  refine⟨z,ps,e.trans h1,h2,?_⟩
  rcases h3 with h3|⟨hb,c,o,vs,t,q1,q2,q3,q4⟩
  · exact .inl h3
  · exact .inr ⟨hb,c,o,vs,t,q1,(fun y=>by rw[s.new c y q2]at q3;cases q3),s.ext c _ q2 q3,q4⟩
theorem jI.some{α:List (Option Addr)}{H:Hp}{a:Addr}{c:Cell}(h:jI α H a c):∃o,H a=some o:=by
 cases c with
 |lst xs=>obtain⟨vs,h1,h2⟩:=h;exact⟨_,h1⟩
 |ins C fs=>obtain⟨dx,vs,h1,h2⟩:=h;exact⟨_,h1⟩
 |dead=>exact h.elim
 |tab P pos qual b=>obtain⟨_,ps,h1,_⟩:=h;exact⟨_,h1⟩
theorem dQ{α:List (Option Addr)}{H:Hp}{n:Nat}{v:V}{a:Addr}(e:α[n]?=Option.some (Option.some a))(r:Rep α H (.ref n) v):v= .ref a:=by
 unfold Rep at r
 rcases r with r|⟨b,eb,rfl⟩
 · rw[e]at r;cases r
 · rw[e]at eb;cases eb;rfl
section
variable {α:List (Option Addr)}{st:ag}{H:Hp}
theorem aT.gm(S:aT α st H){n:Nat}{xs:List D}(e:st[n]?=Option.some (.lst xs)):∃a,α[n]?=Option.some (Option.some a)∧∃vs,H a=Option.some (.lst vs)∧aN α H xs vs:=by
 rcases S.at' n _ e with⟨z,_⟩|z
 · cases z
 · exact z
theorem aT.um(S:aT α st H){n:Nat}{C:Addr}{fs:List (Str×D)}(e:st[n]?=Option.some (.ins C fs)):∃a,α[n]?=Option.some (Option.some a)∧∃dx vs,H a=Option.some (.ins C dx vs)∧i0 α H fs vs:=by
 rcases S.at' n _ e with⟨z,_⟩|z
 · cases z
 · exact z
theorem aT.mem(S:aT α st H){a:Addr}(h:Option.some a∈α):∃(n:Nat) (c:Cell),α[n]?=Option.some (Option.some a)∧st[n]?=Option.some c∧jI α H a c:=by
 obtain⟨n,hn,e⟩:=List.mem_iff_getElem.mp h
 have hl:n<st.length:=by rw[←S.len];exact hn
 have e':α[n]?=Option.some (Option.some a):=by rw[List.getElem?_eq_getElem hn,e]
 rcases S.at' n st[n] (by simp[hl])with⟨_,q⟩|⟨a',q,ca⟩
 · rw[e']at q;cases q
 · rw[e']at q;cases q
   exact⟨n,_,e',by simp[hl],ca⟩
theorem aT.jz(S:aT α st H){p:Addr}(h:H p=none):Option.some p∉α:=fun z=>by
 obtain⟨n,c,_,_,ca⟩:=S.mem z
 obtain⟨o,e⟩:=ca.some
 rw[h]at e;cases e
theorem aT.laid(S:aT α st H){p:Addr}{o:HO}(h:H p=none):aT α st (upd H p o):=
 ⟨S.len,S.nd,fun n c e=>by
  rcases S.at' n c e with z|⟨a,q,ca⟩
  · exact .inl z
  · exact .inr ⟨a,q,ca.same (Step.laid h) (aL (by obtain⟨u,z⟩:=ca.some;exact dv z h))⟩⟩
theorem aT.cell(S:aT α st H){p:Addr}{o:HO}{c:Cell}(h:H p=none)(hc:jI (α++[Option.some p]) (upd H p o) p c):aT (α++[Option.some p]) (st++[c]) (upd H p o) where
 len:=by rw[List.length_append,List.length_append,S.len];rfl
 nd:=fun i j a ei ej=>by
  have key:∀(i:Nat) (a:Addr),(α++[Option.some p])[i]?=Option.some (Option.some a)→(i<α.length∧α[i]?=Option.some (Option.some a))∨(i=α.length∧a=p):=by
   intro i a e
   by_cases hi:i<α.length
   · rw[List.getElem?_append_left hi]at e;exact .inl ⟨hi,e⟩
   · rw[List.getElem?_append_right (Nat.le_of_not_lt hi)]at e
     have h0:i-α.length=0:=by
      cases q:i-α.length with
      |zero=>rfl
      |succ k=>rw[q]at e;simp at e
     rw[h0]at e
     have:p=a:=by simpa using e
     exact .inr ⟨by(first|lia|omega),this.symm⟩
  rcases key i a ei with⟨h1,e1⟩|⟨h1,e1⟩<;>rcases key j a ej with⟨h2,e2⟩|⟨h2,e2⟩
  · exact S.nd i j a e1 e2
  · subst e2;exact absurd (List.mem_of_getElem? e1) (S.jz h)
  · subst e1;exact absurd (List.mem_of_getElem? e2) (S.jz h)
  · (first|lia|omega)
 at':=fun n d e=>by
  by_cases hn:n<st.length
  · rw[List.getElem?_append_left hn]at e
    have hl:n<α.length:=by rw[S.len];exact hn
    rcases S.at' n d e with⟨z,q⟩|⟨a,q,ca⟩
    · exact .inl ⟨z,by rw[List.getElem?_append_left hl];exact q⟩
    · exact .inr ⟨a,by rw[List.getElem?_append_left hl];exact q,ca.same (Step.cell h) (aL (by obtain⟨u,z⟩:=ca.some;exact dv z h))⟩
  · rw[List.getElem?_append_right (Nat.le_of_not_lt hn)]at e
    have h0:n-st.length=0:=by
     cases q:n-st.length with
     |zero=>rfl
     |succ k=>rw[q]at e;simp at e
    rw[h0]at e
    have hd:c=d:=by simpa using e
    subst hd
    refine .inr ⟨p,?_,hc⟩
    rw[List.getElem?_append_right (by rw[S.len];exact Nat.le_of_not_lt hn),S.len,h0]
    rfl
theorem aT.write(S:aT α st H){p:Addr}{o:HO}{c:Cell}{n:Nat}(e:α[n]?=Option.some (Option.some p))(hc:jI α (upd H p o) p c):aT α (st.set n c) (upd H p o) where
 len:=by rw[List.length_set];exact S.len
 nd:=S.nd
 at':=fun m d q=>by
  have hp:Option.some p∈α:=List.mem_of_getElem? e
  by_cases hm:m=n
  · subst hm
    have hl:m<st.length:=by
     have:=(List.getElem?_eq_some_iff.mp q).1
     rw[List.length_set]at this;exact this
    rw[List.getElem?_set_self hl]at q
    cases q
    exact .inr ⟨p,e,hc⟩
  · rw[List.getElem?_set_ne (Ne.symm hm)]at q
    rcases S.at' m d q with z|⟨a,r,ca⟩
    · exact .inl z
    · refine .inr ⟨a,r,ca.same (Step.write hp) (aL fun z=>?_)⟩
      subst z
      exact hm (S.nd m n _ r e)
end
end L3
namespace L3
open PySem PySem.Spec L2
open PyProof.Rows hiding St
noncomputable abbrev DK:=D→ag→Prop
noncomputable abbrev DE:=bG→ag→DK→Prop
noncomputable abbrev DT:=bG→ag→(Bool→ag→Prop)→Prop
noncomputable abbrev DA:=bG→ag→(List D→ag→Prop)→Prop
structure jq where
 nx:bG→ag→Prop
 rt:DK
 bk:bG→ag→Prop:=fun _ _=>False
 ct:bG→ag→Prop:=fun _ _=>False
noncomputable abbrev DS:=jq→bG→ag→Prop
structure dN(α:List (Option Addr))(H:Hp)(σd:bG)(σ:L2.St):Prop where
 len:σd.length=σ.length
 at':∀(i:Nat) (d:D),σd[i]?=some (some d)→∃v,σ[i]?=some (some v)∧Rep α H d v
theorem dN.step{α α':List (Option Addr)}{H H':Hp}{σd:bG}{σ:L2.St}(s:Step α H α' H')(h:dN α H σd σ):dN α' H' σd σ:=
 ⟨h.len,fun i d e=>let⟨v,q,r⟩:=h.at' i d e;⟨v,q,r.step s⟩⟩
theorem dN.set{α:List (Option Addr)}{H:Hp}{σd:bG}{σ:L2.St}(h:dN α H σd σ)(i:Nat){d:D}{v:V}(r:Rep α H d v):dN α H (σd.set i (some d)) (σ.set i (some v)):=by
 refine⟨by rw[List.length_set,List.length_set,h.len],fun j e q=>?_⟩
 have hl:=h.len
 by_cases hj:j=i
 · subst hj
   have hlt:j<σd.length:=by
    have:=(List.getElem?_eq_some_iff.mp q).1
    rw[List.length_set]at this;exact this
   rw[List.getElem?_set_self hlt]at q
   cases q
   exact⟨v,List.getElem?_set_self (by(first|lia|omega)),r⟩
 · rw[List.getElem?_set_ne (Ne.symm hj)]at q
   rw[List.getElem?_set_ne (Ne.symm hj)]
   exact h.at' j e q
noncomputable def LK(α:List (Option Addr))(G F:Hp)(K:DK)(Q:VK):Prop:=∀d st',K d st'→∀α' G' H' v,Step α G α' G'→bT G' F H'→aT α' st' G'→Rep α' G' d v→Q v H'
noncomputable def Cv(α:List (Option Addr))(G F:Hp)(K:Bool→ag→Prop)(Q:Bool→Hp→Prop):Prop:=∀b st',K b st'→∀α' G' H',Step α G α' G'→bT G' F H'→aT α' st' G'→Q b H'
noncomputable def K8(α:List (Option Addr))(G F:Hp)(K:List D→ag→Prop)(Q:List V→Hp→Prop):Prop:=∀ds st',K ds st'→∀α' G' H' vs,Step α G α' G'→bT G' F H'→aT α' st' G'→aN α' G' ds vs→Q vs H'
inductive JV(t:DE)(σ:L2.St)(H:Hp)(Q:VK):Prop
 |mk (α:List (Option Addr)) (σd:bG) (st:ag) (K:DK) (G F:Hp) (P:bT G F H) (R:dN α G σd σ) (S:aT α st G) (h:t σd st K) (k:LK α G F K Q):JV t σ H Q
noncomputable def LE(t:DE):TE:=JV t
inductive JU(t:DT)(σ:L2.St)(H:Hp)(Q:Bool→Hp→Prop):Prop
 |mk (α:List (Option Addr)) (σd:bG) (st:ag) (K:Bool→ag→Prop) (G F:Hp) (P:bT G F H) (R:dN α G σd σ) (S:aT α st G) (h:t σd st K) (k:Cv α G F K Q):JU t σ H Q
noncomputable def LT(t:DT):TT:=JU t
inductive JK(t:DA)(σ:L2.St)(H:Hp)(Q:List V→Hp→Prop):Prop
 |mk (α:List (Option Addr)) (σd:bG) (st:ag) (K:List D→ag→Prop) (G F:Hp) (P:bT G F H) (R:dN α G σd σ) (S:aT α st G) (h:t σd st K) (k:K8 α G F K Q):JK t σ H Q
noncomputable def LA(t:DA):TA:=JK t
theorem LK.here{α:List (Option Addr)}{G F H:Hp}{K:DK}{Q:VK}(h:LK α G F K Q)(P:bT G F H){d:D}{st:ag}{v:V}(k:K d st)(S:aT α st G)(r:Rep α G d v):Q v H:=h d st k α G H v Step.refl P S r
theorem LK.at{α α1:List (Option Addr)}{G F G1:Hp}{K:DK}{Q:VK}(h:LK α G F K Q)(s:Step α G α1 G1):LK α1 G1 F K Q:=fun d st' k α' G' H' v s' P S r=>h d st' k α' G' H' v (s.trans s') P S r
theorem Cv.at{α α1:List (Option Addr)}{G F G1:Hp}{K:Bool→ag→Prop}{Q:Bool→Hp→Prop}(h:Cv α G F K Q)(s:Step α G α1 G1):Cv α1 G1 F K Q:=fun d st' k α' G' H' s' P S=>h d st' k α' G' H' (s.trans s') P S
section
variable {X:Cx}{a b c e:Expr}{es:List Expr}{ta tb tc te:DE}{pos:Pos}
theorem PE.imp{t t':TE}(h:PE X e t)(f:∀σ H Q,t' σ H Q→t σ H Q):PE X e t':=fun pins s σ H Q I q=>h pins s σ H Q I (f σ H Q q)
theorem PT.imp{t t':TT}(h:PT X e t)(f:∀σ H Q,t' σ H Q→t σ H Q):PT X e t':=fun pins s σ H Q I q=>h pins s σ H Q I (f σ H Q q)
theorem PW.imp{t t':TT}(h:PW X e t)(f:∀σ H Q,t' σ H Q→t σ H Q):PW X e t':=fun w pins s σ H Q I q=>h w pins s σ H Q I (f σ H Q q)
theorem PA.imp{t t':TA}(h:PA X es t)(f:∀σ H Q,t' σ H Q→t σ H Q):PA X es t':=fun p pins s σ H Q I q=>h p pins s σ H Q I (f σ H Q q)
noncomputable def ab(i:Nat):DE:=fun σ st K=>match σ[i]? with|some (some d)=>K d st|_=>False
noncomputable def dC(d:D):DE:=fun _ st K=>K d st
theorem HV{i:Nat}{x:Str}(h:PE X (.Name x pos) (Hg i)):PE X (.Name x pos) (LE (ab i)):=PE.imp h fun σ H Q ⟨α,σd,st,K,G,F,P,R,S,t,k⟩=>by
 unfold ab at t
 split at t
 · rename_i d q
   obtain⟨v,e,r⟩:=R.at' i d q
   exact⟨v,e,k.here P t S r⟩
 · exact t.elim
theorem o4{v:V}{d:D}(h:PE X e (tC v))(r:∀α H,Rep α H d v):PE X e (LE (dC d)):=PE.imp h fun σ H Q ⟨α,σd,st,K,G,F,P,R,S,t,k⟩=>k.here P t S (r α G)
theorem Jn{i:Int}{j:Nat}:PE X (.Constant (.int i) j pos) (LE (dC (.int i))):=o4 Fv fun _ _=>by unfold Rep;rfl
theorem Kq{i:Bool}{j:Nat}:PE X (.Constant (.bool i) j pos) (LE (dC (.bl i))):=o4 HS fun _ _=>by unfold Rep;rfl
theorem Jk{j:Nat}:PE X (.Constant .none j pos) (LE (dC .aC)):=o4 Fy fun _ _=>by unfold Rep;rfl
noncomputable abbrev dh:=D→D→ag→DK→Prop
noncomputable abbrev vx:=D→ag→DK→Prop
noncomputable abbrev fm:=List D→ag→DK→Prop
inductive Jy(r:dh)(x y:V)(H:Hp)(Q:VK):Prop
 |mk (α:List (Option Addr)) (d e:D) (st:ag) (K:DK) (G F:Hp) (P:bT G F H) (rx:Rep α G d x) (ry:Rep α G e y) (S:aT α st G) (h:r d e st K) (k:LK α G F K Q):Jy r x y H Q
noncomputable def LR(r:dh):R2:=Jy r
inductive Hl(r:vx)(x:V)(H:Hp)(Q:VK):Prop
 |mk (α:List (Option Addr)) (d:D) (st:ag) (K:DK) (G F:Hp) (P:bT G F H) (rx:Rep α G d x) (S:aT α st G) (h:r d st K) (k:LK α G F K Q):Hl r x H Q
noncomputable def Cs(r:vx):V→Hp→VK→Prop:=Hl r
inductive FD(r:fm)(xs:List V)(H:Hp)(Q:VK):Prop
 |mk (α:List (Option Addr)) (ds:List D) (st:ag) (K:DK) (G F:Hp) (P:bT G F H) (rx:aN α G ds xs) (S:aT α st G) (h:r ds st K) (k:LK α G F K Q):FD r xs H Q
noncomputable def gz(r:fm):List V→Hp→VK→Prop:=FD r
noncomputable def ax(r:dh)(ta tb:DE):DE:=fun σ st K=>ta σ st fun x st1=>tb σ st1 fun y st2=>r x y st2 K
noncomputable def mT(r:vx)(ta:DE):DE:=fun σ st K=>ta σ st fun x st1=>r x st1 K
theorem LE.op{r:dh}{σ:L2.St}{H:Hp}{Q:VK}(h:LE (ax r ta tb) σ H Q):zM (LR r) (LE ta) (LE tb) σ H Q:=by
 obtain⟨α,σd,st,K,G,F,P,R,S,t,k⟩:=h
 refine⟨α,σd,st,_,G,F,P,R,S,t,fun d st1 q α1 G1 H1 v s1 P1 S1 r1=>?_⟩
 refine⟨α1,σd,st1,_,G1,F,P1,R.step s1,S1,q,fun d2 st2 q2 α2 G2 H2 v2 s2 P2 S2 r2=>?_⟩
 exact⟨α2,d,d2,st2,K,G2,F,P2,r1.step s2,r2,S2,q2,(k.at s1).at s2⟩
theorem LE.un{r:vx}{σ:L2.St}{H:Hp}{Q:VK}(h:LE (mT r ta) σ H Q):JL (Cs r) (LE ta) σ H Q:=by
 obtain⟨α,σd,st,K,G,F,P,R,S,t,k⟩:=h
 refine⟨α,σd,st,_,G,F,P,R,S,t,fun d st1 q α1 G1 H1 v s1 P1 S1 r1=>?_⟩
 exact⟨α1,d,st1,K,G1,F,P1,r1,S1,q,k.at s1⟩
theorem KA{op:Operator}{r:dh}(ho:bW X (binaryOp op) (LR r))(ha:PE X a (LE ta))(hb:PE X b (LE tb)):PE X (.BinOp a op b pos) (LE (ax r ta tb)):=PE.imp (ID ho ha hb) fun _ _ _ h=>LE.op h
theorem J5{op:UnaryOp}{r:vx}(ho:wU X (unaryOp op) (Cs r))(ha:PE X a (LE ta)):PE X (.UnaryOp op a pos) (LE (mT r ta)):=PE.imp (Iu ho ha) fun _ _ _ h=>LE.un h
theorem HR{op:CmpOp}{r:dh}(ho:bW X (compareOp op) (LR r))(ha:PE X a (LE ta))(hb:PE X b (LE tb))(hm:behindInMarks op b=false:=by first|exact cx _|rfl):PE X (.Compare a [op] [b] pos) (LE (ax r ta tb)):=PE.imp (Ek ho ha hb hm) fun _ _ _ h=>LE.op h
noncomputable def bQ(t:DE):DT:=fun σ st K=>t σ st fun d st1=>match d with| .bl b=>K b st1|_=>False
theorem LT.test{σ:L2.St}{H:Hp}{Q:Bool→Hp→Prop}(h:LT (bQ te) σ H Q):LE te σ H fun x H'=>∃k,x= .bl k∧Q k H':=by
 obtain⟨α,σd,st,K,G,F,P,R,S,t,k⟩:=h
 refine⟨α,σd,st,_,G,F,P,R,S,t,fun d st1 q α1 G1 H1 v s1 P1 S1 r1=>?_⟩
 cases d with
 |bl b=>
  unfold Rep at r1
  exact⟨b,r1,k b st1 q α1 G1 H1 s1 P1 S1⟩
 |_=>exact q.elim
theorem GA{op:CmpOp}{r:dh}(ho:bW X (compareOp op) (LR r))(ha:PE X a (LE ta))(hb:PE X b (LE tb))(hm:behindInMarks op b=false:=by first|exact cx _|rfl):PT X (.Compare a [op] [b] pos) (LT (bQ (ax r ta tb))):=PT.imp (EL ho ha hb hm) fun σ H Q h=>by
 have q:=LT.test h
 exact LE.op (Q:=fun x H'=>∃k,x= .bl k∧Q k H') q
theorem GK(he:PE X e (LE te))(hv:∀whole,isTrue e X.env whole=(do let v ←whole;standAt e.pos;holding [v] (truthy v)):=by intro _;rfl):PT X e (LT (bQ te)):=PT.imp (Hu he hv) fun σ H Q h=>LT.test h
noncomputable def lZ(t:DT):DT:=fun σ st K=>t σ st fun b st1=>K (!b) st1
noncomputable def uj(t u:DT):DT:=fun σ st K=>t σ st fun b st1=>if b=true then u σ st1 K else K false st1
noncomputable def yW(t u:DT):DT:=fun σ st K=>t σ st fun b st1=>if b=true then K true st1 else u σ st1 K
theorem Hc{t:DT}(ha:PT X a (LT t)):PT X (.UnaryOp .Not a pos) (LT (lZ t)):=PT.imp (Gz ha) fun σ H Q ⟨α,σd,st,K,G,F,P,R,S,t,k⟩=>
 ⟨α,σd,st,_,G,F,P,R,S,t,fun b st1 q α1 G1 H1 s1 P1 S1=>k _ st1 q α1 G1 H1 s1 P1 S1⟩
theorem LT.and{t u:DT}{σ:L2.St}{H:Hp}{Q:Bool→Hp→Prop}(h:LT (uj t u) σ H Q):FE (LT t) (LT u) σ H Q:=by
 obtain⟨α,σd,st,K,G,F,P,R,S,t,k⟩:=h
 refine⟨α,σd,st,_,G,F,P,R,S,t,fun b st1 q α1 G1 H1 s1 P1 S1=>?_⟩
 cases b with
 |true=>exact⟨α1,σd,st1,K,G1,F,P1,R.step s1,S1,q,k.at s1⟩
 |false=>exact k _ st1 q α1 G1 H1 s1 P1 S1
theorem LT.or{t u:DT}{σ:L2.St}{H:Hp}{Q:Bool→Hp→Prop}(h:LT (yW t u) σ H Q):Ju (LT t) (LT u) σ H Q:=by
 obtain⟨α,σd,st,K,G,F,P,R,S,t,k⟩:=h
 refine⟨α,σd,st,_,G,F,P,R,S,t,fun b st1 q α1 G1 H1 s1 P1 S1=>?_⟩
 cases b with
 |false=>exact⟨α1,σd,st1,K,G1,F,P1,R.step s1,S1,q,k.at s1⟩
 |true=>exact k _ st1 q α1 G1 H1 s1 P1 S1
theorem Dx{t:DT}(ha:PT X a (LT t)):PW X (.BoolOp .And [a] pos) (LT t):=pw_and1 ha
theorem HJ{t:DT}(ha:PT X a (LT t)):PW X (.BoolOp .Or [a] pos) (LT t):=pw_or1 ha
theorem Hq{t u:DT}(ha:PT X a (LT t))(hb:PW X (.BoolOp .And (b::es) pos) (LT u)):PW X (.BoolOp .And (a::b::es) pos) (LT (uj t u)):=PW.imp (pw_and ha hb) fun _ _ _ h=>LT.and h
theorem IB{t u:DT}(ha:PT X a (LT t))(hb:PW X (.BoolOp .Or (b::es) pos) (LT u)):PW X (.BoolOp .Or (a::b::es) pos) (LT (yW t u)):=PW.imp (pw_or ha hb) fun _ _ _ h=>LT.or h
noncomputable def uf(ta tb:DE):DE:=fun σ st K=>ta σ st fun d st1=>match d with| .bl b=>if b=true then tb σ st1 K else K (.bl false) st1|_=>False
noncomputable def yj(t:DT):DE:=fun σ st K=>t σ st fun b st1=>K (.bl (!b)) st1
theorem Ii{op:BoolOp}(ha:PE X a (LE ta)):PE X (.BoolOp op [a] pos) (LE ta):=E8 ha
theorem HZ(ha:PE X a (LE ta))(hb:PE X (.BoolOp .And (b::es) pos) (LE tb)):PE X (.BoolOp .And (a::b::es) pos) (LE (uf ta tb)):=PE.imp (Hn ha hb) fun σ H Q ⟨α,σd,st,K,G,F,P,R,S,t,k⟩=>by
 refine⟨α,σd,st,_,G,F,P,R,S,t,fun d st1 q α1 G1 H1 v s1 P1 S1 r1=>?_⟩
 cases d with
 |bl b=>
  unfold Rep at r1
  refine⟨b,r1,?_⟩
  cases b with
  |true=>exact⟨α1,σd,st1,K,G1,F,P1,R.step s1,S1,q,k.at s1⟩
  |false=>exact k _ st1 q α1 G1 H1 _ s1 P1 S1 (by unfold Rep;rfl)
 |_=>exact q.elim
theorem Jm(ha:PE X a (LE ta)):PE X (.UnaryOp .Not a pos) (LE (yj (bQ ta))):=PE.imp (FK ha) fun σ H Q ⟨α,σd,st,K,G,F,P,R,S,t,k⟩=>by
 refine⟨α,σd,st,_,G,F,P,R,S,t,fun d st1 q α1 G1 H1 v s1 P1 S1 r1=>?_⟩
 cases d with
 |bl b=>
  unfold Rep at r1
  exact⟨b,r1,k _ st1 q α1 G1 H1 _ s1 P1 S1 (by unfold Rep;rfl)⟩
 |_=>exact q.elim
noncomputable def xt(t:DT)(ta tb:DE):DE:=fun σ st K=>t σ st fun b st1=>if b=true then ta σ st1 K else tb σ st1 K
theorem H0{t:DT}(hc:PT X c (LT t))(ha:PE X a (LE ta))(hb:PE X b (LE tb)):PE X (.IfExp c a b pos) (LE (xt t ta tb)):=PE.imp (BK hc ha hb) fun σ H Q ⟨α,σd,st,K,G,F,P,R,S,t,k⟩=>by
 refine⟨α,σd,st,_,G,F,P,R,S,t,fun b st1 q α1 G1 H1 s1 P1 S1=>?_⟩
 cases b with
 |true=>exact⟨α1,σd,st1,K,G1,F,P1,R.step s1,S1,q,k.at s1⟩
 |false=>exact⟨α1,σd,st1,K,G1,F,P1,R.step s1,S1,q,k.at s1⟩
noncomputable def aj:DA:=fun _ st K=>K [] st
noncomputable def ae(ta:DE)(tr:DA):DA:=fun σ st K=>ta σ st fun x st1=>tr σ st1 fun xs st2=>K (x::xs) st2
theorem rO:PA X [] (LA aj):=PA.imp Gq fun σ H Q ⟨α,σd,st,K,G,F,P,R,S,t,k⟩=>k [] st t α G H [] Step.refl P S (by unfold aN;rfl)
theorem o_{tr:DA}(ha:PE X e (LE te))(hr:PA X es (LA tr))(hs:starEach (e::es) X.env=(false,eval e X.env)::starEach es X.env:=by rfl):PA X (e::es) (LA (ae te tr)):=PA.imp (DG ha hr hs) fun σ H Q ⟨α,σd,st,K,G,F,P,R,S,t,k⟩=>by
 refine⟨α,σd,st,_,G,F,P,R,S,t,fun d st1 q α1 G1 H1 v s1 P1 S1 r1=>?_⟩
 refine⟨α1,σd,st1,_,G1,F,P1,R.step s1,S1,q,fun ds st2 q2 α2 G2 H2 vs s2 P2 S2 r2=>?_⟩
 exact k _ st2 q2 α2 G2 H2 (v::vs) (s1.trans s2) P2 S2 (by unfold aN;exact⟨v,vs,rfl,r1.step s2,r2⟩)
noncomputable def i6(t:DA):DE:=fun σ st K=>t σ st fun ds st1=>ds.length≤sizeLine∧K (.tup ds) st1
noncomputable def sy(t:DA):DE:=fun σ st K=>t σ st fun ds st1=>ds.length≤sizeLine∧K (.lst ds) st1
noncomputable def vA(t:DA):DE:=fun σ st K=>t σ st fun ds st1=>ds.length≤sizeLine∧K (.ref st1.length) (st1++[.lst ds])
theorem LK.tup{α:List (Option Addr)}{G F H:Hp}{K:DK}{Q:VK}{ds:List D}{vs:List V}{st:ag}{p:Addr}(k:LK α G F K Q)(P:bT G F H)(q:K (.tup ds) st)(S:aT α st G)(r:aN α G ds vs)(hp:H p=none):Q (.ref p) (upd H p (.tup vs)):=
 have hg:=(P.none hp).1
 k _ st q α _ _ _ (Step.laid hg) (P.laid hp) (S.laid hg) (by unfold Rep;exact⟨p,vs,rfl,S.jz hg,aV,r.step (Step.laid hg)⟩)
theorem LK.lst{α:List (Option Addr)}{G F H:Hp}{K:DK}{Q:VK}{ds:List D}{vs:List V}{st:ag}{p:Addr}(k:LK α G F K Q)(P:bT G F H)(q:K (.lst ds) st)(S:aT α st G)(r:aN α G ds vs)(hp:H p=none):Q (.ref p) (upd H p (.lst vs)):=
 have hg:=(P.none hp).1
 k _ st q α _ _ _ (Step.laid hg) (P.laid hp) (S.laid hg) (by unfold Rep;exact⟨p,vs,rfl,S.jz hg,.of aV,r.step (Step.laid hg)⟩)
theorem LK.new{α:List (Option Addr)}{G F H:Hp}{K:DK}{Q:VK}{ds:List D}{vs:List V}{st:ag}{p:Addr}(k:LK α G F K Q)(P:bT G F H)(q:K (.ref st.length) (st++[.lst ds]))(S:aT α st G)(r:aN α G ds vs)(hp:H p=none):Q (.ref p) (upd H p (.lst vs)):=
 have hg:=(P.none hp).1
 k _ _ q (α++[some p]) _ _ _ (Step.cell hg) (P.laid hp) (S.cell hg ⟨vs,aV,r.step (Step.cell hg)⟩) (by
  unfold Rep
  refine .inr ⟨p,?_,rfl⟩
  rw[List.getElem?_append_right (by rw[S.len];exact Nat.le_refl _),S.len,Nat.sub_self]
  rfl)
theorem HN{n:Nat}{t:DA}(h:PA X es (LA t)):PE X (.Tuple es n pos) (LE (i6 t)):=PE.imp (Ft h) fun σ H Q ⟨α,σd,st,K,G,F,P,R,S,t,k⟩=>
 ⟨α,σd,st,_,G,F,P,R,S,t,fun ds st1 q α1 G1 H1 vs s1 P1 S1 r1=>⟨by rw[←r1.length];exact q.1,fun p hp=>(k.at s1).tup P1 q.2 S1 r1 hp⟩⟩
theorem Iv{t:DA}(h:PA X es (LA t)):PE X (.List es pos) (LE (sy t)):=PE.imp (zx h) fun σ H Q ⟨α,σd,st,K,G,F,P,R,S,t,k⟩=>
 ⟨α,σd,st,_,G,F,P,R,S,t,fun ds st1 q α1 G1 H1 vs s1 P1 S1 r1=>⟨by rw[←r1.length];exact q.1,fun p hp=>(k.at s1).lst P1 q.2 S1 r1 hp⟩⟩
theorem Ir{t:DA}(h:PA X es (LA t)):PE X (.List es pos) (LE (vA t)):=PE.imp (zx h) fun σ H Q ⟨α,σd,st,K,G,F,P,R,S,t,k⟩=>
 ⟨α,σd,st,_,G,F,P,R,S,t,fun ds st1 q α1 G1 H1 vs s1 P1 S1 r1=>⟨by rw[←r1.length];exact q.1,fun p hp=>(k.at s1).new P1 q.2 S1 r1 hp⟩⟩
noncomputable abbrev cO:=List D→ag→DK→Prop
inductive GC(T:cO)(vs:List V)(H:Hp)(Q:VK):Prop
 |mk (α:List (Option Addr)) (ds:List D) (st:ag) (K:DK) (G F:Hp) (P:bT G F H) (rx:aN α G ds vs) (S:aT α st G) (h:T ds st K) (k:LK α G F K Q):GC T vs H Q
noncomputable def aO(S:cO):Sp:=fun vs H Q _=>GC S vs H Q
noncomputable def aP(S:cO)(t:DA):DE:=fun σ st K=>t σ st fun ds st1=>S ds st1 K
theorem LE.call{S:cO}{t:DA}{σ:L2.St}{H:Hp}{Q:VK}(h:LE (aP S t) σ H Q):CB (aO S) [] E0 (LA t) σ H Q:=by
 obtain⟨α,σd,st,K,G,F,P,R,S,t,k⟩:=h
 refine⟨α,σd,st,_,G,F,P,R,S,t,fun ds st1 q α1 G1 H1 vs s1 P1 S1 r1=>?_⟩
 try dsimp only
 rw[List.append_nil]
 exact⟨α1,ds,st1,K,G1,F,P1,r1,S1,q,k.at s1⟩
theorem Fd{S:cO}{k:Nat}{f:Addr}{fd:FuncData}{ps:List Str}{x:Str}{p:Pos}{t:DA}(F:aw X.prog X.w X.K X.mg X.base aJ k f fd ps (aO S))(hr:cK k X.A)(hg:Gl X x)(hm:X.mg x=some (.ref f))(hk:PySem.W.keepIn X.K (.ref f)=true)(hb:Binds X.K fd ps [])
 (ha:PA X (e::es) (LA t)) (hdb:(x==("__debug__":Str))=false:=by decide) (he:starEach (e::es) X.env=(false,eval e X.env)::starEach es X.env:=by rfl) (hpl:(backTo pos (starEach es X.env)).any (·.1)=false:=by rfl):
 PE X (.Call (.Name x p) (e::es) [] pos) (LE (aP S t)):=PE.imp (Dm F hr hg hm hk hb .nil yt ha hdb he hpl) fun _ _ _ h=>LE.call h
noncomputable def b_(r:fm)(t:DA):DE:=fun σ st K=>t σ st fun ds st1=>r ds st1 K
theorem LE.cb{r:fm}{t:DA}{σ:L2.St}{H:Hp}{Q:VK}(h:LE (b_ r t) σ H Q):GV (gz r) (LA t) σ H Q:=by
 obtain⟨α,σd,st,K,G,F,P,R,S,t,k⟩:=h
 refine⟨α,σd,st,_,G,F,P,R,S,t,fun ds st1 q α1 G1 H1 vs s1 P1 S1 r1=>?_⟩
 exact⟨α1,ds,st1,K,G1,F,P1,r1,S1,q,k.at s1⟩
end
end L3
namespace L3
open PySem PySem.Spec L2
open PyProof.Rows hiding St
section
variable {X:Cx}
theorem bW.imp{f:Value→Value→Sem Value}{r r':R2}(h:bW X f r)(k:∀x y H Q,r' x y H Q→r x y H Q):bW X f r':=fun pins s σ H x y v u Q I rx ry q=>h pins s σ H x y v u Q I rx ry (k x y H Q q)
theorem bJ.imp{f:Value}{r r':List V→Hp→VK→Prop}(h:bJ X f r)(k:∀xs H Q,r' xs H Q→r xs H Q):bJ X f r':=fun pins s σ H xs us Q I rs q=>h pins s σ H xs us Q I rs (k xs H Q q)
noncomputable def qP(C:Int→Int→Prop)(g:Int→Int→D):dh:=fun x y st K=>match x,y with| .int i,.int j=>C i j∧K (g i j) st|_,_=>False
theorem ka{f:Value→Value→Sem Value}{C:Int→Int→Prop}{g:Int→Int→D}{g':Int→Int→V}(hg:∀i j α H,Rep α H (g i j) (g' i j))(h:bW X f (rI C g')):bW X f (LR (qP C g)):=bW.imp h fun x y H Q ⟨α,d,e,st,K,G,F',P,r1,r2,S,q,k⟩=>by
 cases d<;>cases e<;>first
  |exact q.elim
  |(unfold Rep at r1 r2;exact⟨_,_,r1,r2,q.1,k.here P q.2 S (hg _ _ _ _)⟩)
noncomputable abbrev T2:Int→Int→Prop:=fun _ _=>True
theorem uk{g:Int→Int→V}{f:Value→Value→Sem Value}(h:bW X f (sS g)):bW X f (rI T2 g):=bW.imp h fun x y H Q ⟨i,j,e1,e2,_,q⟩=>⟨i,j,e1,e2,q⟩
noncomputable abbrev Cz:dh:=qP T2 fun i j=> .int (i-j)
noncomputable abbrev Au:dh:=qP (fun _ j=>j≠0∧j.natAbs.log2<9000) fun i j=> .int (i.fdiv j)
noncomputable abbrev C4:dh:=qP (fun _ j=>j≠0) fun i j=> .int (i.fmod j)
noncomputable abbrev Co:dh:=qP Br fun i j=> .int (i^j.toNat)
noncomputable abbrev FI:dh:=qP T2 fun i j=> .bl (decide (i<j))
noncomputable abbrev GL:dh:=qP T2 fun i j=> .bl (decide (j<i))
noncomputable abbrev Hk:dh:=qP T2 fun i j=> .bl (decide (j≤i))
theorem IF:bW X (binaryOp .Sub) (LR Cz):=ka (fun _ _ _ _=>by unfold Rep;rfl) (uk FT)
theorem FH:bW X (binaryOp .FloorDiv) (LR Au):=ka (fun _ _ _ _=>by unfold Rep;rfl) (C5 fun i j _ _ _ _ _ hc q=>floordiv_int hc.1 q (.inl (PyProof.noPylong_of_log2 hc.2)))
theorem IL:bW X (binaryOp .Mod) (LR C4):=ka (fun _ _ _ _=>by unfold Rep;rfl) EC
theorem Il:bW X (binaryOp .Pow) (LR Co):=ka (fun _ _ _ _=>by unfold Rep;rfl) GG
theorem Ko:bW X (compareOp .Lt) (LR FI):=ka (fun _ _ _ _=>by unfold Rep;rfl) (uk Ip)
theorem J4:bW X (compareOp .Gt) (LR GL):=ka (fun _ _ _ _=>by unfold Rep;rfl) (uk HL)
theorem Kh:bW X (compareOp .GtE) (LR Hk):=ka (fun _ _ _ _=>by unfold Rep;rfl) (uk Ig)
noncomputable def Df:vx:=fun x st K=>match x with| .int i=>K (.int (-i)) st|_=>False
theorem Jq:wU X (unaryOp .USub) (Cs Df):=fun pins s σ H x v Q I rx ⟨α,d,st,K,G,F',P,r,S,q,k⟩=>by
 cases d<;>first
  |exact q.elim
  |(unfold Rep at r;exact Gv pins s σ H x v Q I rx ⟨_,r,k.here P q S (by unfold Rep;rfl)⟩)
theorem Inv.yk{pins:List (Addr×Obj)}{σ:L2.St}{H:Hp}{s:Shared}{l:Addr}{xs:List V}(I:Inv X pins σ H s)(h:Rd H l (.lst xs)):
 xs.length≤sizeLine∧∃(its:List Value) (n:Nat),Vals xs its∧xs.length=its.length∧s.heap.get? l=some {cls:= .type "list",data:= .seq its.toArray n}:=by
 obtain⟨z,its,n,r,e⟩:=h.ok I.aI
 exact⟨z,its,n,r,r.length,e⟩
theorem gq{G F H:Hp}(P:bT G F H){a:Addr}{u:HO}(h:Rd G a u):Rd H a u:=by
 rcases h with h|⟨o,h⟩
 · exact .inl (P.get h)
 · exact .inr ⟨o,P.get h⟩
theorem xj:bW X (binaryOp .Add) (fun x y H Q=>∃l b xs zs,x= .ref l∧y= .ref b∧Rd H l (.lst xs)∧Rd H b (.lst zs)∧xs.length+zs.length≤sizeLine∧∀p,H p=none→Q (.ref p) (upd H p (.lst (xs++zs)))):=by
 intro pins s σ H x y v u Q I rx ry h
 obtain⟨l,b,xs,zs,rfl,rfl,hH,hB,hz,q⟩:=h
 cases rx
 cases ry
 obtain⟨z,its,n,r,hl,e⟩:=Inv.yk I hH
 obtain⟨z2,its2,n2,r2,hl2,e2⟩:=Inv.yk I hB
 refine PySem.P.add_list e e2 ?_ (by rw[List.size_toArray,List.size_toArray];(first|lia|omega))
 have ea:its.toArray++its2.toArray=(its++its2).toArray:=by simp
 rw[ea]
 exact⟨.ref _,_,I.BN (t':=s.toks) (r.append r2) (by rw[List.length_append];(first|lia|omega)),rfl,q _ I.fresh⟩
theorem w4:bW X (binaryOp .Mult) (fun x y H Q=>∃l k xs,x= .ref l∧y= .int k∧Rd H l (.lst xs)∧ -(2^63)≤k∧k<2^63∧xs.length*k.toNat≤sizeLine∧
 ∀p,H p=none→Q (.ref p) (upd H p (.lst (List.replicate k.toNat xs).flatten))):=by
 intro pins s σ H x y v u Q I rx ry h
 obtain⟨l,k,xs,rfl,rfl,hH,h1,h2,hz,q⟩:=h
 cases rx
 obtain⟨t,rfl⟩:=ry
 obtain⟨z,its,n,r,hl,e⟩:=Inv.yk I hH
 have hlen:its.toArray.size*k.toNat≤sizeLine:=by rw[List.size_toArray,←hl];exact hz
 have hcap:¬its.toArray.size*k.toNat>(2^63-1)/8:=by
  have:(sizeLine:Nat)≤(2^63-1)/8:=by decide
  (first|lia|omega)
 have hfit:¬(!Builtin.List.listFitsIndex k)=true:=by
  rw[fitsIndex_both h1 h2]
  exact Bool.false_ne_true
 have hlong:¬Builtin.List.listTooLong (its.toArray.size*k.toNat)=true:=by
  rw[BP hlen]
  exact Bool.false_ne_true
 have hnew:List.foldl (fun x1 x2=>x1++x2) #[] (List.replicate (if its.toArray.isEmpty=true then 0 else k.toNat) its.toArray)=(List.replicate k.toNat its).flatten.toArray:=by
  have f0:∀m:Nat,List.foldl (fun x1 x2=>x1++x2) #[] (List.replicate m its.toArray)=(List.replicate m its).flatten.toArray:=fun m=>by
   have:=foldl_rep its m []
   rw[List.nil_append]at this
   exact this
  rw[f0]
  cases its with
  |nil=>simp
  |cons a r'=>rw[if_neg (by simp)]
 refine wpAny_binaryOp_repeat_ref (T:="list") (U:="int") (by decide) ⟨_,e,rfl⟩ (fun s'=>typeIs_int s' k t) noFill_list_mul F.fills_int_mul F.slot_int_rmul repeat_list F.slot_int_index.lookup
  (call_meets F.slot_int_rmul (typeIs_int s k t) F.entry_int_rmul (F.args_int_rmul_2 _ _) (int___rmul___int_list k t l its.toArray n)
    ⟨e,rfl,⟨_,e,rfl⟩,call_meets F.slot_list_mul ⟨_,e,rfl⟩ F.entry_list_mul (F.args_list_mul_2 _ _) (AutoListH.list___mul___list_int_3 l its.toArray n k t hfit hcap hlong) ⟨e,?_⟩⟩)
 rw[hnew]
 exact⟨.ref _,_,I.BN (t':=s.toks) (r.rep k.toNat) (by rw[len_rep,Nat.mul_comm];exact hz),rfl,q _ I.fresh⟩
theorem BF:bW X (binaryOp .Add) (fun x y H Q=>∃a b xs ys,x= .ref a∧y= .ref b∧H a=some (.tup xs)∧H b=some (.tup ys)∧xs.length+ys.length≤sizeLine∧
 (xs=[]→Q (.ref b) H)∧(xs≠ []→ys=[]→Q (.ref a) H)∧(xs≠ []→ys≠ []→∀p,H p=none→Q (.ref p) (upd H p (.tup (xs++ys))))):=by
 intro pins s σ H x y v u Q I rx ry h
 obtain⟨a,b,xs,ys,rfl,rfl,ha,hb,hz,q0,q1,q2⟩:=h
 by_cases hx:xs=[]
 · cases rx
   cases ry
   obtain⟨its,r1,p1,_⟩:=I.tuple (.of ha)
   obtain⟨its2,r2,p2,_⟩:=I.tuple (.of hb)
   obtain⟨⟨cls,dd,data,sl⟩,ho,hc,n,hd⟩:=id p1
   obtain⟨⟨cls2,dd2,data2,sl2⟩,ho2,hc2,n2,hd2⟩:=id p2
   simp only at hc hd hc2 hd2
   subst hc hd hc2 hd2
   have hi:its=[]:=(L2.Vals.pf r1).mpr hx
   exact concat_meets ⟨_,ho,rfl⟩ ⟨_,ho2,rfl⟩ noFill_tuple_add seq_tuple_add PySem.F.slot_tuple_add PySem.F.entry_tuple_add (PySem.F.args_tuple_add_2 _ _)
    (tuple_addW0 a b its.toArray its2.toArray n n2 dd dd2 sl sl2 (by simp[hi])) ⟨ho,ho2,⟨.ref b,H,I,rfl,q0 hx⟩⟩
 · exact EE pins s σ H _ _ v u Q I rx ry ⟨a,b,xs,ys,rfl,rfl,.of ha,.of hb,hx,hz,q1 hx,q2 hx⟩
theorem sL:fillsNumberSlot (.type "tuple") "mul"=pure false:=
 PySem.fillsNumberSlot_seq (id:="tuple.__mul__") (r:=some (.builtin "tuple.__rmul__")) F.slot_tuple_mul.lookup (by decide+kernel) F.slot_tuple_rmul.lookup (by decide+kernel)
theorem yO:seqRepeat? (.type "tuple")=pure (some (.builtin "tuple.__mul__")):=by
 unfold seqRepeat?
 rw[PySem.seqSlot_of (T:="tuple") (name:="__mul__") (id:="tuple.__mul__") F.slot_tuple_mul.lookup (by decide+kernel),PySem.seqSlot_of (T:="tuple") (name:="__rmul__") (id:="tuple.__rmul__") F.slot_tuple_rmul.lookup (by decide+kernel)]
 rfl
theorem uD(a:Int)(t:Tok)(l:Addr)(its:Array Value)(n:Nat)(dd:Option Addr)(sl:Array (Option Value)):Meets (Builtin.«int.__rmul__» ⟨[.int a t,.ref l],[]⟩) (fun _ R s=>s.heap.get? l=some {cls:= .type "tuple",dict:=dd,data:= .seq its n,slots:=sl}∧R (.ok (.ret Value.notImplemented)) s):=
 .of_wp fun P w A R s h=>by
  obtain⟨hp,g,d,tk,os⟩:=s
  obtain⟨hl,h⟩:=h
  wp_walk
  exact⟨_,rfl,h⟩
theorem vt(l:Addr)(its:Array Value)(n:Nat)(dd:Option Addr)(sl:Array (Option Value))(x:Int)(u:Tok)(h0:(decide (x< -(2^63))||decide (x≥2^63))=false)(h1:(its.isEmpty||x==1)=true):
 Meets (Builtin.«tuple.__mul__» ⟨[.ref l,.int x u],[]⟩) (fun _ R s=>s.heap.get? l=some {cls:= .type "tuple",dict:=dd,data:= .seq its n,slots:=sl}∧R (.ok (.ret (.ref l))) s):=
 .of_wp fun P w A R s h=>by
  obtain⟨hp,g,d,tk,os⟩:=s
  obtain⟨hl,h⟩:=h
  wp_walk
  refine wpAny_ite_false (by rw[h0];rfl) ?_
  wp_walk
  exact⟨_,rfl,h⟩
theorem uR(l:Addr)(its:Array Value)(n:Nat)(dd:Option Addr)(sl:Array (Option Value))(x:Int)(u:Tok)(h0:(decide (x< -(2^63))||decide (x≥2^63))=false)(h1:(its.isEmpty||x==1)=false)(h2:(decide (x≤0)||its.isEmpty)=true):
 Meets (Builtin.«tuple.__mul__» ⟨[.ref l,.int x u],[]⟩) (fun _ R s=>s.heap.get? l=some {cls:= .type "tuple",dict:=dd,data:= .seq its n,slots:=sl}∧R (.ok (.ret (.ref s.heap.objs.size))) {s with heap:=s.heap.push {cls:= .type "tuple",data:= .seq #[]}}):=
 .of_wp fun P w A R s h=>by
  obtain⟨hp,g,d,tk,os⟩:=s
  obtain⟨hl,h⟩:=h
  wp_walk
  refine wpAny_ite_false (by rw[h0];rfl) ?_
  wp_walk
  exact⟨_,rfl,h⟩
theorem vq(l:Addr)(its:Array Value)(n:Nat)(dd:Option Addr)(sl:Array (Option Value))(x:Int)(u:Tok)(h0:(decide (x< -(2^63))||decide (x≥2^63))=false)(h1:(its.isEmpty||x==1)=false)(h2:(decide (x≤0)||its.isEmpty)=false)(h3:¬((its.size:Int)*x>(2^63-1)/8))(h4:Builtin.Tuple.tupleTooMany (its.size*x)=false)
 (hz:(List.foldl (fun x1 x2=>x1++x2) #[] (List.replicate x.toNat its)).size≤sizeLine):
 Meets (Builtin.«tuple.__mul__» ⟨[.ref l,.int x u],[]⟩) (fun _ R s=>s.heap.get? l=some {cls:= .type "tuple",dict:=dd,data:= .seq its n,slots:=sl}∧R (.ok (.ret (.ref s.heap.objs.size))) {s with heap:=s.heap.push {cls:= .type "tuple",data:= .seq (List.foldl (fun x1 x2=>x1++x2) #[] (List.replicate x.toNat its))}}):=
 .of_wp fun P w A R s h=>by
  obtain⟨hp,g,d,tk,os⟩:=s
  obtain⟨hl,h⟩:=h
  wp_walk
  refine wpAny_ite_false (by rw[h0];rfl) ?_
  wp_walk
  refine wpAny_ite_false (decide_eq_false h3) ?_
  wp_walk
  exact⟨_,rfl,h⟩
theorem EO:bW X (binaryOp .Mult) (fun x y H Q=>∃l k xs,x= .ref l∧y= .int k∧H l=some (.tup xs)∧ -(2^63)≤k∧k<2^63∧xs.length*k.toNat≤sizeLine∧
 ((xs=[]∨k=1)→Q (.ref l) H)∧(¬(xs=[]∨k=1)→∀p,H p=none→Q (.ref p) (upd H p (.tup (List.replicate k.toNat xs).flatten)))):=by
 intro pins s σ H x y v u Q I rx ry h
 obtain⟨l,k,xs,rfl,rfl,hH,h1,h2,hz,q1,q2⟩:=h
 cases rx
 obtain⟨t,rfl⟩:=ry
 obtain⟨its,r,p1,_⟩:=I.tuple (.of hH)
 obtain⟨⟨cls,dd,data,sl⟩,ho,hc,n,hd⟩:=id p1
 simp only at hc hd
 subst hc hd
 have hl:xs.length=its.length:=r.length
 have f0:(decide (k< -(2^63))||decide (k≥2^63))=false:=by
  rw[decide_eq_false (by(first|lia|omega)),decide_eq_false (by(first|lia|omega))];rfl
 refine wpAny_binaryOp_repeat_ref (T:="tuple") (U:="int") (by decide) ⟨_,ho,rfl⟩ (fun s'=>typeIs_int s' k t) sL F.fills_int_mul F.slot_int_rmul yO F.slot_int_index.lookup
  (call_meets F.slot_int_rmul (typeIs_int s k t) F.entry_int_rmul (F.args_int_rmul_2 _ _) (uD k t l its.toArray n dd sl) ⟨ho,rfl,⟨_,ho,rfl⟩,?_⟩)
 by_cases hs:xs=[]∨k=1
 · have f1:(its.toArray.isEmpty||k==1)=true:=by
    rcases hs with z|z
    · have:its=[]:=List.length_eq_zero_iff.mp (by rw[←hl,z];rfl)
      rw[this];rfl
    · rw[z];simp
   exact call_meets F.slot_tuple_mul ⟨_,ho,rfl⟩ F.entry_tuple_mul (F.args_tuple_mul_2 _ _) (vt l its.toArray n dd sl k t f0 f1) ⟨ho,⟨.ref l,H,I,rfl,q1 hs⟩⟩
 · have hne:its≠ []:=fun z=>hs (.inl (List.length_eq_zero_iff.mp (by rw[hl,z];rfl)))
   have hk1:k≠1:=fun z=>hs (.inr z)
   have e1:its.toArray.isEmpty=false:=by simpa using hne
   have f1:(its.toArray.isEmpty||k==1)=false:=by rw[e1];simpa using hk1
   have new:∀(us:List Value) (ys:List V),Vals ys us→ys.length≤sizeLine→Inv X pins σ (upd H s.heap.objs.size (.tup ys)) {s with heap:=s.heap.push {cls:= .type "tuple",data:= .seq us.toArray}}:=fun us ys hv hy=>
    I.laid (t':=s.toks) (fun _ _ q=>Heap.get?_push_of_some _ q) (Nat.le_refl _) ⟨hy,us,hv,⟨_,Heap.get?_push_size _ rfl,rfl,_,rfl⟩⟩
   by_cases h0:k≤0
   · have f2:(decide (k≤0)||its.toArray.isEmpty)=true:=by rw[decide_eq_true h0];rfl
     refine call_meets F.slot_tuple_mul ⟨_,ho,rfl⟩ F.entry_tuple_mul (F.args_tuple_mul_2 _ _) (uR l its.toArray n dd sl k t f0 f1 f2) ⟨ho,?_⟩
     have ez:k.toNat=0:=by(first|lia|omega)
     rw[ez]at q2
     exact⟨.ref _,_,new [] [] .nil (Nat.zero_le _),rfl,q2 hs _ I.fresh⟩
   · have f2:(decide (k≤0)||its.toArray.isEmpty)=false:=by rw[decide_eq_false h0,e1];rfl
     have hk:(k.toNat:Int)=k:=by(first|lia|omega)
     have hlen:its.toArray.size*k.toNat≤sizeLine:=by rw[List.size_toArray,←hl];exact hz
     have hsz:((its.toArray.size:Nat):Int)*k≤(sizeLine:Int):=by
      rw[←hk]
      exact_mod_cast hlen
     have f3:¬(((its.toArray.size:Nat):Int)*k>(2^63-1)/8):=by
      have:((sizeLine:Nat):Int)≤(2^63-1)/8:=by decide
      (first|lia|omega)
     have f4:Builtin.Tuple.tupleTooMany (((its.toArray.size:Nat):Int)*k)=false:=by
      unfold Builtin.Tuple.tupleTooMany
      exact decide_eq_false (by(first|lia|omega))
     have hnew:List.foldl (fun x1 x2=>x1++x2) #[] (List.replicate k.toNat its.toArray)=(List.replicate k.toNat its).flatten.toArray:=by
      have:=foldl_rep its k.toNat []
      rw[List.nil_append]at this
      exact this
     have hfl:(List.replicate k.toNat its).flatten.length=its.length*k.toNat:=by rw[len_rep,Nat.mul_comm]
     refine call_meets F.slot_tuple_mul ⟨_,ho,rfl⟩ F.entry_tuple_mul (F.args_tuple_mul_2 _ _) (vq l its.toArray n dd sl k t f0 f1 f2 f3 f4 (by rw[hnew,List.size_toArray,hfl];exact hlen)) ⟨ho,?_⟩
     rw[hnew]
     exact⟨.ref _,_,new _ _ (r.rep k.toNat) (by rw[len_rep,Nat.mul_comm];exact hz),rfl,q2 hs _ I.fresh⟩
noncomputable def C9:dh:=fun x y st K=>match x,y with
 | .int i,.int j=>K (.int (i+j)) st
 | .tup xs,.tup ys=>xs.length+ys.length≤sizeLine∧K (.tup (xs++ys)) st
 | .lst xs,.lst ys=>xs.length+ys.length≤sizeLine∧K (.lst (xs++ys)) st
 | .str x,.str y=>x.length+y.length≤sizeLine∧K (.str (x++y)) st
 |_,_=>False
theorem HY:bW X (binaryOp .Add) (LR C9):=fun pins s σ H x y v u Q I rx ry ⟨α,d,e,st,K,G,F',P,r1,r2,S,q,k⟩=>by
 cases d<;>cases e<;>try exact q.elim
 · unfold Rep at r1 r2
   exact Ga pins s σ H x y v u Q I rx ry ⟨_,_,r1,r2,k.here P q S (by unfold Rep;rfl)⟩
 · unfold Rep at r1 r2
   exact yU pins s σ H x y v u Q I rx ry ⟨_,_,r1,r2,q.1,k.here P q.2 S (by unfold Rep;rfl)⟩
 · unfold Rep at r1 r2
   obtain⟨a,vs,rfl,na,ha,ra⟩:=r1
   obtain⟨b,ws,rfl,nb,hb,rb⟩:=r2
   refine xj pins s σ H _ _ v u Q I rx ry ⟨a,b,vs,ws,rfl,rfl,gq P ha,gq P hb,by rw[←ra.length,←rb.length];exact q.1,fun p hp=>?_⟩
   exact k.lst P q.2 S (aU.mpr (e_ (aU.mp ra) (aU.mp rb))) hp
 · rename_i xs ys
   unfold Rep at r1 r2
   obtain⟨a,vs,rfl,na,ha,ra⟩:=r1
   obtain⟨b,ws,rfl,nb,hb,rb⟩:=r2
   have hl1:=ra.length
   have hl2:=rb.length
   refine BF pins s σ H _ _ v u Q I rx ry ⟨a,b,vs,ws,rfl,rfl,P.get ha,P.get hb,by rw[←hl1,←hl2];exact q.1,fun z=>?_,fun _ z=>?_,fun _ _ p hp=>?_⟩
   · refine k.here P q.2 S ?_
     unfold Rep
     have:xs=[]:=by rw[z]at hl1;exact List.length_eq_zero_iff.mp hl1
     subst this
     exact⟨b,ws,rfl,nb,hb,rb⟩
   · refine k.here P q.2 S ?_
     unfold Rep
     have:ys=[]:=by rw[z]at hl2;exact List.length_eq_zero_iff.mp hl2
     subst this
     rw[List.append_nil]
     exact⟨a,vs,rfl,na,ha,ra⟩
   · exact k.tup P q.2 S (aU.mpr (e_ (aU.mp ra) (aU.mp rb))) hp
noncomputable def C_:dh:=fun x y st K=>match x,y with
 | .int i,.int j=>IntMulOk i j∧K (.int (i*j)) st
 | .lst xs,.int k=>(-(2^63)≤k∧k<2^63∧xs.length*k.toNat≤sizeLine)∧K (.lst (List.replicate k.toNat xs).flatten) st
 | .tup xs,.int k=>(-(2^63)≤k∧k<2^63∧xs.length*k.toNat≤sizeLine)∧K (.tup (List.replicate k.toNat xs).flatten) st
 |_,_=>False
theorem Jg:bW X (binaryOp .Mult) (LR C_):=fun pins s σ H x y v u Q I rx ry ⟨α,d,e,st,K,G,F',P,r1,r2,S,q,k⟩=>by
 cases d<;>cases e<;>try exact q.elim
 · unfold Rep at r1 r2
   have h:bW X (binaryOp .Mult) (rI IntMulOk fun i j=> .int (i*j)):=C5 fun _ _ _ _ _ _ _ hc q=>mul_int q hc
   exact h pins s σ H x y v u Q I rx ry ⟨_,_,r1,r2,q.1,k.here P q.2 S (by unfold Rep;rfl)⟩
 · unfold Rep at r1 r2
   obtain⟨a,vs,rfl,na,ha,ra⟩:=r1
   refine w4 pins s σ H _ _ v u Q I rx ry ⟨a,_,vs,rfl,r2,gq P ha,q.1.1,q.1.2.1,by rw[←ra.length];exact q.1.2.2,fun p hp=>?_⟩
   exact k.lst P q.2 S (aU.mpr (j6 (aU.mp ra) _)) hp
 · rename_i xs m
   have r1':=r1
   unfold Rep at r1 r2
   obtain⟨a,vs,rfl,na,ha,ra⟩:=r1
   refine EO pins s σ H _ _ v u Q I rx ry ⟨a,_,vs,rfl,r2,P.get ha,q.1.1,q.1.2.1,by rw[←ra.length];exact q.1.2.2,fun hs=>?_,fun _ p hp=>k.tup P q.2 S (aU.mpr (j6 (aU.mp ra) _)) hp⟩
   have e:(List.replicate m.toNat xs).flatten=xs:=by
    rcases hs with z|z
    · have:xs=[]:=List.length_eq_zero_iff.mp (by rw[ra.length,z];rfl)
      rw[this];simp
    · rw[z];simp
   have q2:=q.2
   rw[e]at q2
   exact k.here P q2 S r1'
noncomputable def live(st:ag):D→Bool
 | .ref n=>(match st[n]? with|some (.lst _)=>true|some (.ins _ _)=>true|_=>false)
 |_=>true
theorem vS{α:List (Option Addr)}{H:Hp}{st:ag}{n:Nat}{v:V}(S:aT α st H)(h:live st (.ref n)=true)(r:Rep α H (.ref n) v):∃a,v= .ref a:=by
 unfold live at h
 simp only at h
 split at h
 · rename_i e
   obtain⟨a,ea,_⟩:=S.gm e
   exact⟨a,dQ ea r⟩
 · rename_i e
   obtain⟨a,ea,_⟩:=S.um e
   exact⟨a,dQ ea r⟩
 · cases h
noncomputable def nA:dh:=fun x y st K=>match y with
 | .int i=>(match x with
   | .lst xs=>(match dJ xs i with|some d=>K d st|none=>False)
   | .tup xs=>(match dJ xs i with|some d=>K d st|none=>False)
   | .ref n=>(match st[n]? with|some (.lst xs)=>(match dJ xs i with|some d=>K d st|none=>False)|_=>False)
   |_=>False)
 |_=>False
theorem aN.dJ{α:List (Option Addr)}{H:Hp}{ds:List D}{vs:List V}{i:Int}{d:D}(h:aN α H ds vs)(e:L2.dJ ds i=some d):∃v,L2.dJ vs i=some v∧Rep α H d v:=by
 unfold L2.dJ at e⊢
 rw[←h.length]
 cases q:jK ds.length i with
 |none=>rw[q]at e;cases e
 |some j=>rw[q]at e;exact h.get e
theorem Kc:CL X (LR nA):=fun value slice pins s σ H x y v u Q I rx ry ⟨α,d,e,st,K,G,F',P,r1,r2,S,q,k⟩ hs=>by
 cases e<;>try exact q.elim
 unfold Rep at r2
 cases d<;>try exact q.elim
 · rename_i i n
   unfold nA at q
   simp only at q
   split at q
   · split at q
     · rename_i xs e1 _ d' e2
       obtain⟨a,ea,vs,hv,rv⟩:=S.gm e1
       have r1':=dQ ea r1
       subst r1'
       obtain⟨z,ez,rz⟩:=rv.dJ e2
       exact xm value slice pins s σ H _ _ v u Q I rx ry ⟨a,vs,_,z,rfl,r2,.of (P.get hv),ez,k.here P q S rz⟩ hs
     · exact q.elim
   · exact q.elim
 · unfold nA at q
   simp only at q
   split at q
   · rename_i xs d' e2
     unfold Rep at r1
     obtain⟨a,vs,rfl,na,ha,ra⟩:=r1
     obtain⟨z,ez,rz⟩:=ra.dJ e2
     exact xm value slice pins s σ H _ _ v u Q I rx ry ⟨a,vs,_,z,rfl,r2,.inl (gq P ha),ez,k.here P q S rz⟩ hs
   · exact q.elim
 · unfold nA at q
   simp only at q
   split at q
   · rename_i xs d' e2
     unfold Rep at r1
     obtain⟨a,vs,rfl,na,ha,ra⟩:=r1
     obtain⟨z,ez,rz⟩:=ra.dJ e2
     exact Fs value slice pins s σ H _ _ v u Q I rx ry ⟨a,vs,_,z,rfl,r2,.of (P.get ha),ez,k.here P q S rz⟩ hs
   · exact q.elim
theorem Km{a b:Expr}{ta tb:DE}{pos:Pos}(ha:PE X a (LE ta))(hb:PE X b (LE tb))(hs:o3 b:=by intro _ _;rfl):PE X (.Subscript a b pos) (LE (ax nA ta tb)):=PE.imp (IK Kc ha hb hs) fun _ _ _ h=>LE.op h
end
end L3
namespace L3
open PySem PySem.Spec L2
open PyProof.Rows hiding St
section
variable {X:Cx}
noncomputable def items?(st:ag):D→Option (List D)
 | .lst xs=>some xs
 | .tup xs=>some xs
 | .ref n=>(match st[n]? with|some (.lst xs)=>some xs|_=>none)
 |_=>none
@[simp] theorem JP(st:ag)(xs:List D):items? st (.lst xs)=some xs:=rfl
@[simp] theorem JN(st:ag)(xs:List D):items? st (.tup xs)=some xs:=rfl
@[simp] theorem items_int(st:ag)(i:Int):items? st (.int i)=none:=rfl
@[simp] theorem Ky(st:ag)(i:Bool):items? st (.bl i)=none:=rfl
@[simp] theorem items_str(st:ag)(i:Str):items? st (.str i)=none:=rfl
@[simp] theorem Jw(st:ag):items? st .aC=none:=rfl
theorem aH{st:ag}{n:Nat}{xs:List D}(h:st[n]?=some (.lst xs)):items? st (.ref n)=some xs:=by unfold items?;simp only[h]
theorem md{α:List (Option Addr)}{H:Hp}{st:ag}{d:D}{v:V}{xs:List D}(S:aT α st H)(r:Rep α H d v)(e:items? st d=some xs):
 ∃p vs,v= .ref p∧aN α H xs vs∧(Rd H p (.lst vs)∨H p=some (.tup vs)):=by
 cases d<;>try(cases e;done)
 · unfold items? at e
   simp only at e
   split at e
   · rename_i ys q
     cases e
     obtain⟨a,ea,vs,h1,h2⟩:=S.gm q
     have r':=dQ ea r
     subst r'
     exact⟨a,vs,rfl,h2,.inl (.of h1)⟩
   · cases e
 · cases e
   unfold Rep at r
   obtain⟨a,vs,rfl,_,h1,h2⟩:=r
   exact⟨a,vs,rfl,h2,.inl h1⟩
 · cases e
   unfold Rep at r
   obtain⟨a,vs,rfl,_,h1,h2⟩:=r
   exact⟨a,vs,rfl,h2,.inr h1⟩
theorem yw{K:PySem.W.Frag}{G F H:Hp}(P:bT G F H){p:Addr}{vs:List V}(h:Rd G p (.lst vs)∨G p=some (.tup vs)):kb K H p vs∨ir K H p vs:=h.elim (fun z=> .inl (.inl (gq P z))) fun z=> .inr (.of (P.get z))
theorem ie{α:List (Option Addr)}{H:Hp}{ds:List D}{xs:List V}{d:D}(r:aN α H ds xs)(e:ds=[d]):∃v,xs=[v]∧Rep α H d v:=by
 subst e
 unfold aN at r
 obtain⟨v,q,rfl,h1,h2⟩:=r
 unfold aN at h2
 subst h2
 exact⟨v,rfl,h1⟩
theorem kT{α:List (Option Addr)}{H:Hp}{ds:List D}{xs:List V}{d e:D}(r:aN α H ds xs)(q:ds=[d,e]):∃v u,xs=[v,u]∧Rep α H d v∧Rep α H e u:=by
 subst q
 unfold aN at r
 obtain⟨v,q,rfl,h1,h2⟩:=r
 obtain⟨u,rfl,h3⟩:=ie h2 rfl
 exact⟨v,u,rfl,h1,h3⟩
noncomputable def uc:fm:=fun ds st K=>match ds with
 | [.str x]=>x.length≤sizeLine∧K (.int x.length) st
 | [d]=>(match items? st d with|some xs=>K (.int xs.length) st|none=>False)
 |_=>False
theorem Ih:bJ X (.builtin "len") (gz uc):=fun pins s σ H xs us Q I rs ⟨α,ds,st,K,G,F',P,r,S,q,k⟩=>by
 unfold uc at q
 split at q
 · rename_i x
   obtain⟨v,rfl,r1⟩:=ie r rfl
   unfold Rep at r1
   subst r1
   exact v9 pins s σ H _ us Q I rs ⟨x,rfl,q.1,k.here P q.2 S (by unfold Rep;rfl)⟩
 · rename_i d _
   split at q
   · rename_i ys e
     obtain⟨v,rfl,r1⟩:=ie r rfl
     obtain⟨p,vs,rfl,r2,h⟩:=md S r1 e
     refine vf pins s σ H _ us Q I rs ⟨p,vs,rfl,yw P h,k.here P q S (by unfold Rep;rw[r2.length])⟩
   · exact q.elim
 · exact q.elim
noncomputable def Jz(g:Int→Int):fm:=fun ds st K=>match ds with| [.int i]=>K (.int (g i)) st|_=>False
noncomputable abbrev yr:fm:=Jz fun i=>if i<0 then-i else i
theorem Jp:bJ X (.builtin "abs") (gz yr):=bJ.imp Bw fun xs H Q ⟨α,ds,st,K,G,F',P,r,S,q,k⟩=>by
 unfold yr Jz at q
 split at q
 · obtain⟨v,rfl,r1⟩:=ie r rfl
   unfold Rep at r1
   subst r1
   exact⟨_,rfl,k.here P q S (by unfold Rep;rfl)⟩
 · exact q.elim
noncomputable def yX(g:Int→Int→Int):fm:=fun ds st K=>match ds with| [.int i,.int j]=>K (.int (g i j)) st|_=>False
noncomputable abbrev yS:fm:=yX fun i j=>if j>i then j else i
noncomputable abbrev xT:fm:=yX fun i j=>if j<i then j else i
theorem IP(hc:X.calm=true):bJ X (.builtin "max") (gz yS):=bJ.imp (zN hc) fun xs H Q ⟨α,ds,st,K,G,F',P,r,S,q,k⟩=>by
 unfold yS yX at q
 split at q
 · obtain⟨v,u,rfl,r1,r2⟩:=kT r rfl
   unfold Rep at r1 r2
   subst r1 r2
   exact⟨_,_,rfl,k.here P q S (by unfold Rep;rfl)⟩
 · exact q.elim
theorem Jl(hc:X.calm=true):bJ X (.builtin "min") (gz xT):=bJ.imp (Ak hc) fun xs H Q ⟨α,ds,st,K,G,F',P,r,S,q,k⟩=>by
 unfold xT yX at q
 split at q
 · obtain⟨v,u,rfl,r1,r2⟩:=kT r rfl
   unfold Rep at r1 r2
   subst r1 r2
   exact⟨_,_,rfl,k.here P q S (by unfold Rep;rfl)⟩
 · exact q.elim
noncomputable def yi:fm:=fun ds st K=>match ds with| [.int i]=>K (.int i) st| [.bl b]=>K (.int (if b then 1 else 0)) st|_=>False
theorem Je:bJ X (.type "int") (gz yi):=bJ.imp AJ fun xs H Q ⟨α,ds,st,K,G,F',P,r,S,q,k⟩=>by
 unfold yi at q
 split at q
 · obtain⟨v,rfl,r1⟩:=ie r rfl
   unfold Rep at r1
   subst r1
   exact .inl ⟨_,rfl,k.here P q S (by unfold Rep;rfl)⟩
 · obtain⟨v,rfl,r1⟩:=ie r rfl
   unfold Rep at r1
   subst r1
   exact .inr ⟨_,rfl,k.here P q S (by unfold Rep;rfl)⟩
 · exact q.elim
noncomputable def pB:fm:=fun ds st K=>match ds with| [d]=>(match items? st d with|some xs=>K (.tup xs) st|none=>False)|_=>False
theorem Dl:bJ X (.type "tuple") (gz pB):=bJ.imp tR fun xs H Q ⟨α,ds,st,K,G,F',P,r,S,q,k⟩=>by
 unfold pB at q
 split at q
 · rename_i d
   split at q
   · rename_i ys e
     obtain⟨v,rfl,r1⟩:=ie r rfl
     cases d with
     |tup zs=>
      cases e
      have r0:=r1
      unfold Rep at r1
      obtain⟨a,vs,rfl,na,h1,h2⟩:=r1
      exact⟨a,vs,rfl,.inr ⟨.of (P.get h1),k.here P q S r0⟩⟩
     |_=>
      obtain⟨p,vs,rfl,r2,h⟩:=md S r1 e
      refine⟨p,vs,rfl,?_⟩
      rcases h with h|h
      · exact .inl ⟨.inl (gq P h),fun l hl=>k.tup P q S r2 hl⟩
      · first
         |(cases e;done)
         |(exfalso
           unfold items? at e
           simp only at e
           first
            |(split at e
              · rename_i z
                obtain⟨a,ea,vs',h1,h2⟩:=S.gm z
                have e':=dQ ea r1
                cases e'
                rw[h]at h1;cases h1
              · cases e)
            |(unfold Rep at r1
              obtain⟨a,vs',e',_,h1,_⟩:=r1
              cases e'
              rcases h1 with h1|⟨o,h1⟩<;>(rw[h]at h1;cases h1)))
   · exact q.elim
 · exact q.elim
noncomputable def rK:fm:=fun ds st K=>match ds with| [d]=>(match items? st d with|some xs=>K (.lst xs) st|none=>False)|_=>False
theorem FV:bJ X (.type "list") (gz rK):=bJ.imp oC fun xs H Q ⟨α,ds,st,K,G,F',P,r,S,q,k⟩=>by
 unfold rK at q
 split at q
 · split at q
   · rename_i ys e
     obtain⟨v,rfl,r1⟩:=ie r rfl
     obtain⟨p,vs,rfl,r2,h⟩:=md S r1 e
     exact⟨p,vs,rfl,yw P h,fun l hl=>k.lst P q S r2 hl⟩
   · exact q.elim
 · exact q.elim
noncomputable def o6:fm:=fun ds st K=>match ds with| [d]=>(match items? st d with|some xs=>K (.ref st.length) (st++[.lst xs])|none=>False)|_=>False
theorem Ee:bJ X (.type "list") (gz o6):=bJ.imp oC fun xs H Q ⟨α,ds,st,K,G,F',P,r,S,q,k⟩=>by
 unfold o6 at q
 split at q
 · split at q
   · rename_i ys e
     obtain⟨v,rfl,r1⟩:=ie r rfl
     obtain⟨p,vs,rfl,r2,h⟩:=md S r1 e
     exact⟨p,vs,rfl,yw P h,fun l hl=>k.new P q S r2 hl⟩
   · exact q.elim
 · exact q.elim
noncomputable def kF:List D→Option (List Int)
 | []=>some []
 | .int b::r=>(kF r).map (b:: ·)
 |_::_=>none
theorem sU{α:List (Option Addr)}{H:Hp}:∀ {ds:List D} {vs:List V} {bs:List Int},aN α H ds vs→kF ds=some bs→vs=bs.map V.int
 | [],vs,bs,r,e=>by
   unfold aN at r
   cases e
   exact r
 |d::ds,vs,bs,r,e=>by
  unfold aN at r
  obtain⟨v,q,rfl,h1,h2⟩:=r
  cases d<;>try(cases e;done)
  unfold kF at e
  cases z:kF ds with
  |none=>rw[z]at e;cases e
  |some cs=>
   rw[z]at e
   cases e
   unfold Rep at h1
   rw[h1,sU h2 z]
   rfl
end
end L3
namespace L3
open PySem PySem.Spec L2
open PyProof.Rows hiding St
section
variable {X:Cx}
noncomputable def iG(st:ag):D→Option String
 | .aC=>some "NoneType"
 | .bl _=>some "bool"
 | .int _=>some "int"
 | .str _=>some "str"
 | .lst _=>some "list"
 | .tup _=>some "tuple"
 | .ref n=>(match st[n]? with|some (.lst _)=>some "list"|_=>none)
 | .ty _=>none
@[simp] theorem KI(st:ag)(xs:List D):iG st (.lst xs)=some "list":=rfl
@[simp] theorem KQ(st:ag)(xs:List D):iG st (.tup xs)=some "tuple":=rfl
@[simp] theorem ty_int(st:ag)(i:Int):iG st (.int i)=some "int":=rfl
@[simp] theorem K_(st:ag)(i:Bool):iG st (.bl i)=some "bool":=rfl
@[simp] theorem ty_str(st:ag)(i:Str):iG st (.str i)=some "str":=rfl
@[simp] theorem KR(st:ag):iG st .aC=some "NoneType":=rfl
noncomputable def qw(t c:String):Bool:=t==c||(t=="bool"&&c=="int")
theorem uH{α:List (Option Addr)}{H:Hp}{st:ag}{K:PySem.W.Frag}{d:D}{v:V}{t:String}(S:aT α st H)(r:Rep α H d v)(e:iG st d=some t):iM K H v (.type t):=by
 cases d<;>unfold iG at e<;>try(cases e;done)
 · unfold Rep at r;cases e;subst r;exact .aC
 · unfold Rep at r;cases e;subst r;exact .bl _
 · unfold Rep at r;cases e;subst r;exact .int _
 · unfold Rep at r;cases e;subst r;exact .str _
 · simp only at e
   split at e
   · rename_i z
     cases e
     obtain⟨a,ea,vs',h1,h2⟩:=S.gm z
     have r':=dQ ea r
     subst r'
     exact .lst h1
   · cases e
 · cases e
   unfold Rep at r
   obtain⟨a,vs,rfl,na,h1,h2⟩:=r
   rcases h1 with h1|⟨o,h1⟩
   · exact .lst h1
   · exact .gj h1
 · cases e
   unfold Rep at r
   obtain⟨a,vs,rfl,na,h1,h2⟩:=r
   exact .tup h1
theorem xy{G F H:Hp}{K:PySem.W.Frag}(P:bT G F H){x:V}{t:Value}(h:iM K G x t):iM K H x t:=by
 cases h with
 |aC=>exact .aC
 |bl x=>exact .bl x
 |int x=>exact .int x
 |str x=>exact .str x
 |p7 x=>exact .p7 x
 |lst e=>exact .lst (P.get e)
 |gj e=>exact .gj (P.get e)
 |tup e=>exact .tup (P.get e)
 |dK e=>exact .dK (P.get e)
 |dT e=>exact .dT (P.get e)
 |ins e a b c d f=>exact .ins (P.get e) a b c d f
noncomputable def pz:List String:=["NoneType","bool","int","str","list","tuple"]
noncomputable def kW:List String:=["bool","int","str","list","tuple"]
theorem xi(K:PySem.W.Frag){t c:String}(ht:t∈pz)(hc:c∈kW):PySem.W.kitOne K (.type t) (.type c)=some (qw t c):=by
 simp only[pz,kW,List.mem_cons,List.not_mem_nil,or_false]at ht hc
 rcases ht with rfl|rfl|rfl|rfl|rfl|rfl<;>rcases hc with rfl|rfl|rfl|rfl|rfl<;>with_unfolding_all rfl
theorem vw{st:ag}{d:D}{t:String}(e:iG st d=some t):t∈pz:=by
 cases d<;>unfold iG at e<;>first
  |(cases e;done)
  |(cases e;decide)
  |(simp only at e;split at e<;>cases e;decide)
theorem kitx_of{pins:List (Addr×Obj)}{σ:L2.St}{H:Hp}{s:Shared}{x:V}{u:Value}{t:String}(I:Inv X pins σ H s)(rx:RelV x u)(ty:iM X.K H x (.type t)):
 ∃Hh:Heap→Prop,PySem.W.KitX X.K u (.type t) Hh∧Hh s.heap∧u≠ .builtin "__main__.__loader__#opaque":=by
 cases ty with
 |aC=>cases (show u=Value.none from rx);exact⟨_,PySem.W.kitx_none,True.intro,fun z=>nomatch z⟩
 |bl y=>cases (show u=Value.bool y from rx);exact⟨_,PySem.W.kitx_bool,True.intro,fun z=>nomatch z⟩
 |int i=>obtain⟨t,q⟩:=(show∃t,u=Value.int i t from rx);cases q;exact⟨_,PySem.W.kitx_int,True.intro,fun z=>nomatch z⟩
 |str y=>obtain⟨t,q⟩:=(show∃t,u=Value.str y t from rx);cases q;exact⟨_,PySem.W.kitx_str,True.intro,fun z=>nomatch z⟩
 |p7 y=>obtain⟨t,q⟩:=(show∃t,u=Value.float y t from rx);cases q;exact⟨_,PySem.W.kitx_float,True.intro,fun z=>nomatch z⟩
 | @lst a xs ea=>
   cases (show u=Value.ref a from rx)
   obtain⟨_,_,n,_,h1⟩:=(show dm X.prog X.w H s.heap a (.lst xs)from I.aI a _ ea)
   exact⟨_,PySem.W.kitx_list,⟨_,h1,rfl⟩,fun z=>nomatch z⟩
 | @gj a ob xs ea=>
   cases (show u=Value.ref a from rx)
   obtain⟨_,_,_,n,_,h1⟩:=(show dm X.prog X.w H s.heap a (.gj ob (.lst xs))from I.aI a _ ea)
   exact⟨_,PySem.W.kitx_list,⟨_,h1,rfl⟩,fun z=>nomatch z⟩
 | @tup a xs ea=>
   cases (show u=Value.ref a from rx)
   obtain⟨_,_,_,p⟩:=(show dm X.prog X.w H s.heap a (.tup xs)from I.aI a _ ea)
   obtain⟨o,h1,h2,_⟩:=p
   exact⟨_,PySem.W.kitx_tuple,⟨o,h1,h2⟩,fun z=>nomatch z⟩
 | @dK a kvs ea=>
   cases (show u=Value.ref a from rx)
   obtain⟨_,_,vs,_,p⟩:=(show dm X.prog X.w H s.heap a (.dK kvs)from I.aI a _ ea)
   obtain⟨o,es,ep,h1,h2,_⟩:=p
   exact⟨_,PySem.W.kitx_dict,⟨o,h1,h2.1⟩,fun z=>nomatch z⟩
 | @dT a kvs ea=>
   cases (show u=Value.ref a from rx)
   obtain⟨_,_,xs,_,o,es,ep,h1,h2,_⟩:=(show dm X.prog X.w H s.heap a (.dT kvs)from I.aI a _ ea)
   exact⟨_,PySem.W.kitx_dict,⟨o,h1,h2.1⟩,fun z=>nomatch z⟩
noncomputable def mV:List D→Option (List String)
 | []=>some []
 | .ty b::r=>(mV r).map (b:: ·)
 |_::_=>none
theorem vF{α:List (Option Addr)}{H:Hp}:∀ {ds:List D} {vs:List V} {bs:List String},aN α H ds vs→mV ds=some bs→vs=bs.map V.ty
 | [],vs,bs,r,e=>by
   unfold aN at r
   cases e
   exact r
 |d::ds,vs,bs,r,e=>by
  unfold aN at r
  obtain⟨v,q,rfl,h1,h2⟩:=r
  cases d<;>try(cases e;done)
  unfold mV at e
  cases z:mV ds with
  |none=>rw[z]at e;cases e
  |some cs=>
   rw[z]at e
   cases e
   unfold Rep at h1
   rw[h1,vF h2 z]
   rfl
theorem uT:∀ {bs:List String} {us:List Value},Vals (bs.map V.ty) us→us=bs.map Value.type
 | [],_,.nil=>rfl
 |b::bs,_,.cons h t=>by
  have h:_=Value.type b:=h
  rw[h,uT t]
  rfl
theorem w9(K:PySem.W.Frag){t:String}(ht:t∈pz):∀cs:List String,(∀c∈cs,c∈kW)→PySem.W.kitAny K (.type t) (cs.map Value.type)=some (cs.any (qw t))
 | [],_=>rfl
 |c::cs,h=>by
  show(match PySem.W.kitOne K (.type t) (.type c)with|some true=>some true|some false=>PySem.W.kitAny K (.type t) (cs.map Value.type)|none=>none)=_
  rw[xi K ht (h c List.mem_cons_self),List.any_cons]
  cases qw t c with
  |true=>rfl
  |false=>exact w9 K ht cs fun c hc=>h c (List.mem_cons_of_mem _ hc)
noncomputable def ue:fm:=fun ds st K=>match ds with
 | [d,.ty c]=>(match iG st d with|some t=>c∈kW∧K (.bl (qw t c)) st|none=>False)
 | [d,.tup cs]=>(match iG st d,mV cs with|some t,some cl=>(∀c∈cl,c∈kW)∧K (.bl (cl.any (qw t))) st|_,_=>False)
 |_=>False
theorem IH:bJ X (.builtin "isinstance") (gz ue):=fun pins s σ H xs us Q I rs ⟨α,ds,st,K,G,F',P,r,S,q,k⟩=>by
 unfold ue at q
 split at q
 · rename_i d c
   split at q
   · rename_i t e
     obtain⟨v,v2,rfl,r1,r2⟩:=kT r rfl
     obtain⟨u,u2,rfl,ru,ru2⟩:=vals2 rs
     unfold Rep at r2
     subst r2
     cases (show u2=Value.type c from ru2)
     exact Ai I ru (xy P (uH S r1 e)) (xi _ (vw e) q.1) fun tk=>⟨.bl (qw t c),H,I.tok tk,rfl,k.here P q.2 S (by unfold Rep;rfl)⟩
   · exact q.elim
 · rename_i d cs
   split at q
   · rename_i t cl e ec
     obtain⟨v,v2,rfl,r1,r2⟩:=kT r rfl
     obtain⟨u,u2,rfl,ru,ru2⟩:=vals2 rs
     unfold Rep at r2
     obtain⟨a,vs,rfl,na,h1,h2⟩:=r2
     cases (show u2=Value.ref a from ru2)
     have hv:=vF h2 ec
     subst hv
     obtain⟨Hh,Z,hh,hne⟩:=kitx_of I ru (xy P (uH S r1 e))
     obtain⟨its,r',pl,hz⟩:=I.tuple (ir.of (P.get h1))
     have hi:=uT r'
     subst hi
     obtain⟨⟨cls,dd,data,sl⟩,ho,hc,n,hd⟩:=pl
     simp only at hc hd
     subst hc hd
     exact PySem.W.kia_tup Z I.gN hh ho (w9 _ (vw e) cl q.1) hne fun tk=>⟨.bl _,H,I.tok tk,rfl,k.here P q.2 S (by unfold Rep;rfl)⟩
   · exact q.elim
 · exact q.elim
end
end L3
namespace L3
open PySem PySem.Spec L2 PySem.SeqAt
open PyProof.Rows hiding St
mutual
noncomputable def cJ:D→D→Bool
 | .aC,.aC=>true
 | .bl a,.bl b=>a==b
 | .bl a,.int b=>(if a then 1 else 0)==b
 | .int a,.bl b=>a==(if b then 1 else 0)
 | .int a,.int b=>a==b
 | .str a,.str b=>a==b
 | .lst xs,.lst ys=>jW xs ys
 | .tup xs,.tup ys=>jW xs ys
 |_,_=>false
noncomputable def jW:List D→List D→Bool
 | [],[]=>true
 |x::xs,y::ys=>cJ x y&&jW xs ys
 |_,_=>false
end
noncomputable def pl:Nat→D→Bool
 |_,.aC=>true
 |_,.bl _=>true
 |_,.int _=>true
 |_,.str _=>true
 |n+1,.lst xs=>xs.all (pl n)
 |n+1,.tup xs=>xs.all (pl n)
 |_,_=>false
mutual
theorem qo:∀(n:Nat) (d:D),pl n d=true→cJ d d=true
 |_,.aC,_=>rfl
 |_,.bl _,_=>by simp[cJ]
 |_,.int _,_=>by simp[cJ]
 |_,.str _,_=>by simp[cJ]
 |n+1,.lst xs,h=>by unfold cJ;exact ow n xs (by unfold pl at h;exact h)
 |n+1,.tup xs,h=>by unfold cJ;exact ow n xs (by unfold pl at h;exact h)
 |0,.lst xs,h=>by cases h
 |0,.tup xs,h=>by cases h
 |_,.ref _,h=>by unfold pl at h;cases h
 |_,.ty _,h=>by unfold pl at h;cases h
theorem ow:∀(n:Nat) (xs:List D),xs.all (pl n)=true→jW xs xs=true
 |_,[],_=>by unfold jW;rfl
 |n,x::xs,h=>by
  rw[List.all_cons,Bool.and_eq_true]at h
  unfold jW
  rw[qo n x h.1,ow n xs h.2]
  rfl
end
mutual
theorem Rep.inj{α:List (Option Addr)}{H:Hp}:∀ {d e:D} {v:V} (n:Nat),pl n d=true→pl n e=true→Rep α H d v→Rep α H e v→d=e
 | .aC,e,v,n,_,he,h1,h2=>by
   unfold Rep at h1;subst h1
   cases e<;>first|(unfold pl at he;cases he;done)|(unfold Rep at h2;cases h2;rfl)|(unfold Rep at h2;cases h2;done)|(unfold Rep at h2;obtain⟨_,_,h2,_⟩:=h2;cases h2)|rfl|(cases h2;done)|(obtain⟨_,_,h2,_⟩:=h2;cases h2)|(obtain⟨_,_,h2⟩:=h2;cases h2)
 | .bl b,e,v,n,_,he,h1,h2=>by
   unfold Rep at h1;subst h1
   cases e<;>first|(unfold pl at he;cases he;done)|(unfold Rep at h2;cases h2;rfl)|(unfold Rep at h2;cases h2;done)|(unfold Rep at h2;obtain⟨_,_,h2,_⟩:=h2;cases h2)|(cases h2;rfl)|(cases h2;done)|(obtain⟨_,_,h2,_⟩:=h2;cases h2)|(obtain⟨_,_,h2⟩:=h2;cases h2)
 | .int b,e,v,n,_,he,h1,h2=>by
   unfold Rep at h1;subst h1
   cases e<;>first|(unfold pl at he;cases he;done)|(unfold Rep at h2;cases h2;rfl)|(unfold Rep at h2;cases h2;done)|(unfold Rep at h2;obtain⟨_,_,h2,_⟩:=h2;cases h2)|(cases h2;rfl)|(cases h2;done)|(obtain⟨_,_,h2,_⟩:=h2;cases h2)|(obtain⟨_,_,h2⟩:=h2;cases h2)
 | .str b,e,v,n,_,he,h1,h2=>by
   unfold Rep at h1;subst h1
   cases e<;>first|(unfold pl at he;cases he;done)|(unfold Rep at h2;cases h2;rfl)|(unfold Rep at h2;cases h2;done)|(unfold Rep at h2;obtain⟨_,_,h2,_⟩:=h2;cases h2)|(cases h2;rfl)|(cases h2;done)|(obtain⟨_,_,h2,_⟩:=h2;cases h2)|(obtain⟨_,_,h2⟩:=h2;cases h2)
 | .ty b,e,v,n,hd,he,h1,h2=>by unfold pl at hd;cases hd
 | .ref b,e,v,n,hd,he,h1,h2=>by unfold pl at hd;cases hd
 | .lst xs,e,v,0,hd,he,h1,h2=>by cases hd
 | .tup xs,e,v,0,hd,he,h1,h2=>by cases hd
 | .lst xs,e,v,n+1,hd,he,h1,h2=>by
   unfold Rep at h1
   obtain⟨a,vs,rfl,na,ha,ra⟩:=h1
   cases e<;>unfold Rep at h2<;>try(cases h2;done)
   · unfold pl at he;cases he
   · obtain⟨a',vs',e',na',ha',ra'⟩:=h2
     cases e'
     have:vs=vs':=by
      rcases ha with ha|⟨o,ha⟩<;>rcases ha' with ha'|⟨o',ha'⟩<;>(rw[ha]at ha';first|(cases ha';rfl)|(cases ha';done))
     subst this
     rw[aN.inj n (by unfold pl at hd;exact hd) (by unfold pl at he;exact he) ra ra']
   · obtain⟨a',vs',e',na',ha',ra'⟩:=h2
     cases e'
     rcases ha with ha|⟨o,ha⟩<;>(rw[ha]at ha';cases ha')
 | .tup xs,e,v,n+1,hd,he,h1,h2=>by
   unfold Rep at h1
   obtain⟨a,vs,rfl,na,ha,ra⟩:=h1
   cases e<;>unfold Rep at h2<;>try(cases h2;done)
   · unfold pl at he;cases he
   · obtain⟨a',vs',e',na',ha',ra'⟩:=h2
     cases e'
     rcases ha' with ha'|⟨o,ha'⟩<;>(rw[ha]at ha';cases ha')
   · obtain⟨a',vs',e',na',ha',ra'⟩:=h2
     cases e'
     rw[ha]at ha'
     cases ha'
     rw[aN.inj n (by unfold pl at hd;exact hd) (by unfold pl at he;exact he) ra ra']
theorem aN.inj{α:List (Option Addr)}{H:Hp}:∀ {ds es:List D} {vs:List V} (n:Nat),ds.all (pl n)=true→es.all (pl n)=true→aN α H ds vs→aN α H es vs→ds=es
 | [],es,vs,n,_,_,h1,h2=>by
   unfold aN at h1
   subst h1
   cases es with
   |nil=>rfl
   |cons e es=>unfold aN at h2;obtain⟨_,_,h,_⟩:=h2;cases h
 |d::ds,es,vs,n,hd,he,h1,h2=>by
  unfold aN at h1
  obtain⟨v,r,rfl,r1,r2⟩:=h1
  cases es with
  |nil=>unfold aN at h2;cases h2
  |cons e es=>
   unfold aN at h2
   obtain⟨v',r',h,q1,q2⟩:=h2
   cases h
   rw[List.all_cons,Bool.and_eq_true]at hd he
   rw[Rep.inj n hd.1 he.1 r1 q1,aN.inj n hd.2 he.2 r2 q2]
end
theorem lG:∀ {xs ys:List D},xs.length≠ys.length→jW xs ys=false
 | [],[],h=>absurd rfl h
 | [],_::_,_=>by unfold jW;rfl
 |_::_,[],_=>by unfold jW;rfl
 |x::xs,y::ys,h=>by
  unfold jW
  rw[lG (by simpa using h),Bool.and_false]
theorem lH:∀ {xs ys:List D},xs.length=ys.length→jW xs ys=(List.range xs.length).all fun j=>cJ (xs.getD j .aC) (ys.getD j .aC)
 | [],[],_=>by unfold jW;rfl
 | [],_::_,h=>by cases h
 |_::_,[],h=>by cases h
 |x::xs,y::ys,h=>by
  unfold jW
  rw[List.length_cons,List.range_succ_eq_map,List.all_cons,List.all_map,lH (by simpa using h)]
  rfl
section
variable {X:Cx}{pins:List (Addr×Obj)}{σ:L2.St}{H:Hp}{s:Shared}{α:List (Option Addr)}
theorem jf{xs:List D}{vs:List V}{its:List Value}(r:aN α H xs vs)(v:Vals vs its)(j:Nat)(hj:j<its.length):∃x,xs[j]?=some (xs.getD j .aC)∧Rep α H (xs.getD j .aC) x∧RelV x its[j]:=by
 have h1:=r.length
 have h2:=v.length
 have hx:j<xs.length:=by(first|lia|omega)
 have e:xs[j]?=some (xs.getD j .aC):=by rw[List.getElem?_eq_getElem hx,List.getD_eq_getElem?_getD,List.getElem?_eq_getElem hx];rfl
 obtain⟨x,q,rr⟩:=r.get e
 obtain⟨u,q2,rv⟩:=v.get q
 rw[List.getElem?_eq_getElem hj]at q2
 cases q2
 exact⟨x,e,rr,rv⟩
theorem ik{xs:List D}{n:Nat}(h:xs.all (pl n)=true)(j:Nat):pl n (xs.getD j .aC)=true:=by
 rw[List.getD_eq_getElem?_getD]
 cases e:xs[j]? with
 |none=>cases n<;>rfl
 |some d=>exact List.all_eq_true.mp h d (List.mem_of_getElem? e)
noncomputable def sQ:D→Bool
 | .aC=>true
 | .bl _=>true
 | .int _=>true
 | .str _=>true
 |_=>false
theorem wW{A:Around}{d e:D}{x y:V}{u v:Value}(hd:sQ d=true)(he:sQ e=true)(rd:Rep α H d x)(re:Rep α H e y)(rx:RelV x u)(ry:RelV y v):RcAt A s u v (cJ d e)∧EqAt A s u v (cJ d e):=by
 cases d<;>cases e<;>try(first|(cases hd;done)|(cases he;done))
 all_goals(unfold Rep at rd re;subst rd re)
 all_goals(first|(obtain⟨t,rfl⟩:=rx;obtain⟨t',rfl⟩:=ry)|(obtain⟨t,rfl⟩:=rx;cases ry)|(cases rx;obtain⟨t,rfl⟩:=ry)|(cases rx;cases ry))
 all_goals unfold cJ
 · exact⟨RcAt.none_none,EqAt.same _⟩
 · exact⟨RcAt.none_bool _,EqAt.none_bool _⟩
 · exact⟨RcAt.none_int _ _,EqAt.none_int _ _⟩
 · exact⟨RcAt.none_str _ _,EqAt.none_str _ _⟩
 · exact⟨RcAt.bool_none _,EqAt.bool_none _⟩
 · exact⟨RcAt.bool_bool _ _,EqAt.bool_bool _ _⟩
 · exact⟨RcAt.bool_int _ _ _,EqAt.bool_int _ _ _⟩
 · exact⟨RcAt.bool_str _ _ _,EqAt.bool_str _ _ _⟩
 · exact⟨RcAt.int_none _ _,EqAt.int_none _ _⟩
 · exact⟨RcAt.int_bool _ _ _,EqAt.int_bool _ _ _⟩
 · exact⟨RcAt.int_int _ _ _ _,EqAt.int_int _ _ _ _⟩
 · exact⟨RcAt.int_str _ _ _ _,EqAt.int_str _ _ _ _⟩
 · exact⟨RcAt.str_none _ _,EqAt.str_none _ _⟩
 · exact⟨RcAt.str_bool _ _ _,EqAt.str_bool _ _ _⟩
 · exact⟨RcAt.str_int _ _ _ _,EqAt.str_int _ _ _ _⟩
 · exact⟨RcAt.str_str _ _ _ _,EqAt.str_str _ _ _ _⟩
theorem lst_is(I:Inv X pins σ H s){xs:List D}{x:V}{u:Value}(r:Rep α H (.lst xs) x)(rx:RelV x u):∃a vs its,u= .ref a∧aN α H xs vs∧Vals vs its∧s.heap.IsList a its.toArray:=by
 unfold Rep at r
 obtain⟨a,vs,rfl,na,ha,ra⟩:=r
 cases rx
 obtain⟨z,its,n,rv,hl,eo⟩:=Inv.yk I ha
 exact⟨a,vs,its,rfl,ra,rv,⟨_,eo,rfl,n,rfl⟩⟩
theorem tup_is(I:Inv X pins σ H s){xs:List D}{x:V}{u:Value}(r:Rep α H (.tup xs) x)(rx:RelV x u):∃a vs its,u= .ref a∧aN α H xs vs∧Vals vs its∧s.heap.IsTuple a its.toArray:=by
 unfold Rep at r
 obtain⟨a,vs,rfl,na,ha,ra⟩:=r
 cases rx
 obtain⟨its,r',p,hz⟩:=I.tuple (ir.of ha)
 exact⟨a,vs,its,rfl,ra,r',p⟩
theorem sN(I:Inv X pins σ H s){A:Around}{xs:List D}{e:D}{x y:V}{u v:Value}(he:sQ e=true)(rd:Rep α H (.lst xs) x)(re:Rep α H e y)(rx:RelV x u)(ry:RelV y v)(hu:A.units<cLine):
 (RcAt A s u v (cJ (.lst xs) e)∧EqAt A s u v (cJ (.lst xs) e))∧RcAt A s v u (cJ e (.lst xs))∧EqAt A s v u (cJ e (.lst xs)):=by
 obtain⟨a,vs,its,rfl,_,_,hl⟩:=lst_is I rd rx
 cases e<;>try(cases he;done)
 all_goals(unfold Rep at re;subst re)
 all_goals(first|(obtain⟨t,rfl⟩:=ry)|(cases ry))
 all_goals unfold cJ
 · exact⟨⟨RcAt.list_none hl hu,EqAt.list_none hl hu⟩,RcAt.none_list hl hu,EqAt.none_list hl hu⟩
 · exact⟨⟨RcAt.list_bool _ hl hu,EqAt.list_bool _ hl hu⟩,RcAt.bool_list _ hl hu,EqAt.bool_list _ hl hu⟩
 · exact⟨⟨RcAt.list_int _ _ hl hu,EqAt.list_int _ _ hl hu⟩,RcAt.int_list _ _ hl hu,EqAt.int_list _ _ hl hu⟩
 · exact⟨⟨RcAt.list_str _ _ hl hu,EqAt.list_str _ _ hl hu⟩,RcAt.str_list _ _ hl hu,EqAt.str_list _ _ hl hu⟩
theorem sP(I:Inv X pins σ H s){A:Around}{xs:List D}{e:D}{x y:V}{u v:Value}(he:sQ e=true)(rd:Rep α H (.tup xs) x)(re:Rep α H e y)(rx:RelV x u)(ry:RelV y v)(hu:A.units<cLine):
 (RcAt A s u v (cJ (.tup xs) e)∧EqAt A s u v (cJ (.tup xs) e))∧RcAt A s v u (cJ e (.tup xs))∧EqAt A s v u (cJ e (.tup xs)):=by
 obtain⟨a,vs,its,rfl,_,_,hl⟩:=tup_is I rd rx
 cases e<;>try(cases he;done)
 all_goals(unfold Rep at re;subst re)
 all_goals(first|(obtain⟨t,rfl⟩:=ry)|(cases ry))
 all_goals unfold cJ
 · exact⟨⟨RcAt.tuple_none hl hu,EqAt.tuple_none hl hu⟩,RcAt.none_tuple hl hu,EqAt.none_tuple hl hu⟩
 · exact⟨⟨RcAt.tuple_bool _ hl hu,EqAt.tuple_bool _ hl hu⟩,RcAt.bool_tuple _ hl hu,EqAt.bool_tuple _ hl hu⟩
 · exact⟨⟨RcAt.tuple_int _ _ hl hu,EqAt.tuple_int _ _ hl hu⟩,RcAt.int_tuple _ _ hl hu,EqAt.int_tuple _ _ hl hu⟩
 · exact⟨⟨RcAt.tuple_str _ _ hl hu,EqAt.tuple_str _ _ hl hu⟩,RcAt.str_tuple _ _ hl hu,EqAt.str_tuple _ _ hl hu⟩
theorem xg{A:Around}{n:Nat}{d e:D}{x y:V}{a b:Addr}(hd:pl n d=true)(he:pl n e=true)(rd:Rep α H d x)(re:Rep α H e y)(rx:RelV x (.ref a))(ry:RelV y (.ref b))(h:RcAt A s (.ref a) (.ref b) (cJ d e)):
 RcAt A s (.ref a) (.ref b) (cJ d e)∧EqAt A s (.ref a) (.ref b) (cJ d e):=by
 refine⟨h,?_⟩
 by_cases hab:a=b
 · subst hab
   have hx:x=y:=RelV.inj rx ry
   subst hx
   have:=Rep.inj n hd he rd re
   subst this
   rw[qo n d hd]
   exact EqAt.same _
 · exact EqAt.of_refs hab h
theorem xX(I:Inv X pins σ H s):∀(n:Nat) (A:Around) (d e:D) (x y:V) (u v:Value),pl n d=true→pl n e=true→Rep α H d x→Rep α H e y→RelV x u→RelV y v→A.units+n<cLine→
 RcAt A s u v (cJ d e)∧EqAt A s u v (cJ d e):=by
 intro n
 induction n with
 |zero=>
  intro A d e x y u v hd he rd re rx ry hu
  refine wW ?_ ?_ rd re rx ry
  · cases d<;>first|rfl|(cases hd)
  · cases e<;>first|rfl|(cases he)
 |succ n ih=>
  intro A d e x y u v hd he rd re rx ry hu
  have hu0:A.units<cLine:=by(first|lia|omega)
  have hin:A.in1.units+n<cLine:=by rw[Around.in1_units];(first|lia|omega)
  cases d<;>try(cases hd;done)
  case lst xs=>
   cases e<;>try(cases he;done)
   case lst ys=>
    have rd0:=rd
    have re0:=re
    have rx0:=rx
    have ry0:=ry
    obtain⟨a,vs,its,rfl,r1,v1,l1⟩:=lst_is I rd rx
    obtain⟨b,ws,jts,rfl,r2,v2,l2⟩:=lst_is I re ry
    have e1:=r1.length
    have e2:=v1.length
    have e3:=r2.length
    have e4:=v2.length
    refine xg hd he rd0 re0 rx0 ry0 ?_
    unfold cJ
    by_cases hlen:xs.length=ys.length
    · rw[lH hlen]
      have hsz:its.toArray.size=jts.toArray.size:=by simp only[List.size_toArray];(first|lia|omega)
      have hx:xs.length=its.toArray.size:=by simp only[List.size_toArray];(first|lia|omega)
      rw[hx]
      refine RcAt.lists l1 l2 hsz hu0 fun j h1 h2=>?_
      have h1':j<its.length:=by simpa using h1
      have h2':j<jts.length:=by simpa using h2
      obtain⟨p,_,q1,q2⟩:=jf r1 v1 j h1'
      obtain⟨p',_,q1',q2'⟩:=jf r2 v2 j h2'
      exact(ih A.in1 _ _ p p' _ _ (ik (by unfold pl at hd;exact hd) j) (ik (by unfold pl at he;exact he) j) q1 q1' (by simpa using q2) (by simpa using q2') hin).2
    · rw[lG hlen]
      exact RcAt.lists_lengths l1 l2 (by simp only[List.size_toArray,bne_iff_ne,ne_eq];(first|lia|omega)) hu0
   case tup ys=>
    obtain⟨a,vs,its,rfl,r1,v1,l1⟩:=lst_is I rd rx
    obtain⟨b,ws,jts,rfl,r2,v2,l2⟩:=tup_is I re ry
    unfold cJ
    exact⟨RcAt.list_tuple l1 l2 hu0,EqAt.list_tuple l1 l2 hu0⟩
   all_goals exact(sN I rfl rd re rx ry hu0).1
  case tup xs=>
   cases e<;>try(cases he;done)
   case tup ys=>
    have rd0:=rd
    have re0:=re
    have rx0:=rx
    have ry0:=ry
    obtain⟨a,vs,its,rfl,r1,v1,l1⟩:=tup_is I rd rx
    obtain⟨b,ws,jts,rfl,r2,v2,l2⟩:=tup_is I re ry
    have e1:=r1.length
    have e2:=v1.length
    have e3:=r2.length
    have e4:=v2.length
    refine xg hd he rd0 re0 rx0 ry0 ?_
    unfold cJ
    have key:=RcAt.tuples (e:=fun j=>cJ (xs.getD j .aC) (ys.getD j .aC)) l1 l2 hu0 fun j h1 h2=>by
     have h1':j<its.length:=by simpa using h1
     have h2':j<jts.length:=by simpa using h2
     obtain⟨p,_,q1,q2⟩:=jf r1 v1 j h1'
     obtain⟨p',_,q1',q2'⟩:=jf r2 v2 j h2'
     exact(ih A.in1 _ _ p p' _ _ (ik (by unfold pl at hd;exact hd) j) (ik (by unfold pl at he;exact he) j) q1 q1' (by simpa using q2) (by simpa using q2') hin).2
    by_cases hlen:xs.length=ys.length
    · rw[lH hlen]
      have hsz:its.toArray.size=jts.toArray.size:=by simp only[List.size_toArray];(first|lia|omega)
      have hx:xs.length=its.toArray.size:=by simp only[List.size_toArray];(first|lia|omega)
      rw[hsz,Nat.min_self,beq_self_eq_true,Bool.and_true,←hsz,←hx]at key
      exact key
    · rw[lG hlen]
      have hne:(its.toArray.size==jts.toArray.size)=false:=by simp only[List.size_toArray,beq_eq_false_iff_ne,ne_eq];(first|lia|omega)
      rw[hne,Bool.and_false]at key
      exact key
   case lst ys=>
    obtain⟨a,vs,its,rfl,r1,v1,l1⟩:=tup_is I rd rx
    obtain⟨b,ws,jts,rfl,r2,v2,l2⟩:=lst_is I re ry
    unfold cJ
    exact⟨RcAt.tuple_list l1 l2 hu0,EqAt.tuple_list l1 l2 hu0⟩
   all_goals exact(sP I rfl rd re rx ry hu0).1
  all_goals
   cases e<;>try(cases he;done)
   case lst ys=>exact(sN I rfl re rd ry rx hu0).2
   case tup ys=>exact(sP I rfl re rd ry rx hu0).2
   all_goals exact wW rfl rfl rd re rx ry
noncomputable def GQ:dh:=fun x y st K=>pl 40 x=true∧pl 40 y=true∧K (.bl (cJ x y)) st
theorem Kr{k:Nat}(hr:cK k X.A):bW X (compareOp .Eq) (LR GQ):=fun pins s σ H x y v u Q I rx ry ⟨α,d,e,st,K,G,F',P,r1,r2,S,q,k⟩=>by
 have hu:=hr.units
 exact(xX I 40 X.A d e x y v u q.1 q.2.1 (r1.mono P.same) (r2.mono P.same) rx ry (by(first|lia|omega))).1 _ _ _ _ ⟨.bl (cJ d e),H,I,rfl,k.here P q.2.2 S (by unfold Rep;rfl)⟩
noncomputable def Fj:dh:=fun x y st K=>match x,y with
 | .int i,.int j=>K (.bl (!decide (i=j))) st
 | .bl i,.bl j=>K (.bl (!decide (i=j))) st
 | .str i,.str j=>K (.bl (!decide (i=j))) st
 |_,_=>False
theorem Ku:bW X (compareOp .NotEq) (LR Fj):=bW.imp Jh fun x y H Q ⟨α,d,e,st,K,G,F',P,r1,r2,S,q,k⟩=>by
 cases d<;>cases e<;>try exact q.elim
 all_goals(unfold Rep at r1 r2;subst r1 r2)
 · exact⟨rfl,k.here P q S (by unfold Rep;congr 2;exact decide_eq_decide.mpr ⟨fun h=>by cases h;rfl,fun h=>by rw[h]⟩)⟩
 · exact⟨rfl,k.here P q S (by unfold Rep;congr 2;exact decide_eq_decide.mpr ⟨fun h=>by cases h;rfl,fun h=>by rw[h]⟩)⟩
 · exact⟨rfl,k.here P q S (by unfold Rep;congr 2;exact decide_eq_decide.mpr ⟨fun h=>by cases h;rfl,fun h=>by rw[h]⟩)⟩
end
end L3
namespace L3
open PySem PySem.Spec L2
open PyProof.Rows hiding St
noncomputable def LC(α:List (Option Addr))(G F:Hp)(K:bG→ag→Prop)(Q:L2.St→Hp→Prop):Prop:=∀σd' st',K σd' st'→∀α' G' H' σ',Step α G α' G'→bT G' F H'→dN α' G' σd' σ'→aT α' st' G'→Q σ' H'
structure uh(α:List (Option Addr))(G F:Hp)(DD:jq)(D:Ends):Prop where
 nx:LC α G F DD.nx D.nx
 rt:LK α G F DD.rt D.rt
 bk:LC α G F DD.bk D.bk
 ct:LC α G F DD.ct D.ct
inductive JR(t:DS)(D:Ends)(σ:L2.St)(H:Hp):Prop
 |mk (α:List (Option Addr)) (σd:bG) (st:ag) (DD:jq) (G F:Hp) (P:bT G F H) (R:dN α G σd σ) (S:aT α st G) (h:t DD σd st) (k:uh α G F DD D):JR t D σ H
noncomputable def LS(t:DS):TS:=JR t
theorem LC.at{α α1:List (Option Addr)}{G F G1:Hp}{K:bG→ag→Prop}{Q:L2.St→Hp→Prop}(h:LC α G F K Q)(s:Step α G α1 G1):LC α1 G1 F K Q:=fun d st' k α' G' H' v s' P R S=>h d st' k α' G' H' v (s.trans s') P R S
theorem LC.here{α:List (Option Addr)}{G F H:Hp}{K:bG→ag→Prop}{Q:L2.St→Hp→Prop}(h:LC α G F K Q)(P:bT G F H){σd:bG}{st:ag}{σ:L2.St}(k:K σd st)(R:dN α G σd σ)(S:aT α st G):Q σ H:=h σd st k α G H σ Step.refl P R S
theorem uh.at{α α1:List (Option Addr)}{G F G1:Hp}{DD:jq}{D:Ends}(h:uh α G F DD D)(s:Step α G α1 G1):uh α1 G1 F DD D:=⟨h.nx.at s,h.rt.at s,h.bk.at s,h.ct.at s⟩
section
variable {X:Cx}{a b c e o i:Expr}{es:List Expr}{ta tb tc te:DE}{pos:Pos}{st:Stmt}{sts:List Stmt}{t u:DS}
theorem PS.imp{t t':TS}(h:PS X st t)(f:∀D σ H,t' D σ H→t D σ H):PS X st t':=fun pins s σ H D I q=>h pins s σ H D I (f D σ H q)
theorem gM.imp{t t':TS}(h:gM X sts t)(f:∀D σ H,t' D σ H→t D σ H):gM X sts t':=fun pins s σ H D I q=>h pins s σ H D I (f D σ H q)
noncomputable def eM:DS:=fun D σ st=>D.nx σ st
noncomputable def aG(t u:DS):DS:=fun D σ st=>t {D with nx:=u D} σ st
theorem EI:gM X [] (LS eM):=gM.imp DR fun D σ H ⟨α,σd,st,DD,G,F,P,R,S,t,k⟩=>k.nx.here P t R S
theorem EK(h:PS X st (LS t)):gM X [st] (LS t):=Eg h
theorem Ca(h:PS X st (LS t))(h2:gM X sts (LS u)):gM X (st::sts) (LS (aG t u)):=gM.imp (BC h h2) fun D σ H ⟨α,σd,st,DD,G,F,P,R,S,t,k⟩=>
 ⟨α,σd,st,_,G,F,P,R,S,t,fun σd' st' q α' G' H' σ' s' P' R' S'=>⟨α',σd',st',DD,G',F,P',R',S',q,k.at s'⟩,k.rt,k.bk,k.ct⟩
noncomputable def cv(te:DE):DS:=fun D σ st=>te σ st D.rt
theorem HK(h:PE X e (LE te)):PS X (.Return (some e) pos) (LS (cv te)):=PS.imp (FW h) fun D σ H ⟨α,σd,st,DD,G,F,P,R,S,t,k⟩=>⟨α,σd,st,_,G,F,P,R,S,t,k.rt⟩
noncomputable def jx(te:DE):DS:=fun D σ st=>te σ st fun _ st1=>D.nx σ st1
theorem EB(h:PE X e (LE te))(hs:swapsWith e none pos.line X.env=pure false:=by rfl):PS X (.Expr e pos) (LS (jx te)):=PS.imp (DL h hs) fun D σ H ⟨α,σd,st,DD,G,F,P,R,S,t,k⟩=>
 ⟨α,σd,st,_,G,F,P,R,S,t,fun d st1 q α1 G1 H1 v s1 P1 S1 r1=>(k.nx.at s1).here P1 q (R.step s1) S1⟩
noncomputable def fG(c:DT)(t u:DS):DS:=fun D σ st=>c σ st fun b st1=>if b=true then t D σ st1 else u D σ st1
theorem IC{x y:List Stmt}{tc:DT}(hc:PT X c (LT tc))(ha:gM X x (LS t))(hb:gM X y (LS u)):PS X (.If c x y pos) (LS (fG tc t u)):=PS.imp (Ie hc ha hb) fun D σ H ⟨α,σd,st,DD,G,F,P,R,S,t,k⟩=>by
 refine⟨α,σd,st,_,G,F,P,R,S,t,fun b st1 q α1 G1 H1 s1 P1 S1=>?_⟩
 cases b with
 |true=>exact⟨α1,σd,st1,DD,G1,F,P1,R.step s1,S1,q,k.at s1⟩
 |false=>exact⟨α1,σd,st1,DD,G1,F,P1,R.step s1,S1,q,k.at s1⟩
noncomputable abbrev eZ:=D→bG→Option bG
noncomputable def bE(i:Nat):eZ:=fun d σ=>some (σ.set i (some d))
noncomputable def iE(i j:Nat):eZ:=fun d σ=>match d with| .tup [x,y]=>some ((σ.set i (some x)).set j (some y))|_=>none
inductive Js(t:eZ)(v:V)(σ:L2.St)(H:Hp)(Q:L2.St→Hp→Prop):Prop
 |mk (α:List (Option Addr)) (σd:bG) (st:ag) (d:D) (K:bG→ag→Prop) (G F:Hp) (P:bT G F H) (R:dN α G σd σ) (S:aT α st G) (r:Rep α G d v) (h:∃σ',t d σd=some σ'∧K σ' st) (k:LC α G F K Q):Js t v σ H Q
noncomputable def LG(t:eZ):TG:=Js t
theorem PG.imp{tg:Expr}{t t':TG}(h:PG X tg t)(f:∀v σ H Q,t' v σ H Q→t v σ H Q):PG X tg t':=fun pins s σ H v u Q I r q=>h pins s σ H v u Q I r (f v σ H Q q)
theorem DP{tg:Expr}{i:Nat}(h:PG X tg (jZ i)):PG X tg (LG (bE i)):=PG.imp h fun v σ H Q ⟨α,σd,st,d,K,G,F,P,R,S,r,⟨σ',e,q⟩,k⟩=>by
 cases e
 exact k.here P q (R.set i r) S
theorem GH{tg:Expr}{i j:Nat}(h:PG X tg (Fb X.K 2 (qK (jZ i) (qK (jZ j) Bv)))):PG X tg (LG (iE i j)):=PG.imp h fun v σ H Q ⟨α,σd,st,d,K,G,F,P,R,S,r,⟨σ',e,q⟩,k⟩=>by
 unfold iE at e
 split at e
 · rename_i x y
   cases e
   unfold Rep at r
   obtain⟨a,vs,rfl,na,h1,h2⟩:=r
   obtain⟨v1,v2,rfl,r1,r2⟩:=kT h2 rfl
   exact⟨a,_,rfl,.of (P.get h1),rfl,v1,_,rfl,v2,_,rfl,rfl,k.here P q ((R.set i r1).set j r2) S⟩
 · cases e
noncomputable def bf(i:Nat)(te:DE):DS:=fun D σ st=>te σ st fun d st1=>D.nx (σ.set i (some d)) st1
theorem zR{i:Nat}(h:PS X st (jV (LE te) (jZ i))):PS X st (LS (bf i te)):=PS.imp h fun D σ H ⟨α,σd,st,DD,G,F,P,R,S,t,k⟩=>
 ⟨α,σd,st,_,G,F,P,R,S,t,fun d st1 q α1 G1 H1 v s1 P1 S1 r1=>(k.nx.at s1).here P1 q ((R.step s1).set i r1) S1⟩
noncomputable def AS(tg:eZ)(te:DE):DS:=fun D σ st=>te σ st fun d st1=>∃σ',tg d σ=some σ'∧D.nx σ' st1
theorem Hw{tg:eZ}(h:PS X st (jV (LE te) (LG tg))):PS X st (LS (AS tg te)):=PS.imp h fun D σ H ⟨α,σd,st,DD,G,F,P,R,S,t,k⟩=>
 ⟨α,σd,st,_,G,F,P,R,S,t,fun d st1 q α1 G1 H1 v s1 P1 S1 r1=>⟨α1,σd,st1,d,DD.nx,G1,F,P1,R.step s1,S1,r1,q,k.nx.at s1⟩⟩
noncomputable def va(i j:Nat)(ta:DA):DS:=fun D σ st=>ta σ st fun ds st1=>match ds with| [x,y]=>D.nx ((σ.set i (some x)).set j (some y)) st1|_=>False
theorem He{i j:Nat}{ta:DA}(h:PS X st (GW i j (LA ta))):PS X st (LS (va i j ta)):=PS.imp h fun D σ H ⟨α,σd,st,DD,G,F,P,R,S,t,k⟩=>by
 refine⟨α,σd,st,_,G,F,P,R,S,t,fun ds st1 q α1 G1 H1 vs s1 P1 S1 r1=>?_⟩
 match ds,q,r1 with
 | [x,y],q,r1=>
   obtain⟨v1,v2,rfl,q1,q2⟩:=kT r1 rfl
   exact⟨v1,v2,rfl,(k.nx.at s1).here P1 q (((R.step s1).set i q1).set j q2) S1⟩
noncomputable def yG(i:Nat)(r:dh)(te:DE):DS:=fun D σ st=>match σ[i]? with|some (some x)=>te σ st fun y st1=>r x y st1 fun z st2=>D.nx (σ.set i (some z)) st2|_=>False
noncomputable def vI(f:Int→Int→Int):dh:=fun x y st K=>match x,y with| .int i,.int j=>K (.int (f i j)) st|_,_=>False
theorem HC{i:Nat}{f:Int→Int→Int}(h:PS X st (Ge i (LE te) (Gx f))):PS X st (LS (yG i (vI f) te)):=PS.imp h fun D σ H ⟨α,σd,st,DD,G,F,P,R,S,t,k⟩=>by
 unfold yG at t
 split at t
 · rename_i x e
   obtain⟨v,ev,rv⟩:=R.at' i x e
   refine⟨v,ev,α,σd,st,_,G,F,P,R,S,t,fun y st1 q α1 G1 H1 w s1 P1 S1 r1=>?_⟩
   cases x<;>cases y<;>try exact q.elim
   have rv':=rv
   unfold Rep at rv r1
   exact⟨_,_,rv,r1,(k.nx.at s1).here P1 q ((R.step s1).set i (by unfold Rep;rfl)) S1⟩
 · exact t.elim
noncomputable def wb(x y d:D)(st:ag)(K:ag→Prop):Prop:=match x,y with
 | .ref n,.int k=>(match st[n]? with
   |some (.lst xs)=>(match jK xs.length k with|some j=>K (st.set n (.lst (xs.set j d)))|none=>False)
   |_=>False)
 |_,_=>False
noncomputable def HE(to ti te:DE):DS:=fun D σ st=>te σ st fun d st1=>to σ st1 fun x st2=>ti σ st2 fun y st3=>wb x y d st3 fun st4=>D.nx σ st4
theorem Bq{to ti:DE}(h:PS X st (jV (LE te) (sE (LE to) (LE ti) o8))):PS X st (LS (HE to ti te)):=PS.imp h fun D σ H ⟨α,σd,st,DD,G,F,P,R,S,t,k⟩=>by
 refine⟨α,σd,st,_,G,F,P,R,S,t,fun d st1 q α1 G1 H1 v s1 P1 S1 r1=>?_⟩
 refine⟨α1,σd,st1,_,G1,F,P1,R.step s1,S1,q,fun x st2 q2 α2 G2 H2 v2 s2 P2 S2 r2=>?_⟩
 refine⟨α2,σd,st2,_,G2,F,P2,(R.step s1).step s2,S2,q2,fun y st3 q3 α3 G3 H3 v3 s3 P3 S3 r3=>?_⟩
 cases x<;>cases y<;>try exact q3.elim
 rename_i n kk
 unfold wb at q3
 simp only at q3
 split at q3
 · rename_i xs e
   split at q3
   · rename_i j ej
     obtain⟨p,ep,vs,hv,rv⟩:=S3.gm e
     have r2':=dQ ep (r2.step s3)
     subst r2'
     unfold Rep at r3
     have hm:some p∈α3:=List.mem_of_getElem? ep
     have rd:=(r1.step s2).step s3
     refine⟨p,vs,kk,j,rfl,r3,P3.get hv,by rw[←rv.length];exact ej,?_⟩
     refine(((k.nx.at s1).at s2).at s3) σd _ q3 α3 (upd G3 p (.lst (vs.set j v))) _ σ (Step.write hm) (P3.write hv) ((((R.step s1).step s2).step s3).step (Step.write hm)) ?_
     exact S3.write ep ⟨vs.set j v,aV,(aU.mpr (m9 rd j (aU.mp rv))).step (Step.write hm)⟩
   · exact q3.elim
 · exact q3.elim
noncomputable def oi(c:DT)(tb:DS):DS:=fun D σ st=>∃W:Nat→bG→ag→Prop,(∃m,W m σ st)∧∀m σ st,W m σ st→
 c σ st fun b st1=>if b=true then tb {D with nx:=fun σ' st'=>∃m',m'<m∧W m' σ' st',ct:=fun σ' st'=>∃m',m'<m∧W m' σ' st',bk:=D.nx} σ st1 else D.nx σ st1
theorem Bh{tc:DT}(h:PS X st (zZ (LT tc) (LS t))):PS X st (LS (oi tc t)):=PS.imp h fun D σ H ⟨α,σd,st,DD,G,F,P,R,S,⟨W,⟨m0,w0⟩,turn⟩,k⟩=>by
 refine⟨fun m σ' H'=>∃α' σd' st' G',Step α G α' G'∧bT G' F H'∧dN α' G' σd' σ'∧aT α' st' G'∧W m σd' st',⟨m0,α,σd,st,G,Step.refl,P,R,S,w0⟩,?_⟩
 rintro m σ1 H1 ⟨α1,σd1,st1,G1,s1,P1,R1,S1,w1⟩
 refine⟨α1,σd1,st1,_,G1,F,P1,R1,S1,turn m σd1 st1 w1,fun b st2 q α2 G2 H2 s2 P2 S2=>?_⟩
 cases b with
 |false=>exact((k.nx.at s1).at s2).here P2 q (R1.step s2) S2
 |true=>
  refine⟨fun σ' H'=>∃m',m'<m∧∃α' σd' st' G',Step α G α' G'∧bT G' F H'∧dN α' G' σd' σ'∧aT α' st' G'∧W m' σd' st',fun σ' H' z=>z,?_⟩
  refine⟨α2,σd1,st2,_,G2,F,P2,R1.step s2,S2,q,?_⟩
  refine⟨?_,(k.rt.at s1).at s2,(k.nx.at s1).at s2,?_⟩
  · rintro σd3 st3 ⟨m',hm,w3⟩ α3 G3 H3 σ3 s3 P3 R3 S3
    exact⟨m',hm,α3,σd3,st3,G3,(s1.trans s2).trans s3,P3,R3,S3,w3⟩
  · rintro σd3 st3 ⟨m',hm,w3⟩ α3 G3 H3 σ3 s3 P3 R3 S3
    exact⟨m',hm,α3,σd3,st3,G3,(s1.trans s2).trans s3,P3,R3,S3,w3⟩
noncomputable abbrev DI:=bG→ag→(List D→(ag→Prop)→ag→Prop)→Prop
structure rS(J:It)(α:List (Option Addr))(G:Hp)(ok:ag→Prop)(xs:List D):Prop where
 stop:∀(n:Nat) α' G' F' H' st',Step α G α' G'→bT G' F' H'→aT α' st' G'→ok st'→xs.length≤n→J.stop n H'
 go:∀(n:Nat) d α' G' F' H' st',Step α G α' G'→bT G' F' H'→aT α' st' G'→ok st'→xs[n]?=some d→J.go n H'
 mS:∀(n:Nat) d α' G' F' H' st' x H'',Step α G α' G'→bT G' F' H'→aT α' st' G'→ok st'→xs[n]?=some d→J.mS n H' x H''→∃G'',Step α' G' α' G''∧bT G'' F' H''∧aT α' st' G''∧Rep α' G'' d x
noncomputable def LI(t:DI):TI:=fun σ H R=>∃α σd st K G F,bT G F H∧dN α G σd σ∧aT α st G∧t σd st K∧∀xs ok st1,K xs ok st1→∀J α1 G1 H1,Step α G α1 G1→bT G1 F H1→aT α1 st1 G1→rS J α1 G1 ok xs→R J H1
noncomputable def u6(d:D)(st1:ag)(K:List D→(ag→Prop)→ag→Prop):Prop:=match d with
 | .lst xs=>K xs (fun _=>True) st1
 | .tup xs=>K xs (fun _=>True) st1
 | .ref n=>(match st1[n]? with|some (.lst xs)=>K xs (fun st'=>st'[n]?=some (.lst xs)) st1|_=>False)
 |_=>False
noncomputable def Ic(t:DE):DI:=fun σ st K=>t σ st fun d st1=>u6 d st1 K
theorem xn{K:PySem.W.Frag}{a:Addr}{α:List (Option Addr)}{G:Hp}{ok:ag→Prop}{xs:List D}
 (h:∀α' G' st',Step α G α' G'→aT α' st' G'→ok st'→∃vs,Rd G' a (.lst vs)∧aN α' G' xs vs):rS (Hj K a) α G ok xs where
 stop:=fun n α' G' F' H' st' s P S o hn=>by
  obtain⟨vs,h1,h2⟩:=h α' G' st' s S o
  exact⟨vs,.inl (gq P h1),by rw[←h2.length];exact hn⟩
 go:=fun n d α' G' F' H' st' s P S o hn=>by
  obtain⟨vs,h1,h2⟩:=h α' G' st' s S o
  obtain⟨v,e,_⟩:=h2.get hn
  exact⟨vs,v,.inl (gq P h1),e⟩
 mS:=fun n d α' G' F' H' st' x H'' s P S o hn y=>by
  obtain⟨vs,h1,h2⟩:=h α' G' st' s S o
  obtain⟨v,e,r⟩:=h2.get hn
  obtain⟨rfl,y⟩:=y
  have:=y vs (.inl (gq P h1))
  rw[e]at this
  cases this
  exact⟨G',Step.refl,P,S,r⟩
theorem Fq{K:PySem.W.Frag}{a:Addr}{α:List (Option Addr)}{G:Hp}{ok:ag→Prop}{xs:List D}
 (h:∀α' G' st',Step α G α' G'→aT α' st' G'→ok st'→∃vs,G' a=some (.tup vs)∧aN α' G' xs vs):rS (G_ K a) α G ok xs where
 stop:=fun n α' G' F' H' st' s P S o hn=>by
  obtain⟨vs,h1,h2⟩:=h α' G' st' s S o
  exact⟨vs,.of (P.get h1),by rw[←h2.length];exact hn⟩
 go:=fun n d α' G' F' H' st' s P S o hn=>by
  obtain⟨vs,h1,h2⟩:=h α' G' st' s S o
  obtain⟨v,e,_⟩:=h2.get hn
  exact⟨vs,v,.of (P.get h1),e⟩
 mS:=fun n d α' G' F' H' st' x H'' s P S o hn y=>by
  obtain⟨vs,h1,h2⟩:=h α' G' st' s S o
  obtain⟨v,e,r⟩:=h2.get hn
  obtain⟨rfl,y⟩:=y
  have:=y vs (.of (P.get h1))
  rw[e]at this
  cases this
  exact⟨G',Step.refl,P,S,r⟩
theorem Be{α α':List (Option Addr)}{G G':Hp}{a:Addr}{vs:List V}{xs:List D}(s:Step α G α' G')(na:some a∉α)(h1:Rd G a (.lst vs))(h2:aN α G xs vs):Rd G' a (.lst vs)∧aN α' G' xs vs:=by
 refine⟨?_,h2.step s⟩
 rcases h1 with h|⟨o,h⟩
 · exact .inl (s.ext _ _ na h)
 · exact .inr ⟨o,s.ext _ _ na h⟩
theorem Ff{l tg:Expr}{tl:DE}(hl:PE X l (LE tl)):PI X tg l (LI (Ic tl)):=by
 intro pins s σ H R I h
 obtain⟨α,σd,st,K,G,F,P,RS,S,t,k⟩:=h
 refine bR (hl pins s σ H (fun x H1=>∃d α1 G1 st1,Step α G α1 G1∧bT G1 F H1∧aT α1 st1 G1∧Rep α1 G1 d x∧u6 d st1 K) I ⟨α,σd,st,_,G,F,P,RS,S,t,fun d st1 q α1 G1 H1 v s1 P1 S1 r1=>⟨d,α1,G1,st1,s1,P1,S1,r1,q⟩⟩) fun v s1 ⟨x,H1,I1,rx,d,α1,G1,st1,s1',P1,S1,r1,q⟩=>?_
 unfold u6 at q
 have viaL:∀ {a:Addr} {vs:List V},x= .ref a→Rd H1 a (.lst vs)→R (Hj X.K a) H1→wpAny (model X.prog X.w) X.A (pyIter v) (CN X pins σ tg R) X.xe s1:=by
  intro a vs ex hr hR
  subst ex
  cases rx
  obtain⟨its,rv,p,hz⟩:=I1.list (.inl hr)
  refine wpAny_pyIter_list p.isList ?_
  refine⟨s1.heap.objs.size,[s1.heap.objs.size],_,_,H1,rfl,I1.kept (t':=s1.toks) fun b o e=>Heap.get?_push_of_some _ e,zB a _,⟨_,Heap.get?_push_size _ rfl,rfl,rfl⟩,fun b hb=>?_,hR⟩
  have e:b=s1.heap.objs.size:=by simpa using hb
  subst e
  exact I1.sJ (Nat.le_refl _) (I1.aI.fresh (Nat.le_refl _))
 have viaT:∀ {a:Addr} {vs:List V},x= .ref a→H1 a=some (.tup vs)→R (G_ X.K a) H1→wpAny (model X.prog X.w) X.A (pyIter v) (CN X pins σ tg R) X.xe s1:=by
  intro a vs ex hr hR
  subst ex
  cases rx
  obtain⟨its,rv,p,hz⟩:=I1.tuple (ir.of hr)
  refine wpAny_pyIter_tuple (show s1.heap.IsTuple a its.toArray from p) ?_
  refine⟨s1.heap.objs.size,[s1.heap.objs.size],_,_,H1,rfl,I1.kept (t':=s1.toks) fun b o e=>Heap.get?_push_of_some _ e,yp a _,⟨_,Heap.get?_push_size _ rfl,rfl,rfl⟩,fun b hb=>?_,hR⟩
  have e:b=s1.heap.objs.size:=by simpa using hb
  subst e
  exact I1.sJ (Nat.le_refl _) (I1.aI.fresh (Nat.le_refl _))
 cases d<;>try exact q.elim
 · rename_i n
   simp only at q
   split at q
   · rename_i xs e
     obtain⟨a,ea,vs,h1,h2⟩:=S1.gm e
     have r1':=dQ ea r1
     subst r1'
     refine viaL rfl (gq P1 (.of h1)) (k _ _ st1 q _ α1 G1 H1 s1' P1 S1 (xn fun α' G' st' s S o=>?_))
     obtain⟨b,eb,ws,g1,g2⟩:=S.gm o
     have hb:b=a:=by
      rcases s.pre _ _ ea with z|z<;>(rw[z]at eb;cases eb)
      rfl
     subst hb
     exact⟨ws,.of g1,g2⟩
   · exact q.elim
 · unfold Rep at r1
   obtain⟨a,vs,rfl,na,ha,ra⟩:=r1
   exact viaL rfl (gq P1 ha) (k _ _ st1 q _ α1 G1 H1 s1' P1 S1 (xn fun α' G' st' s S o=>⟨vs,Be s na ha ra⟩))
 · unfold Rep at r1
   obtain⟨a,vs,rfl,na,ha,ra⟩:=r1
   exact viaT rfl (P1.get ha) (k _ _ st1 q _ α1 G1 H1 s1' P1 S1 (Fq fun α' G' st' s S o=>⟨vs,s.ext _ _ na ha,ra.step s⟩))
noncomputable def dw(lo:Int)(n:Nat):List D:=(List.range n).map fun(k:Nat)=>D.int (lo+(k:Int))
theorem qJ{lo:Int}{n k:Nat}:(dw lo n)[k]?=if k<n then some (.int (lo+(k:Int)))else none:=by
 unfold dw
 rw[List.getElem?_map]
 by_cases h:k<n
 · rw[List.getElem?_range h,if_pos h];rfl
 · rw[List.getElem?_eq_none (by simpa using h),if_neg h];rfl
theorem d3{lo:Int}{n:Nat}:(dw lo n).length=n:=by unfold dw;simp
theorem wd{α:List (Option Addr)}{G:Hp}{lo:Int}{n:Nat}:rS (tD lo n) α G (fun _=>True) (dw lo n) where
 stop:=fun m α' G' F' H' st' s P S o hn=>by rw[d3]at hn;exact hn
 go:=fun m d α' G' F' H' st' s P S o hn=>by
  rw[qJ]at hn
  split at hn
  · assumption
  · cases hn
 mS:=fun m d α' G' F' H' st' x H'' s P S o hn y=>by
  obtain⟨rfl,rfl⟩:=y
  rw[qJ]at hn
  split at hn
  · cases hn
    exact⟨G',Step.refl,P,S,by unfold Rep;rfl⟩
  · cases hn
theorem PI.imp{tg iter:Expr}{t t':TI}(h:PI X tg iter t)(f:∀σ H R,t' σ H R→t σ H R):PI X tg iter t':=fun pins s σ H R I q=>h pins s σ H R I (f σ H R q)
noncomputable def CD(ds:List D)(st1:ag)(K:List D→(ag→Prop)→ag→Prop):Prop:=match ds with
 | [.int j]=>(-(2^62)≤j∧j<2^62)∧K (dw 0 j.toNat) (fun _=>True) st1
 |_=>False
noncomputable def Dg(ds:List D)(st1:ag)(K:List D→(ag→Prop)→ag→Prop):Prop:=match ds with
 | [.int i,.int j]=>(-(2^62)≤i∧i<2^62∧ -(2^62)≤j∧j<2^62)∧K (dw i (j-i).toNat) (fun _=>True) st1
 |_=>False
noncomputable def EY(t:DA):DI:=fun σ st K=>t σ st fun ds st1=>CD ds st1 K
noncomputable def E3(t:DA):DI:=fun σ st K=>t σ st fun ds st1=>Dg ds st1 K
theorem zb{tg iter:Expr}{t:DA}(h:PI X tg iter (yq (LA t))):PI X tg iter (LI (EY t)):=PI.imp h fun σ H R ⟨α,σd,st,K,G,F,P,RS,S,t,k⟩=>by
 refine⟨α,σd,st,_,G,F,P,RS,S,t,fun ds st1 q α1 G1 H1 vs s1 P1 S1 r1=>?_⟩
 match ds,q,r1 with
 | [.int j],q,r1=>
   obtain⟨v,rfl,r2⟩:=ie r1 rfl
   unfold Rep at r2
   subst r2
   exact⟨j,rfl,q.1.1,q.1.2,k _ _ st1 q.2 _ α1 G1 H1 s1 P1 S1 wd⟩
theorem Ag{tg iter:Expr}{t:DA}(h:PI X tg iter (yH (LA t))):PI X tg iter (LI (E3 t)):=PI.imp h fun σ H R ⟨α,σd,st,K,G,F,P,RS,S,t,k⟩=>by
 refine⟨α,σd,st,_,G,F,P,RS,S,t,fun ds st1 q α1 G1 H1 vs s1 P1 S1 r1=>?_⟩
 match ds,q,r1 with
 | [.int i,.int j],q,r1=>
   obtain⟨v,u,rfl,r2,r3⟩:=kT r1 rfl
   unfold Rep at r2 r3
   subst r2 r3
   exact⟨i,j,rfl,q.1,k _ _ st1 q.2 _ α1 G1 H1 s1 P1 S1 wd⟩
noncomputable def e9(tg:eZ)(body:DS)(ok:ag→Prop)(E:jq):List D→bG→ag→Prop
 | [],σ,st=>ok st∧E.nx σ st
 |x::xs,σ,st=>ok st∧∃σ1,tg x σ=some σ1∧body {E with nx:=e9 tg body ok E xs,ct:=e9 tg body ok E xs,bk:=E.nx} σ1 st
noncomputable def hW(src:DI)(tg:eZ)(body:DS):DS:=fun D σ st=>src σ st fun xs ok st1=>e9 tg body ok D xs σ st1
theorem Hb{src:DI}{tg:eZ}(h:PS X st (Fg (LI src) (LG tg) (LS t))):PS X st (LS (hW src tg t)):=PS.imp h fun D σ H ⟨α,σd,st,DD,G,F,P,R,S,tt,k⟩=>by
 refine⟨α,σd,st,_,G,F,P,R,S,tt,fun xs ok st1 q J α1 G1 H1 s1 P1 S1 it=>?_⟩
 refine⟨fun i m σ' H'=>∃α' σd' st' G',Step α1 G1 α' G'∧bT G' F H'∧dN α' G' σd' σ'∧aT α' st' G'∧e9 tg t ok DD (xs.drop i) σd' st'∧m=xs.length-i,⟨xs.length,α1,σd,st1,G1,Step.refl,P1,R.step s1,S1,q,rfl⟩,?_⟩
 rintro i m σ2 H2 ⟨α2,σd2,st2,G2,s2,P2,R2,S2,q2,rfl⟩
 cases e:xs[i]? with
 |none=>
  have hl:xs.length≤i:=List.getElem?_eq_none_iff.mp e
  rw[List.drop_eq_nil_of_le hl]at q2
  unfold e9 at q2
  exact .inl ⟨it.stop i α2 G2 F H2 st2 s2 P2 S2 q2.1 hl,((k.nx.at s1).at s2).here P2 q2.2 R2 S2⟩
 |some d=>
  have hl:i<xs.length:=(List.getElem?_eq_some_iff.mp e).1
  have ed:xs.drop i=d::xs.drop (i+1):=by
   rw[List.drop_eq_getElem_cons hl]
   congr 1
   rw[List.getElem?_eq_getElem hl]at e
   exact Option.some.inj e
  rw[ed]at q2
  unfold e9 at q2
  obtain⟨aI,σ3,e3,q3⟩:=q2
  refine .inr ⟨it.go i d α2 G2 F H2 st2 s2 P2 S2 aI e,fun σ' H'=>∃α' σd' st' G',Step α1 G1 α' G'∧bT G' F H'∧dN α' G' σd' σ'∧aT α' st' G'∧e9 tg t ok DD (xs.drop (i+1)) σd' st',?_,?_⟩
  · rintro σ' H' ⟨α',σd',st',G',z1,z2,z3,z4,z5⟩
    exact⟨xs.length-(i+1),by omega,α',σd',st',G',z1,z2,z3,z4,z5,rfl⟩
  · intro x H' y
    obtain⟨G3,s3,P3,S3,r3⟩:=it.mS i d α2 G2 F H2 st2 x H' s2 P2 S2 aI e y
    refine⟨α2,σd2,st2,d,fun σ' st'=>σ'=σ3∧st'=st2,G3,F,P3,R2.step s3,S3,r3,⟨σ3,e3,rfl,rfl⟩,?_⟩
    rintro σ' st' ⟨rfl,rfl⟩ α4 G4 H4 σ4 s4 P4 R4 S4
    have s24:=(s2.trans s3).trans s4
    refine⟨α4,σ',st',_,G4,F,P4,R4,S4,q3,?_,((k.rt.at s1).at s24),(k.nx.at s1).at s24,?_⟩
    · intro σd5 st5 q5 α5 G5 H5 σ5 s5 P5 R5 S5
      exact⟨α5,σd5,st5,G5,s24.trans s5,P5,R5,S5,q5⟩
    · intro σd5 st5 q5 α5 G5 H5 σ5 s5 P5 R5 S5
      exact⟨α5,σd5,st5,G5,s24.trans s5,P5,R5,S5,q5⟩
end
end L3
namespace L3
open PySem PySem.Spec L2
open PyProof.Rows hiding St
noncomputable def gu(fr:List (Option Nat))(σ:bG):bG:=fr.map fun o=>o.bind fun j=>(σ[j]?).join
theorem dN.comp{α:List (Option Addr)}{G:Hp}{σd:bG}{σ:L2.St}{fr:List (Option Nat)}(h:dN α G σd σ):dN α G (gu fr σd) (σC fr σ):=by
 refine⟨by unfold gu σC;simp,fun i d e=>?_⟩
 unfold gu at e
 rw[List.getElem?_map]at e
 cases q:fr[i]? with
 |none=>rw[q]at e;cases e
 |some o=>
  rw[q]at e
  cases o with
  |none=>simp at e
  |some j=>
   simp only[Option.map_some,Option.some.injEq,Option.bind_some]at e
   have ej:σd[j]?=some (some d):=by
    cases r:σd[j]? with
    |none=>rw[r]at e;cases e
    |some u=>rw[r]at e;simp at e;rw[e]
   obtain⟨v,ev,rv⟩:=h.at' j d ej
   refine⟨v,?_,rv⟩
   unfold σC
   rw[List.getElem?_map,q]
   simp[ev]
noncomputable def dz(tg:eZ)(c:DT)(te:DE)(ok:ag→Prop)(σc:bG):List D→List D→ag→(List D→ag→Prop)→Prop
 | [],acc,st,K=>ok st∧K acc st
 |x::xs,acc,st,K=>ok st∧∃σ2,tg x σc=some σ2∧c σ2 st fun b st1=>if b=true then te σ2 st1 fun y st2=>dz tg c te ok σc xs (acc++[y]) st2 K else dz tg c te ok σc xs acc st1 K
noncomputable def du(src:DI)(fr:List (Option Nat))(tg:eZ)(c:DT)(te:DE):DE:=fun σ st K=>src σ st fun xs ok st1=>xs.length≤sizeLine∧dz tg c te ok (gu fr σ) xs [] st1 fun ys st2=>K (.lst ys) st2
noncomputable def ke(src:DI)(fr:List (Option Nat))(tg:eZ)(c:DT)(te:DE):DE:=fun σ st K=>src σ st fun xs ok st1=>xs.length≤sizeLine∧dz tg c te ok (gu fr σ) xs [] st1 fun ys st2=>K (.ref st2.length) (st2++[.lst ys])
noncomputable def cG:DT:=fun _ st K=>K true st
noncomputable def iz(fr:List (Option Nat))(tg:eZ):Prop:=∀(σ:bG) (d:D) (σ2:bG),tg d (gu fr σ)=some σ2→σ2.length=(gu fr σ).length∧∀(i:Nat) (e:D),(gu fr σ)[i]?=some (some e)→σ2[i]?=some (some e)
theorem ot{fr:List (Option Nat)}{σ:bG}{k:Nat}(h:fr[k]?=some none){e:D}(q:(gu fr σ)[k]?=some (some e)):False:=by
 unfold gu at q
 rw[List.getElem?_map,h]at q
 simp at q
theorem cy{fr:List (Option Nat)}{k:Nat}(h:fr[k]?=some none:=by rfl):iz fr (bE k):=fun σ d σ2 e=>by
 cases e
 refine⟨List.length_set,fun i x q=>?_⟩
 by_cases hi:i=k
 · subst hi;exact(ot h q).elim
 · rw[List.getElem?_set_ne (Ne.symm hi)];exact q
theorem mF{fr:List (Option Nat)}{k j:Nat}(h:fr[k]?=some none:=by rfl)(h':fr[j]?=some none:=by rfl):iz fr (iE k j):=fun σ d σ2 e=>by
 unfold iE at e
 split at e
 · cases e
   refine⟨by rw[List.length_set,List.length_set],fun i x q=>?_⟩
   by_cases hi:i=k
   · subst hi;exact(ot h q).elim
   · by_cases hj:i=j
     · subst hj;exact(ot h' q).elim
     · rw[List.getElem?_set_ne (Ne.symm hj),List.getElem?_set_ne (Ne.symm hi)];exact q
 · cases e
section
variable {X:Cx}
theorem Hf{c:Expr}{t:DT}(h:PT X c (LT t)):oH X [c] (LT t):=ET h
theorem Bj:oH X [] (LT cG):=fun pins s σ H Q I ⟨α,σd,st,K,G,F,P,R,S,t,k⟩=>Dt pins s σ H Q I (k true st t α G H Step.refl P S)
theorem LE.comp{src:DI}{fr:List (Option Nat)}{tg:eZ}{c:DT}{te:DE}(fit:iz fr tg){σ:L2.St}{H:Hp}{Q:VK}{α:List (Option Addr)}{σd:bG}{st:ag}{KE:List D→ag→Prop}{G F:Hp}(P:bT G F H)(R:dN α G σd σ)(S:aT α st G)
 (t:src σd st fun xs ok st1=>xs.length≤sizeLine∧dz tg c te ok (gu fr σd) xs [] st1 KE)
 (fin:∀ys st2 α2 G2 H2 l vs,KE ys st2→Step α G α2 G2→bT G2 (upd F l (.lst vs)) H2→F l=none→aT α2 st2 G2→aN α2 G2 ys vs→Q (.ref l) H2):
 pC (LI src) fr (LG tg) (LT c) (LE te) σ H Q:=by
 refine⟨α,σd,st,_,G,F,P,R,S,t,fun xs ok st1 q J α1 G1 H1 s1 P1 S1 it l hl=>?_⟩
 obtain⟨hsz,q⟩:=q
 obtain⟨hG,hF⟩:=P1.none hl
 refine⟨fun i m σ' H'=>∃α' st' G' acc vs,Step α1 G1 α' G'∧bT G' (upd F l (.lst vs)) H'∧dN α' G' (gu fr σd) σ'∧aT α' st' G'∧aN α' G' acc vs∧acc.length≤i∧i≤xs.length∧dz tg c te ok (gu fr σd) (xs.drop i) acc st' KE∧m=xs.length-i,
  ⟨xs.length,α1,st1,G1,[],[],Step.refl,P1.hide hl,(R.step s1).comp,S1,by unfold aN;rfl,Nat.le_refl _,Nat.zero_le _,q,rfl⟩,?_⟩
 rintro i m σ2 H2 ⟨α2,st2,G2,acc,vs,s2,P2,R2,S2,ra,hacc,hi,q2,rfl⟩
 cases e:xs[i]? with
 |none=>
  have hl2:xs.length≤i:=List.getElem?_eq_none_iff.mp e
  rw[List.drop_eq_nil_of_le hl2]at q2
  unfold dz at q2
  exact .inl ⟨it.stop i α2 G2 _ H2 st2 s2 P2 S2 q2.1 hl2,fin acc st2 α2 G2 H2 l vs q2.2 (s1.trans s2) P2 hF S2 ra⟩
 |some d=>
  have hl2:i<xs.length:=(List.getElem?_eq_some_iff.mp e).1
  have ed:xs.drop i=d::xs.drop (i+1):=by
   rw[List.drop_eq_getElem_cons hl2]
   congr 1
   rw[List.getElem?_eq_getElem hl2]at e
   exact Option.some.inj e
  rw[ed]at q2
  unfold dz at q2
  obtain⟨aI,σ3,e3,q3⟩:=q2
  refine .inr ⟨it.go i d α2 G2 _ H2 st2 s2 P2 S2 aI e,fun σ' H'=>∃α' st' G' acc vs,Step α1 G1 α' G'∧bT G' (upd F l (.lst vs)) H'∧dN α' G' (gu fr σd) σ'∧aT α' st' G'∧aN α' G' acc vs∧acc.length≤i+1∧dz tg c te ok (gu fr σd) (xs.drop (i+1)) acc st' KE,?_,?_⟩
  · rintro σ' H' ⟨α',st',G',acc',vs',z1,z2,z3,z4,z5,z6,z7⟩
    exact⟨xs.length-(i+1),by(first|lia|omega),α',st',G',acc',vs',z1,z2,z3,z4,z5,z6,hl2,z7,rfl⟩
  · intro x H' y
    obtain⟨G3,s3,P3,S3,r3⟩:=it.mS i d α2 G2 _ H2 st2 x H' s2 P2 S2 aI e y
    refine⟨α2,gu fr σd,st2,d,fun σ' st'=>σ'=σ3∧st'=st2,G3,_,P3,R2.step s3,S3,r3,⟨σ3,e3,rfl,rfl⟩,?_⟩
    rintro σ' st' ⟨rfl,rfl⟩ α4 G4 H4 σ4 s4 P4 R4 S4
    have s24:=(s2.trans s3).trans s4
    have Rc:dN α4 G4 (gu fr σd) σ4:=⟨by rw[←(fit σd d σ' e3).1];exact R4.len,fun j z hz=>R4.at' j z ((fit σd d σ' e3).2 j z hz)⟩
    refine⟨α4,σ',st',_,G4,_,P4,R4,S4,q3,fun b st5 q5 α5 G5 H5 s5 P5 S5=>?_⟩
    cases b with
    |false=>exact⟨α5,st5,G5,acc,vs,s24.trans s5,P5,Rc.step s5,S5,((ra.step s3).step s4).step s5,by(first|lia|omega),q5⟩
    |true=>
     refine⟨α5,σ',st5,_,G5,_,P5,R4.step s5,S5,q5,fun z st6 q6 α6 G6 H6 v6 s6 P6 S6 r6=>?_⟩
     have hr:=(((ra.step s3).step s4).step s5).step s6
     refine⟨vs,(P6.frame aV).1,by rw[←hr.length];(first|lia|omega),α6,st6,G6,acc++[z],vs++[v6],(s24.trans s5).trans s6,?_,(Rc.step s5).step s6,S6,aU.mpr (e_ (aU.mp hr) (.cons r6 .nil)),by rw[List.length_append,List.length_singleton];(first|lia|omega),q6⟩
     have:=P6.Ct (p:=l) (o':= .lst (vs++[v6])) aV
     rw[Dz]at this
     exact this
theorem FG{scope:Scope}{Nc:List Str}{elt tg iter:Expr}{ifs:List Expr}{pos:Pos}{src:DI}{fr:List (Option Nat)}{dtg:eZ}{c:DT}{te:DE}(S:br X scope Nc fr)(hi:PI X tg iter (LI src))
 (hg:∀C s H ex,PG (eY X scope Nc C s H ex) tg (LG dtg)) (ht:∀C s H ex,oH (eY X scope Nc C s H ex) ifs (LT c)) (he:∀C s H ex,PE (eY X scope Nc C s H ex) elt (LE te)) (fit:iz fr dtg)
 (hx:X.xe=fun _ _=>False:=by rfl) (hc:X.calm=true:=by rfl) (hs:∀x,foldedSetIterable iter X.env x=pure x:=by intro _;rfl):PE X (.ListComp elt [⟨tg,iter,ifs,0⟩] scope pos) (LE (du src fr dtg c te)):=
 PE.imp (xD hx hc S hi hg ht he hs) fun σ H Q ⟨α,σd,st,K,G,F,P,R,S,t,k⟩=>LE.comp fit P R S t fun ys st2 α2 G2 H2 l vs q s2 P2 hl S2 r=>by
  have hg:G2 l=none:=(P2.frame aV).2
  refine k _ st2 q α2 (upd G2 l (.lst vs)) H2 (.ref l) (s2.trans (Step.laid hg)) (P2.show hl) (S2.laid hg) ?_
  unfold Rep
  exact⟨l,vs,rfl,S2.jz hg,.of aV,r.step (Step.laid hg)⟩
theorem Es{scope:Scope}{Nc:List Str}{elt tg iter:Expr}{ifs:List Expr}{pos:Pos}{src:DI}{fr:List (Option Nat)}{dtg:eZ}{c:DT}{te:DE}(S:br X scope Nc fr)(hi:PI X tg iter (LI src))
 (hg:∀C s H ex,PG (eY X scope Nc C s H ex) tg (LG dtg)) (ht:∀C s H ex,oH (eY X scope Nc C s H ex) ifs (LT c)) (he:∀C s H ex,PE (eY X scope Nc C s H ex) elt (LE te)) (fit:iz fr dtg)
 (hx:X.xe=fun _ _=>False:=by rfl) (hc:X.calm=true:=by rfl) (hs:∀x,foldedSetIterable iter X.env x=pure x:=by intro _;rfl):PE X (.ListComp elt [⟨tg,iter,ifs,0⟩] scope pos) (LE (ke src fr dtg c te)):=
 PE.imp (xD hx hc S hi hg ht he hs) fun σ H Q ⟨α,σd,st,K,G,F,P,R,S,t,k⟩=>LE.comp fit P R S t fun ys st2 α2 G2 H2 l vs q s2 P2 hl S2 r=>by
  have hg:G2 l=none:=(P2.frame aV).2
  refine k _ _ q (α2++[some l]) (upd G2 l (.lst vs)) H2 (.ref l) (s2.trans (Step.cell hg)) (P2.show hl) (S2.cell hg ⟨vs,aV,r.step (Step.cell hg)⟩) ?_
  unfold Rep
  refine .inr ⟨l,?_,rfl⟩
  rw[List.getElem?_append_right (by rw[S2.len];exact Nat.le_refl _),S2.len,Nat.sub_self]
  rfl
theorem EA{st:Stmt}{k:Nat}{src:DI}{fr:List (Option Nat)}{dtg:eZ}{c:DT}{te:DE}(fit:iz fr dtg)(h:PS X st (jV (pC (LI src) fr (LG dtg) (LT c) (LE te)) (jZ k))):PS X st (LS (bf k (du src fr dtg c te))):=
 PS.imp h fun D σ H ⟨α,σd,st,DD,G,F,P,R,S,t,q⟩=>LE.comp fit P R S t fun ys st2 α2 G2 H2 l vs qq s2 P2 hl S2 r=>by
  have hg:G2 l=none:=(P2.frame aV).2
  have s3:=s2.trans (Step.laid (o:= .lst vs) hg)
  refine q.nx _ st2 qq α2 (upd G2 l (.lst vs)) H2 _ s3 (P2.show hl) ((R.step s3).set k ?_) (S2.laid hg)
  unfold Rep
  exact⟨l,vs,rfl,S2.jz hg,.of aV,r.step (Step.laid hg)⟩
theorem Bg{st:Stmt}{k:Nat}{src:DI}{fr:List (Option Nat)}{dtg:eZ}{c:DT}{te:DE}(fit:iz fr dtg)(h:PS X st (jV (pC (LI src) fr (LG dtg) (LT c) (LE te)) (jZ k))):PS X st (LS (bf k (ke src fr dtg c te))):=
 PS.imp h fun D σ H ⟨α,σd,st,DD,G,F,P,R,S,t,q⟩=>LE.comp fit P R S t fun ys st2 α2 G2 H2 l vs qq s2 P2 hl S2 r=>by
  have hg:G2 l=none:=(P2.frame aV).2
  have s3:=s2.trans (Step.cell (o:= .lst vs) hg)
  refine q.nx _ _ qq (α2++[some l]) (upd G2 l (.lst vs)) H2 _ s3 (P2.show hl) ((R.step s3).set k ?_) (S2.cell hg ⟨vs,aV,r.step (Step.cell hg)⟩)
  unfold Rep
  refine .inr ⟨l,?_,rfl⟩
  rw[List.getElem?_append_right (by rw[S2.len];exact Nat.le_refl _),S2.len,Nat.sub_self]
  rfl
noncomputable def bw(N:List Str)(ds:List D):bG:=ds.map some++List.replicate (N.length-ds.length) none
theorem dN.start{α:List (Option Addr)}{G:Hp}{N:List Str}{ds:List D}{vs:List V}(r:aN α G ds vs):dN α G (bw N ds) (L2.start N vs):=by
 have hl:=r.length
 refine⟨by unfold bw L2.start;simp[hl],fun i d e=>?_⟩
 unfold bw at e
 by_cases hi:i<ds.length
 · rw[List.getElem?_append_left (by simpa using hi),List.getElem?_map]at e
   cases q:ds[i]? with
   |none=>rw[q]at e;cases e
   |some x=>
    rw[q]at e
    cases e
    obtain⟨v,ev,rv⟩:=r.get q
    refine⟨v,?_,rv⟩
    unfold L2.start
    rw[List.getElem?_append_left (by rw[List.length_map];(first|lia|omega)),List.getElem?_map,ev]
    rfl
 · rw[List.getElem?_append_right (by simpa using hi),List.getElem?_replicate]at e
   split at e<;>cases e
theorem Io{P:Program}{w:World}{K:PySem.W.Frag}{mg:Str→Option Value}{base:Heap}{x qual:Str}{st:Stmt}{f:Addr}{fd:FuncData}{N ps:List Str}{k:Nat}{sp:cO}{t:DS}(F:mX K x qual st f fd)(S:bo N ps (af st))
 (hbody:∀(cdv:Value) (A:Around) (outer:List Env) (s:Shared) (H:Hp) (E:XK),cK k (A.deeper (envOfC qual (af st) s.heap.objs.size f cdv))→gM (nh aJ P w K mg base N qual (af st) f cdv A outer s H E).tw (aY st) (LS t))
 (hsp:∀ds st K,sp ds st K→ds.length=ps.length∧t {nx:=fun _ st'=>K .aC st',rt:=K} (bw N ds) st):aw P w K mg base aJ (k+1) f fd ps (aO sp):=by
 refine F.ok S (fun vs H Q E h=>?_) fun cdv A outer s H vs Q E hr h=>⟨_,hbody cdv A outer s H E hr,?_⟩
 · obtain⟨α,ds,st,K,G,F,P,r,S,q,k⟩:=h
   rw[←r.length]
   exact(hsp ds st K q).1
 · obtain⟨α,ds,st,K,G,F,P,r,S,q,k⟩:=h
   refine⟨α,bw N ds,st,_,G,F,P,dN.start r,S,(hsp ds st K q).2,?_,k,?_,?_⟩
   · intro σd' st' kk α' G' H' σ' s' P' R' S'
     exact k .aC st' kk α' G' H' .aC s' P' S' (by unfold Rep;rfl)
   · intro σd' st' kk
     exact kk.elim
   · intro σd' st' kk
     exact kk.elim
noncomputable def mO(to te:DE):DE:=fun σ st K=>to σ st fun x st1=>match x with
 | .ref n=>(match st1[n]? with
   |some (.lst _)=>te σ st1 fun y st2=>∃y',[y]=[y']∧(match st2[n]? with|some (.lst xs)=>xs.length<sizeLine∧K .aC (st2.set n (.lst (xs++[y'])))|_=>False)
   |_=>False)
 |_=>False
end
end L3
namespace L3
open PySem PySem.Spec L2
open PyProof.Rows hiding St
structure aB(K:PySem.W.Frag)(mg:Str→Option Value)(x qual:Str)(st:Stmt)(ps:List Str)(f:Addr)(fd:FuncData):Prop where
 fn:mX K x qual st f fd
 mg:mg x=some (.ref f)
 bd:Binds K fd ps []
noncomputable def qV(sc:Scope)(N:List Str)(scope:Scope)(Nc:List Str)(fr:List (Option Nat)):Bool:=
 (scope.kind== .function)&&scope.names.all (fun x=>x.2 != .cell||scope.names.lookup x.1==some .cell)&&scope.names.all (fun x=>x.2 != .local||scope.names.lookup x.1==some .local)&&
 scope.names.all (fun x=>x.2 != .free||sc.names.lookup x.1==some .cell||sc.names.lookup x.1==some .free)&&(fr.length==Nc.length)&&
 (List.range fr.length).all fun i=>match fr[i]?,Nc[i]? with
   |some (some j),some x=>(N[j]?==some x)&&(scope.names.lookup x==some .free)&&(sc.names.lookup x==some .cell||sc.names.lookup x==some .free)
   |_,_=>true
theorem br.look{X:Cx}{scope:Scope}{Nc:List Str}{fr:List (Option Nat)}(sc:Scope)(N:List Str)(h:qV sc N scope Nc fr=true)(hsc:X.env.scope=sc:=by rfl)(hN:X.N=N:=by rfl):br X scope Nc fr:=by
 unfold qV at h
 simp only[Bool.and_eq_true]at h
 obtain⟨⟨⟨⟨⟨h1,h2⟩,h3⟩,h4⟩,h5⟩,h6⟩:=h
 subst hsc hN
 refine⟨by simpa using h1,fun x hx hk=>?_,fun x hx hk=>?_,fun x hx hk=>?_,by simpa using h5,fun i j x e1 e2=>?_⟩
 · have:=List.all_eq_true.mp h2 x hx
   rw[hk]at this
   simpa using this
 · have:=List.all_eq_true.mp h3 x hx
   rw[hk]at this
   simpa using this
 · have:=List.all_eq_true.mp h4 x hx
   rw[hk]at this
   have z:X.env.scope.names.lookup x.1=some .cell∨X.env.scope.names.lookup x.1=some .free:=by simpa using this
   exact z
 · have hi:i<fr.length:=(List.getElem?_eq_some_iff.mp e2).1
   have:=List.all_eq_true.mp h6 i (List.mem_range.mpr hi)
   rw[e1,e2]at this
   simp only[Bool.and_eq_true,Bool.or_eq_true,beq_iff_eq]at this
   exact⟨this.1.1,this.1.2,this.2⟩
section
variable {X:Cx}
theorem Kf{e:Expr}{es:List Expr}{pos p:Pos}{x:Str}{id:String}{r:fm}{t:DA}(hc:bJ X (.builtin id) (gz r))(ha:PA X (e::es) (LA t))(hm:X.mg x=none)(hv:bootBuiltins x=some (.builtin id))(hg:Gl X x:=by rfl)(hn:x≠"__name__":=by decide)(hdb:(x==("__debug__":Str))=false:=by decide)
 (he:starEach (e::es) X.env=(false,eval e X.env)::starEach es X.env:=by rfl) (hpl:(backTo pos (starEach es X.env)).any (·.1)=false:=by rfl):PE X (.Call (.Name x p) (e::es) [] pos) (LE (b_ r t)):=PE.imp (AZ hc hg hm hv ha hn hdb he hpl) fun _ _ _ h=>LE.cb h
theorem JY{e:Expr}{es:List Expr}{pos p:Pos}{x:Str}{T:String}{r:fm}{t:DA}(hc:bJ X (.type T) (gz r))(ha:PA X (e::es) (LA t))(hm:X.mg x=none)(hv:bootBuiltins x=some (.type T))(hg:Gl X x:=by rfl)(hn:x≠"__name__":=by decide)(hdb:(x==("__debug__":Str))=false:=by decide)
 (he:starEach (e::es) X.env=(false,eval e X.env)::starEach es X.env:=by rfl) (hpl:(backTo pos (starEach es X.env)).any (·.1)=false:=by rfl):PE X (.Call (.Name x p) (e::es) [] pos) (LE (b_ r t)):=PE.imp (zG hc hg hm hv ha hn hdb he hpl) fun _ _ _ h=>LE.cb h
theorem Kk{pos:Pos}{x:Str}{T:String}(hm:X.mg x=none)(hv:bootBuiltins x=some (.type T))(hg:Gl X x:=by rfl)(hn:x≠"__name__":=by decide)(hdb:(x==("__debug__":Str))=false:=by decide):PE X (.Name x pos) (LE (dC (.ty T))):=
 o4 (v:= .ty T) (Di hg hm hv rfl hn hdb) fun _ _=>by unfold Rep;rfl
theorem JX{e:Expr}{es:List Expr}{pos p:Pos}{x qual:Str}{st:Stmt}{ps:List Str}{f:Addr}{fd:FuncData}{k:Nat}{S:cO}{t:DA}(A:aB X.K X.mg x qual st ps f fd)(F:aw X.prog X.w X.K X.mg X.base aJ k f fd ps (aO S))(hr:cK k X.A)
 (ha:PA X (e::es) (LA t)) (hg:Gl X x:=by rfl) (hdb:(x==("__debug__":Str))=false:=by decide) (he:starEach (e::es) X.env=(false,eval e X.env)::starEach es X.env:=by rfl) (hpl:(backTo pos (starEach es X.env)).any (·.1)=false:=by rfl):
 PE X (.Call (.Name x p) (e::es) [] pos) (LE (aP S t)):=Fd F hr hg A.mg A.fn.kp A.bd ha hdb he hpl
theorem wg{M:Model}{A:Around}{E:Value→Shared→Prop}{s:Shared}{Q:Value→Shared→Prop}{x:V}{v:Value}{b:Bool}(r:RelV x v)(h:Q (.bool (v== .bool b)) s):wpAny M A (compareOp .Is v (.bool b)) Q E s:=by
 cases x
 case bl c=>
  cases r
  have e:(Value.bool c==Value.bool b)=(c==b):=by cases c<;>cases b<;>rfl
  rw[e]at h
  exact is_bool h
 all_goals first
  |(cases r;exact wpAny_pure h)
  |(obtain⟨t,rfl⟩:=r;exact wpAny_pure h)
noncomputable def vQ(d:D)(b:Bool):Bool:=match d with| .bl c=>c==b|_=>false
noncomputable def Jx(d:D):Bool:=match d with| .aC=>true|_=>false
noncomputable def Cq:dh:=fun x y st K=>match y with| .aC=>live st x=true∧K (.bl (Jx x)) st| .bl b=>live st x=true∧K (.bl (vQ x b)) st|_=>False
theorem DW{α:List (Option Addr)}{H:Hp}{st:ag}{d:D}{v:V}{u:Value}{b:Bool}(S:aT α st H)(hl:live st d=true)(r:Rep α H d v)(ru:RelV v u):(u==Value.bool b)=vQ d b:=by
 cases d
 case ref n=>
  obtain⟨a,rfl⟩:=vS S hl r
  cases ru;rfl
 all_goals unfold Rep at r
 case bl c=>
  subst r
  cases ru
  cases c<;>cases b<;>rfl
 all_goals first
  |(subst r;first|(cases ru;rfl)|(obtain⟨t,rfl⟩:=ru;rfl))
  |(obtain⟨a,vs,rfl,_⟩:=r;cases ru;rfl)
theorem Jo:bW X (compareOp .Is) (LR Cq):=fun pins s σ H x y v u Q I rx ry ⟨α,d,e,st,K,G,F',P,r1,r2,S,q,k⟩=>by
 cases e<;>try exact q.elim
 · unfold Rep at r2
   refine Gf pins s σ H x y v u Q I rx ry ⟨r2,k.here P q.2 S ?_⟩
   unfold Rep
   cases d
   case ref n=>
    obtain⟨a,rfl⟩:=vS S q.1 r1
    rfl
   all_goals(unfold Rep at r1;first|(rw[r1];rfl)|(obtain⟨a,vs,rfl,_⟩:=r1;rfl))
 · rename_i b
   unfold Rep at r2
   subst r2
   cases ry
   refine wg rx ?_
   rw[DW S q.1 r1 rx]
   exact⟨.bl (vQ d b),H,I,rfl,k.here P q.2 S (by unfold Rep;rfl)⟩
theorem LE.append{to te:DE}{σ:L2.St}{H:Hp}{Q:VK}(h:LE (mO to te) σ H Q):Gd X.K "list" xB (LE to) (LA (ae te aj)) σ H Q:=by
 obtain⟨α,σd,st,K,G,F,P,R,S,t,k⟩:=h
 refine⟨α,σd,st,_,G,F,P,R,S,t,fun x st1 q α1 G1 H1 v s1 P1 S1 r1=>?_⟩
 cases x<;>try exact q.elim
 rename_i n
 simp only at q
 split at q
 · rename_i ys e
   obtain⟨p,ep,vs,h1,h2⟩:=S1.gm e
   have r1':=dQ ep r1
   subst r1'
   refine⟨.inl ⟨rfl,vs,.inl (.of (P1.get h1))⟩,α1,σd,st1,fun ds st2=>∃y,ds=[y]∧(match st2[n]? with|some (.lst xs)=>xs.length<sizeLine∧K .aC (st2.set n (.lst (xs++[y])))|_=>False),G1,F,P1,R.step s1,S1,?_,?_⟩
   · refine Eq.mp ?_ q
     rfl
   · rintro ds st2 ⟨y,rfl,q2⟩ α2 G2 H2 ws s2 P2 S2 r2
     obtain⟨w,rfl,rw'⟩:=ie r2 rfl
     split at q2
     · rename_i xs e2
       obtain⟨p2,ep2,us,g1,g2⟩:=S2.gm e2
       have:p2=p:=by
        rcases s2.pre _ _ ep with z|z<;>(rw[z]at ep2;cases ep2)
        rfl
       subst this
       have hm:some p2∈α2:=List.mem_of_getElem? ep2
       refine⟨p2,us,w,rfl,rfl,P2.get g1,by rw[←g2.length];exact q2.1,?_⟩
       refine((k.at s1).at s2) _ _ q2.2 α2 (upd G2 p2 (.lst (us++[w]))) _ .aC (Step.write hm) (P2.write g1) ?_ (by unfold Rep;rfl)
       exact S2.write ep2 ⟨us++[w],aV,(aU.mpr (e_ (aU.mp g2) (.cons rw' .nil))).step (Step.write hm)⟩
     · exact q2.elim
 · exact q.elim
theorem BQ{o e:Expr}{to te:DE}{apos cpos:Pos}(ho:PE X o (LE to))(he:PE X e (LE te))(hbase:attributeBase o "append" X.env (eval o X.env)=eval o X.env:=by rfl)
 (hfew:((backTo cpos (starEach [e] X.env)).all (fun x=> !x.1)&&(backToKw cpos (keywordEach [] X.env)).all (fun x=>x.1.isSome)
   &&decide (([e]:List Expr).length+([]:List Keyword).length+(if([]:List Keyword).isEmpty then 0 else 1)<30))=true:=by rfl)
 (hline:(apos.endLine==cpos.line)=true:=by rfl) (hs:starEach [e] X.env=(false,eval e X.env)::starEach [] X.env:=by rfl) (hplain:(backTo cpos (starEach [] X.env)).any (·.1)=false:=by rfl):PE X (.Call (.Attribute o "append" apos) [e] [] cpos) (LE (mO to te)):=
 PE.imp (CS PySem.F.plainAttrs_list PySem.F.slot_list_append PySem.F.type_list_append tf ho (o_ he rO hs) hbase hfew hline hs hplain) fun _ _ _ h=>LE.append h
end
end L3
namespace L3
open PySem L2
open PySem.Spec hiding items?
open PyProof.Rows hiding St
section
variable {X:Cx}
@[irreducible] noncomputable def gg:dh:=C9
theorem fW:bW X (binaryOp .Add) (LR gg):=by unfold gg;exact HY
@[irreducible] noncomputable def nJ:dh:=Cz
theorem rB:bW X (binaryOp .Sub) (LR nJ):=by unfold nJ;exact IF
@[irreducible] noncomputable def cX:dh:=C_
theorem dy:bW X (binaryOp .Mult) (LR cX):=by unfold cX;exact Jg
@[irreducible] noncomputable def iI:dh:=Au
theorem ji:bW X (binaryOp .FloorDiv) (LR iI):=by unfold iI;exact FH
@[irreducible] noncomputable def jS:dh:=C4
theorem kG:bW X (binaryOp .Mod) (LR jS):=by unfold jS;exact IL
@[irreducible] noncomputable def nE:dh:=Co
theorem ud:bW X (binaryOp .Pow) (LR nE):=by unfold nE;exact Il
@[irreducible] noncomputable def p8:dh:=FI
theorem Bc:bW X (compareOp .Lt) (LR p8):=by unfold p8;exact Ko
@[irreducible] noncomputable def nP:dh:=GL
theorem uB:bW X (compareOp .Gt) (LR nP):=by unfold nP;exact J4
@[irreducible] noncomputable def xa:dh:=Hk
theorem Ki:bW X (compareOp .GtE) (LR xa):=by unfold xa;exact Kh
@[irreducible] noncomputable def mJ:dh:=Fj
theorem uA:bW X (compareOp .NotEq) (LR mJ):=by unfold mJ;exact Ku
@[irreducible] noncomputable def vL:dh:=Cq
theorem A4:bW X (compareOp .Is) (LR vL):=by unfold vL;exact Jo
@[irreducible] noncomputable def jN:dh:=GQ
theorem mE{k:Nat}(hr:cK k X.A):bW X (compareOp .Eq) (LR jN):=by unfold jN;exact Kr hr
@[irreducible] noncomputable def i5:vx:=Df
theorem II:wU X (unaryOp .USub) (Cs i5):=by unfold i5;exact Jq
@[irreducible] noncomputable def bV:dh:=nA
theorem KG{a b:Expr}{ta tb:DE}{pos:Pos}(ha:PE X a (LE ta))(hb:PE X b (LE tb))(hs:o3 b:=by intro _ _;rfl):PE X (.Subscript a b pos) (LE (ax bV ta tb)):=by unfold bV;exact Km ha hb hs
@[irreducible] noncomputable def fQ:fm:=uc
theorem fL:bJ X (.builtin "len") (gz fQ):=by unfold fQ;exact Ih
@[irreducible] noncomputable def mw:fm:=yr
theorem pD:bJ X (.builtin "abs") (gz mw):=by unfold mw;exact Jp
@[irreducible] noncomputable def sv:fm:=yS
theorem C7(hc:X.calm=true):bJ X (.builtin "max") (gz sv):=by unfold sv;exact IP hc
@[irreducible] noncomputable def u9:fm:=xT
theorem Im(hc:X.calm=true):bJ X (.builtin "min") (gz u9):=by unfold u9;exact Jl hc
@[irreducible] noncomputable def qy:fm:=yi
theorem Cw:bJ X (.type "int") (gz qy):=by unfold qy;exact Je
@[irreducible] noncomputable def eQ:fm:=pB
theorem ft:bJ X (.type "tuple") (gz eQ):=by unfold eQ;exact Dl
@[irreducible] noncomputable def ia:fm:=rK
theorem iR:bJ X (.type "list") (gz ia):=by unfold ia;exact FV
@[irreducible] noncomputable def om:fm:=o6
theorem DH:bJ X (.type "list") (gz om):=by unfold om;exact Ee
@[irreducible] noncomputable def r8:fm:=ue
theorem CK:bJ X (.builtin "isinstance") (gz r8):=by unfold r8;exact IH
@[irreducible] noncomputable def oG:D→ag→(List D→(ag→Prop)→ag→Prop)→Prop:=u6
noncomputable def e7(t:DE):DI:=fun σ st K=>t σ st fun d st1=>oG d st1 K
theorem F_{l tg:Expr}{tl:DE}(hl:PE X l (LE tl)):PI X tg l (LI (e7 tl)):=by unfold e7 oG;exact Ff hl
@[irreducible] noncomputable def ux:List D→ag→(List D→(ag→Prop)→ag→Prop)→Prop:=CD
@[irreducible] noncomputable def uw:List D→ag→(List D→(ag→Prop)→ag→Prop)→Prop:=Dg
noncomputable def dD(t:DA):DI:=fun σ st K=>t σ st fun ds st1=>ux ds st1 K
noncomputable def la(t:DA):DI:=fun σ st K=>t σ st fun ds st1=>uw ds st1 K
theorem zL{tg iter:Expr}{t:DA}(h:PI X tg iter (yq (LA t))):PI X tg iter (LI (dD t)):=by unfold dD ux;exact zb h
theorem z9{tg iter:Expr}{t:DA}(h:PI X tg iter (yH (LA t))):PI X tg iter (LI (la t)):=by unfold la uw;exact Ag h
@[irreducible] noncomputable def rT:D→D→D→ag→(ag→Prop)→Prop:=wb
noncomputable def eP(to ti te:DE):DS:=fun D σ st=>te σ st fun d st1=>to σ st1 fun x st2=>ti σ st2 fun y st3=>rT x y d st3 fun st4=>D.nx σ st4
theorem vD{st:Stmt}{to ti te:DE}(h:PS X st (jV (LE te) (sE (LE to) (LE ti) o8))):PS X st (LS (eP to ti te)):=by unfold eP rT;exact Bq h
end
section
variable {st:ag}{K:DK}{i j:Int}{b c:Bool}{xs ys:List D}{d e:D}{n:Nat}
theorem eU(k:K (.int (i+j)) st):gg (.int i) (.int j) st K:=by unfold gg;exact k
theorem oR(k:K (.int (i-j)) st):nJ (.int i) (.int j) st K:=by unfold nJ;exact⟨trivial,k⟩
theorem dc(h:IntMulOk i j)(k:K (.int (i*j)) st):cX (.int i) (.int j) st K:=by unfold cX;exact⟨h,k⟩
theorem DY(h: -(2^63)≤i∧i<2^63∧xs.length*i.toNat≤sizeLine)(k:K (.lst (List.replicate i.toNat xs).flatten) st):cX (.lst xs) (.int i) st K:=by unfold cX;exact⟨h,k⟩
theorem sD(h: -(2^63)≤i∧i<2^63∧xs.length*i.toNat≤sizeLine)(k:K (.tup (List.replicate i.toNat xs).flatten) st):cX (.tup xs) (.int i) st K:=by unfold cX;exact⟨h,k⟩
theorem iK(h0:j≠0)(h:j.natAbs.log2<9000)(k:K (.int (i.fdiv j)) st):iI (.int i) (.int j) st K:=by unfold iI;exact⟨⟨h0,h⟩,k⟩
theorem jD(h0:j≠0)(k:K (.int (i.fmod j)) st):jS (.int i) (.int j) st K:=by unfold jS;exact⟨h0,k⟩
theorem qM(h:Br i j)(k:K (.int (i^j.toNat)) st):nE (.int i) (.int j) st K:=by unfold nE;exact⟨h,k⟩
theorem CG(k:K (.bl (decide (i<j))) st):p8 (.int i) (.int j) st K:=by unfold p8;exact⟨trivial,k⟩
theorem yB(k:K (.bl (decide (j<i))) st):nP (.int i) (.int j) st K:=by unfold nP;exact⟨trivial,k⟩
theorem Ia(k:K (.bl (decide (j≤i))) st):xa (.int i) (.int j) st K:=by unfold xa;exact⟨trivial,k⟩
theorem CM(k:K (.bl (!decide (i=j))) st):mJ (.int i) (.int j) st K:=by unfold mJ;exact k
theorem oW(h:live st d=true)(k:K (.bl (Jx d)) st):vL d .aC st K:=by unfold vL;exact⟨h,k⟩
theorem HX(h1:pl 40 d=true)(h2:pl 40 e=true)(k:K (.bl (cJ d e)) st):jN d e st K:=by unfold jN;exact⟨h1,h2,k⟩
theorem EF(a b:Int):(a==b)=decide (a=b):=by
 by_cases h:a=b
 · subst h;simp
 · simp[h]
theorem zF(k:K (.bl (decide (i=j))) st):jN (.int i) (.int j) st K:=by
 refine HX rfl rfl ?_
 have:cJ (.int i) (.int j)=decide (i=j):=by unfold cJ;exact EF i j
 rw[this];exact k
theorem iV(k:K (.int (-i)) st):i5 (.int i) st K:=by unfold i5;exact k
theorem Bp(h:items? st d=some xs)(a:dJ xs i=some e)(k:K e st):nA d (.int i) st K:=by
 cases d<;>unfold items? at h<;>first
  |(cases h;done)
  |(cases h;simp only[nA,a];exact k)
  |(simp only at h
    split at h
    · rename_i q
      cases h
      simp only[nA,q,a]
      exact k
    · cases h)
theorem a_(h:items? st d=some xs)(a:dJ xs i=some e)(k:K e st):bV d (.int i) st K:=by unfold bV;exact Bp h a k
theorem eA(h:items? st d=some xs)(k:K (.int xs.length) st):fQ [d] st K:=by
 unfold fQ uc
 split
 · rename_i z;cases z;cases h
 · rename_i z;cases z;rw[h];exact k
 · rename_i z1 z2;exact absurd rfl (z2 d)
theorem Dk(i:Int):(if i<0 then-i else i)=((i.natAbs:Nat):Int):=by split<;>omega
theorem mI(k:K (.int ((i.natAbs:Nat):Int)) st):mw [.int i] st K:=by unfold mw;show K (.int (if i<0 then-i else i)) st;rw[Dk];exact k
theorem za(k:K (.int (if j>i then j else i)) st):sv [.int i,.int j] st K:=by unfold sv;exact k
theorem Hm(k:K (.int (if j<i then j else i)) st):u9 [.int i,.int j] st K:=by unfold u9;exact k
theorem sq(k:K (.int (if b then 1 else 0)) st):qy [.bl b] st K:=by unfold qy;exact k
theorem eE(h:items? st d=some xs)(k:K (.tup xs) st):eQ [d] st K:=by unfold eQ pB;simp only[h];exact k
theorem g_(h:items? st d=some xs)(k:K (.lst xs) st):ia [d] st K:=by unfold ia rK;simp only[h];exact k
theorem Cf(h:items? st d=some xs)(k:K (.ref st.length) (st++[.lst xs])):om [d] st K:=by unfold om o6;simp only[h];exact k
theorem Ab{t c:String}(h:iG st d=some t)(hc:c∈kW)(k:K (.bl (qw t c)) st):r8 [d,.ty c] st K:=by unfold r8 ue;simp only[h];exact⟨hc,k⟩
theorem iO{K:List D→(ag→Prop)→ag→Prop}(h:items? st d=some xs)(k:∀ok:ag→Prop,ok st→K xs ok st):oG d st K:=by
 unfold oG u6
 cases d<;>unfold items? at h<;>first
  |(cases h;done)
  |(cases h;exact k _ trivial)
  |(simp only at h
    split at h
    · rename_i q
      cases h
      simp only[q]
      exact k _ q
    · cases h)
theorem xo{K:List D→(ag→Prop)→ag→Prop}(k:K xs (fun _=>True) st):oG (.lst xs) st K:=by unfold oG;exact k
theorem mK{K:List D→(ag→Prop)→ag→Prop}(k:K xs (fun _=>True) st):oG (.tup xs) st K:=by unfold oG;exact k
theorem eC{K:List D→(ag→Prop)→ag→Prop}(h: -(2^62)≤j∧j<2^62)(k:K (dw 0 j.toNat) (fun _=>True) st):ux [.int j] st K:=by unfold ux;exact⟨h,k⟩
theorem rV{K:List D→(ag→Prop)→ag→Prop}(h: -(2^62)≤i∧i<2^62∧ -(2^62)≤j∧j<2^62)(k:K (dw i (j-i).toNat) (fun _=>True) st):uw [.int i,.int j] st K:=by unfold uw;exact⟨h,k⟩
theorem fF{K:ag→Prop}{m:Nat}(h:st[n]?=some (.lst xs))(e:jK xs.length i=some m)(k:K (st.set n (.lst (xs.set m d)))):rT (.ref n) (.int i) d st K:=by unfold rT wb;simp only[h,e];exact k
end
end L3
namespace L3
open PySem L2
open PySem.Spec hiding items?
open PyProof.Rows hiding St
noncomputable def vn(K:PySem.W.Frag):Bool:=K.all fun p=>p.2.cls != .type "list"
theorem p_{a:Addr}{o:Obj}:∀ {l:List (Addr×Obj)},l.lookup a=some o→(a,o)∈l
 | [],h=>by cases h
 |(b,u)::r,h=>by
  rw[List.lookup_cons]at h
  split at h
  · rename_i z
    cases h
    have:a=b:=by simpa using z
    subst this
    exact List.mem_cons_self
  · exact List.mem_cons_of_mem _ (p_ h)
theorem t_{K:PySem.W.Frag}(h:vn K=true){a:Addr}{o:Obj}(e:K.lookup a=some o):o.cls≠ .type "list":=by
 have:=List.all_eq_true.mp h (a,o) (p_ e)
 simpa using this
theorem tJ{α:List (Option Addr)}{G:Hp}:∀ns:List Int,aN α G (ns.map D.int) (ns.map V.int)
 | []=>by unfold aN;rfl
 |n::ns=>by
  rw[List.map_cons,List.map_cons]
  unfold aN
  exact⟨_,_,rfl,by unfold Rep;rfl,tJ ns⟩
end L3
namespace L3
open PySem L2
open PySem.Spec hiding items?
open PyProof.Rows hiding St
noncomputable def notStar:Expr→Bool
 | .Starred .. =>false
 |_=>true
theorem cu{e:Expr}{es:List Expr}{env:Env}(h:notStar e=true):starEach (e::es) env=(false,eval e env)::starEach es env:=by
 cases e<;>first|rfl|cases h
noncomputable def gJ:List Expr→Bool
 | []=>true
 |e::es=>notStar e&&gJ es
theorem jT{pos:Pos}{env:Env}:∀ {es:List Expr},gJ es=true→(backTo pos (starEach es env)).any (·.1)=false
 | [],_=>rfl
 |e::es,h=>by
  unfold gJ at h
  rw[Bool.and_eq_true]at h
  rw[cu h.1]
  have ih:=jT (pos:=pos) (env:=env) h.2
  unfold backTo at ih⊢
  rw[List.map_cons,List.any_cons,ih]
  rfl
noncomputable def i4:Expr→Bool
 | .Slice .. =>false
 |_=>true
noncomputable def ou:Expr→Bool
 | .Name .. =>true
 | .Call .. =>true
 | .Subscript .. =>true
 | .Attribute .. =>true
 |_=>false
noncomputable def jR:Expr→Bool
 | .ListComp .. =>false
 | .SetComp .. =>false
 | .DictComp .. =>false
 |_=>true
section
variable {X:Cx}
theorem A_{b:Expr}(h:i4 b=true):o3 b:=by
 intro o i
 cases b<;>first|rfl|cases h
theorem yK{e:Expr}(h:ou e=true):∀whole,isTrue e X.env whole=(do let v ←whole;standAt e.pos;holding [v] (truthy v)):=by
 intro whole
 cases e<;>first|(cases h;done)|rfl
theorem rW{e:Expr}{tg:Option Expr}{n:Nat}{env:Env}(h:jR e=true):swapsWith e tg n env=pure false:=by
 cases e<;>first|(cases h;done)|rfl
theorem AU{e:Expr}{es:List Expr}{te:DE}{tr:DA}(ha:PE X e (LE te))(hr:PA X es (LA tr))(hs:notStar e=true:=by rfl):PA X (e::es) (LA (ae te tr)):=o_ ha hr (cu hs)
theorem IS{e:Expr}{es:List Expr}{pos p:Pos}{x:Str}{id:String}{r:fm}{t:DA}(hc:bJ X (.builtin id) (gz r))(ha:PA X (e::es) (LA t))(hm:X.mg x=none)(hv:bootBuiltins x=some (.builtin id))(hn:x≠"__name__")(hdb:(x==("__debug__":Str))=false)(hg:Gl X x:=by rfl)(hs:notStar e=true:=by rfl)(hs2:gJ es=true:=by rfl):
 PE X (.Call (.Name x p) (e::es) [] pos) (LE (b_ r t)):=Kf hc ha hm hv hg hn hdb (cu hs) (jT hs2)
theorem IA{e:Expr}{es:List Expr}{pos p:Pos}{x:Str}{T:String}{r:fm}{t:DA}(hc:bJ X (.type T) (gz r))(ha:PA X (e::es) (LA t))(hm:X.mg x=none)(hv:bootBuiltins x=some (.type T))(hn:x≠"__name__")(hdb:(x==("__debug__":Str))=false)(hg:Gl X x:=by rfl)(hs:notStar e=true:=by rfl)(hs2:gJ es=true:=by rfl):
 PE X (.Call (.Name x p) (e::es) [] pos) (LE (b_ r t)):=JY hc ha hm hv hg hn hdb (cu hs) (jT hs2)
theorem IZ{e:Expr}{es:List Expr}{pos p:Pos}{x qual:Str}{st:Stmt}{ps:List Str}{f:Addr}{fd:FuncData}{k:Nat}{S:cO}{t:DA}(A:aB X.K X.mg x qual st ps f fd)(F:aw X.prog X.w X.K X.mg X.base aJ k f fd ps (aO S))(hr:cK k X.A)
 (ha:PA X (e::es) (LA t)) (hdb:(x==("__debug__":Str))=false) (hg:Gl X x:=by rfl) (hs:notStar e=true:=by rfl) (hs2:gJ es=true:=by rfl):
 PE X (.Call (.Name x p) (e::es) [] pos) (LE (aP S t)):=JX A F hr ha hg hdb (cu hs) (jT hs2)
theorem Jb{a b:Expr}{ta tb:DE}{pos:Pos}(ha:PE X a (LE ta))(hb:PE X b (LE tb))(hs:i4 b=true:=by rfl):PE X (.Subscript a b pos) (LE (ax bV ta tb)):=KG ha hb (A_ hs)
theorem Eb{e:Expr}{te:DE}(he:PE X e (LE te))(h:ou e=true:=by rfl):PT X e (LT (bQ te)):=GK he (yK h)
theorem BD{e:Expr}{te:DE}{pos:Pos}(he:PE X e (LE te))(h:jR e=true:=by rfl):PS X (.Expr e pos) (LS (jx te)):=EB he (rW h)
theorem Dy{i:Nat}{x:Str}{e:Expr}{te:TE}{pos pos':Pos}(hN:X.N.Nodup)(hi:X.N[i]?=some x)(hx:Loc X.env.scope x)(he:PE X e te)(hf:X.fn x=true∨X.env.scope.names.lookup x=some .local:=by first|exact .inl rfl|exact .inr rfl)(h:jR e=true:=by rfl):
 PS X (.Assign [.Name x pos'] e pos) (jV te (jZ i)):=zI hN hi hx he (rW h) hf
theorem EN{i:Nat}{x:Str}{pos:Pos}(hd:(x==("__debug__":Str))=false)(hcd:(x==("__classdict__":Str))=false)(hv:vc X.env.scope x)(hN:X.N[i]?=some x:=by rfl):PE X (.Name x pos) (LE (ab i)):=HV (FR hN hv hd hcd)
theorem GY{o i e:Expr}{to ti te:TE}{pos pos':Pos}(he:PE X e te)(ho:PE X o to)(hi:PE X i ti)(h1:jR e=true:=by rfl)(h2:i4 i=true:=by rfl):PS X (.Assign [.Subscript o i pos'] e pos) (jV te (sE to ti o8)):=
 rL he (qH ho hi set_list (by intro v;cases i<;>first|rfl|cases h2)) (by unfold swapsWithSole;exact rW h1) (by cases e<;>rfl) rfl
end
end L3
namespace L3
open PySem L2
open PySem.Spec hiding items?
open PyProof.Rows hiding St
@[irreducible] noncomputable def JE(X:Cx)(e:Expr)(t:DE):Prop:=PE X e (LE t)
@[irreducible] noncomputable def JT(X:Cx)(e:Expr)(t:DT):Prop:=PT X e (LT t)
@[irreducible] noncomputable def JW(X:Cx)(e:Expr)(t:DT):Prop:=PW X e (LT t)
@[irreducible] noncomputable def JA(X:Cx)(es:List Expr)(t:DA):Prop:=PA X es (LA t)
@[irreducible] noncomputable def JS(X:Cx)(s:Stmt)(t:DS):Prop:=PS X s (LS t)
@[irreducible] noncomputable def JB(X:Cx)(s:List Stmt)(t:DS):Prop:=gM X s (LS t)
@[irreducible] noncomputable def JG(X:Cx)(e:Expr)(t:eZ):Prop:=PG X e (LG t)
@[irreducible] noncomputable def JI(X:Cx)(tg e:Expr)(t:DI):Prop:=PI X tg e (LI t)
@[irreducible] noncomputable def JC(X:Cx)(es:List Expr)(t:DT):Prop:=oH X es (LT t)
section
variable {X:Cx}{a b c e o i:Expr}{es:List Expr}{ta tb tc te to ti:DE}{t u:DT}{ar:DA}{pos p pos':Pos}{s:Stmt}{ss:List Stmt}{T U:DS}
theorem zh{n:Nat}{x:Str}(hd:(x==("__debug__":Str))=false)(hcd:(x==("__classdict__":Str))=false)(hv:vc X.env.scope x)(hN:X.N[n]?=some x:=by rfl):JE X (.Name x pos) (ab n):=by unfold JE;exact EN hd hcd hv hN
theorem Fo{x:Str}{T:String}(hm:X.mg x=none)(hv:bootBuiltins x=some (.type T))(hn:x≠"__name__")(hdb:(x==("__debug__":Str))=false)(hg:Gl X x):JE X (.Name x pos) (dC (.ty T)):=by unfold JE;exact Kk hm hv hg hn hdb
theorem av{k:Int}{j:Nat}:JE X (.Constant (.int k) j pos) (dC (.int k)):=by unfold JE;exact Jn
theorem oZ{k:Bool}{j:Nat}:JE X (.Constant (.bool k) j pos) (dC (.bl k)):=by unfold JE;exact Kq
theorem m6{j:Nat}:JE X (.Constant .none j pos) (dC .aC):=by unfold JE;exact Jk
theorem bp{op:Operator}{r:dh}(ho:bW X (binaryOp op) (LR r))(ha:JE X a ta)(hb:JE X b tb):JE X (.BinOp a op b pos) (ax r ta tb):=by unfold JE at*;exact KA ho ha hb
theorem j4(ha:JE X a ta):JE X (.UnaryOp .USub a pos) (mT i5 ta):=by unfold JE at*;exact J5 II ha
theorem Iz(ha:JE X a ta):JE X (.UnaryOp .Not a pos) (yj (bQ ta)):=by unfold JE at*;exact Jm ha
theorem IJ{op:BoolOp}(ha:JE X a ta):JE X (.BoolOp op [a] pos) ta:=by unfold JE at*;exact Ii ha
theorem CF(ha:JE X a ta)(hb:JE X (.BoolOp .And (b::es) pos) tb):JE X (.BoolOp .And (a::b::es) pos) (uf ta tb):=by unfold JE at*;exact HZ ha hb
theorem uo{op:CmpOp}{r:dh}(ho:bW X (compareOp op) (LR r))(hm:behindInMarks op b=false)(ha:JE X a ta)(hb:JE X b tb):JE X (.Compare a [op] [b] pos) (ax r ta tb):=by unfold JE at*;exact HR ho ha hb hm
theorem xY(hc:JT X c t)(ha:JE X a ta)(hb:JE X b tb):JE X (.IfExp c a b pos) (xt t ta tb):=by unfold JE at*;unfold JT at hc;exact H0 hc ha hb
theorem iH{n:Nat}(h:JA X es ar):JE X (.Tuple es n pos) (i6 ar):=by unfold JE;unfold JA at h;exact HN h
theorem uq(h:JA X es ar):JE X (.List es pos) (sy ar):=by unfold JE;unfold JA at h;exact Iv h
theorem Cg(h:JA X es ar):JE X (.List es pos) (vA ar):=by unfold JE;unfold JA at h;exact Ir h
theorem ai:JA X [] aj:=by unfold JA;exact rO
theorem aa(ha:JE X e te)(hr:JA X es ar)(hs:notStar e=true:=by rfl):JA X (e::es) (ae te ar):=by unfold JA at*;unfold JE at ha;exact AU ha hr hs
theorem bA(ha:JE X a ta)(hb:JE X b tb)(hs:i4 b=true:=by rfl):JE X (.Subscript a b pos) (ax bV ta tb):=by unfold JE at*;exact Jb ha hb hs
theorem dP{x:Str}{id:String}{r:fm}(hc:bJ X (.builtin id) (gz r))(ha:JA X (e::es) ar)(hm:X.mg x=none)(hv:bootBuiltins x=some (.builtin id))(hn:x≠"__name__")(hdb:(x==("__debug__":Str))=false)(hg:Gl X x)(hs:notStar e=true:=by rfl)(hs2:gJ es=true:=by rfl):JE X (.Call (.Name x p) (e::es) [] pos) (b_ r ar):=by
 unfold JE;unfold JA at ha;exact IS hc ha hm hv hn hdb hg hs hs2
theorem eO{x:Str}{T:String}{r:fm}(hc:bJ X (.type T) (gz r))(ha:JA X (e::es) ar)(hm:X.mg x=none)(hv:bootBuiltins x=some (.type T))(hn:x≠"__name__")(hdb:(x==("__debug__":Str))=false)(hg:Gl X x)(hs:notStar e=true:=by rfl)(hs2:gJ es=true:=by rfl):JE X (.Call (.Name x p) (e::es) [] pos) (b_ r ar):=by
 unfold JE;unfold JA at ha;exact IA hc ha hm hv hn hdb hg hs hs2
theorem bg{x qual:Str}{st:Stmt}{ps:List Str}{f:Addr}{fd:FuncData}{k:Nat}{S:cO}(A:aB X.K X.mg x qual st ps f fd)(F:aw X.prog X.w X.K X.mg X.base aJ k f fd ps (aO S))(hr:cK k X.A)(ha:JA X (e::es) ar)(hdb:(x==("__debug__":Str))=false)(hg:Gl X x)(hs:notStar e=true:=by rfl)(hs2:gJ es=true:=by rfl):
 JE X (.Call (.Name x p) (e::es) [] pos) (aP S ar):=by unfold JE;unfold JA at ha;exact IZ A F hr ha hdb hg hs hs2
theorem A7{apos cpos:Pos}(ho:JE X o to)(he:JE X e te)(hbase:attributeBase o "append" X.env (eval o X.env)=eval o X.env:=by rfl)(hline:(apos.endLine==cpos.line)=true:=by rfl)(hs:notStar e=true:=by rfl):JE X (.Call (.Attribute o "append" apos) [e] [] cpos) (mO to te):=by
 unfold JE at*
 refine BQ ho he hbase ?_ hline (cu hs) rfl
 rw[cu hs]
 rfl
theorem cV{op:CmpOp}{r:dh}(ho:bW X (compareOp op) (LR r))(hm:behindInMarks op b=false)(ha:JE X a ta)(hb:JE X b tb):JT X (.Compare a [op] [b] pos) (bQ (ax r ta tb)):=by unfold JE at*;unfold JT;exact GA ho ha hb hm
theorem mW(ha:JT X a t):JT X (.UnaryOp .Not a pos) (lZ t):=by unfold JT at*;exact Hc ha
theorem kc(he:JE X e te)(h:ou e=true:=by rfl):JT X e (bQ te):=by unfold JT;unfold JE at he;exact Eb he h
theorem E4(ha:JT X a t):JW X (.BoolOp .And [a] pos) t:=by unfold JW;unfold JT at ha;exact Dx ha
theorem FN(ha:JT X a t):JW X (.BoolOp .Or [a] pos) t:=by unfold JW;unfold JT at ha;exact HJ ha
theorem Gp(ha:JT X a t)(hb:JW X (.BoolOp .And (b::es) pos) u):JW X (.BoolOp .And (a::b::es) pos) (uj t u):=by unfold JW at*;unfold JT at ha;exact Hq ha hb
theorem Jd(ha:JT X a t)(hb:JW X (.BoolOp .Or (b::es) pos) u):JW X (.BoolOp .Or (a::b::es) pos) (yW t u):=by unfold JW at*;unfold JT at ha;exact IB ha hb
theorem CH(h:JW X e t):JT X e t:=by unfold JT;unfold JW at h;exact PW.pt h
theorem fX{l tg:Expr}(hl:JE X l ta):JI X tg l (e7 ta):=by unfold JI;unfold JE at hl;exact F_ hl
theorem dM{tg:Expr}(hg:Gl X "range")(hm:X.mg "range"=none)(ha:JA X [a] ar)(hs:notStar a=true:=by rfl):JI X tg (.Call (.Name "range" p) [a] [] pos) (dD ar):=by unfold JI;unfold JA at ha;exact zL (zE hg hm ha (cu hs))
theorem qr{tg:Expr}(hg:Gl X "range")(hm:X.mg "range"=none)(ha:JA X [a,b] ar)(hs:notStar a=true:=by rfl)(hs2:notStar b=true:=by rfl):JI X tg (.Call (.Name "range" p) [a,b] [] pos) (la ar):=by unfold JI;unfold JA at ha;exact z9 (zg hg hm ha (by rw[cu hs,cu hs2];rfl) (cu hs2))
theorem de{k:Nat}{x:Str}(hN:X.N.Nodup)(hx:Loc X.env.scope x)(hf:X.fn x=true∨X.env.scope.names.lookup x=some .local)(hi:X.N[k]?=some x:=by rfl):JG X (.Name x pos) (bE k):=by unfold JG;exact DP (sj hN hi hx hf)
theorem mi{k j n:Nat}{x y:Str}{px py:Pos}(hc:X.calm=true)(hN:X.N.Nodup)(hx:Loc X.env.scope x)(hf:X.fn x=true∨X.env.scope.names.lookup x=some .local)(hy:Loc X.env.scope y)(hg:X.fn y=true∨X.env.scope.names.lookup y=some .local)(hi:X.N[k]?=some x:=by rfl)(hj:X.N[j]?=some y:=by rfl):
 JG X (.Tuple [.Name x px,.Name y py] n pos) (iE k j):=by unfold JG;exact GH (As hc (nO (sj hN hi hx hf) (nO (sj hN hj hy hg) xl)))
theorem cF:JC X [] cG:=by unfold JC;exact Bj
theorem uE(h:JT X c t):JC X [c] t:=by unfold JC;unfold JT at h;exact Hf h
theorem d7{scope:Scope}{Nc:List Str}{elt tg iter:Expr}{ifs:List Expr}{src:DI}{fr:List (Option Nat)}{dtg:eZ}(S:br X scope Nc fr)(hi:JI X tg iter src)(hg:∀C s H ex,JG (eY X scope Nc C s H ex) tg dtg)(ht:∀C s H ex,JC (eY X scope Nc C s H ex) ifs t)(he:∀C s H ex,JE (eY X scope Nc C s H ex) elt te)(fit:iz fr dtg)
 (hx:X.xe=fun _ _=>False:=by rfl) (hc:X.calm=true:=by rfl) (hs:∀x,foldedSetIterable iter X.env x=pure x:=by intro _;rfl):JE X (.ListComp elt [⟨tg,iter,ifs,0⟩] scope pos) (du src fr dtg t te):=by
 unfold JE JI JG JC at*;exact FG S hi hg ht he fit hx hc hs
theorem sA{scope:Scope}{Nc:List Str}{elt tg iter:Expr}{ifs:List Expr}{src:DI}{fr:List (Option Nat)}{dtg:eZ}(S:br X scope Nc fr)(hi:JI X tg iter src)(hg:∀C s H ex,JG (eY X scope Nc C s H ex) tg dtg)(ht:∀C s H ex,JC (eY X scope Nc C s H ex) ifs t)(he:∀C s H ex,JE (eY X scope Nc C s H ex) elt te)(fit:iz fr dtg)
 (hx:X.xe=fun _ _=>False:=by rfl) (hc:X.calm=true:=by rfl) (hs:∀x,foldedSetIterable iter X.env x=pure x:=by intro _;rfl):JE X (.ListComp elt [⟨tg,iter,ifs,0⟩] scope pos) (ke src fr dtg t te):=by
 unfold JE JI JG JC at*;exact Es S hi hg ht he fit hx hc hs
theorem dU:JB X [] eM:=by unfold JB;exact EI
theorem aE(h:JS X s T):JB X [s] T:=by unfold JB;unfold JS at h;exact EK h
theorem ao(h:JS X s T)(h2:JB X ss U):JB X (s::ss) (aG T U):=by unfold JB at*;unfold JS at h;exact Ca h h2
theorem bx(h:JE X e te):JS X (.Return (some e) pos) (cv te):=by unfold JS;unfold JE at h;exact HK h
theorem jh(h:JE X e te)(hc:jR e=true:=by rfl):JS X (.Expr e pos) (jx te):=by unfold JS;unfold JE at h;exact BD h hc
theorem eH{x y:List Stmt}(hc:JT X c t)(ha:JB X x T)(hb:JB X y U):JS X (.If c x y pos) (fG t T U):=by unfold JS;unfold JB at*;unfold JT at hc;exact IC hc ha hb
theorem qg{x:List Stmt}(hc:JT X c t)(hb:JB X x T)(hx:X.xe=fun _ _=>False:=by rfl):JS X (.While c x [] pos) (oi t T):=by unfold JS;unfold JB at hb;unfold JT at hc;exact Bh (A8 (by rw[hx];exact PassesOwn.never) hc hb)
theorem fy{tg iter:Expr}{x:List Stmt}{src:DI}{dtg:eZ}(hi:JI X tg iter src)(hg:JG X tg dtg)(hb:JB X x T)(hx:X.xe=fun _ _=>False:=by rfl)(hc:X.calm=true:=by rfl)(hs:∀x,foldedSetIterable iter X.env x=pure x:=by intro _;rfl):JS X (.For tg iter x [] pos) (hW src dtg T):=by
 unfold JS;unfold JI at hi;unfold JG at hg;unfold JB at hb;exact Hb (Fe (by rw[hx];exact PassesOwn.never) hc hi hg hb hs)
theorem aR{k:Nat}{x:Str}(hN:X.N.Nodup)(hx:Loc X.env.scope x)(he:JE X e te)(hf:X.fn x=true∨X.env.scope.names.lookup x=some .local:=by first|exact .inl rfl|exact .inr rfl)(h:jR e=true:=by rfl)(hi:X.N[k]?=some x:=by rfl):JS X (.Assign [.Name x pos'] e pos) (bf k te):=by
 unfold JS;unfold JE at he;exact zR (Dy hN hi hx he hf h)
theorem o7{scope:Scope}{Nc:List Str}{elt tg iter:Expr}{ifs:List Expr}{src:DI}{fr:List (Option Nat)}{dtg:eZ}{k:Nat}{x:Str}(hN:X.N.Nodup)(hl:Loc X.env.scope x)(S:br X scope Nc fr)(hi:JI X tg iter src)(hg:∀C s H ex,JG (eY X scope Nc C s H ex) tg dtg)(ht:∀C s H ex,JC (eY X scope Nc C s H ex) ifs t)(he:∀C s H ex,JE (eY X scope Nc C s H ex) elt te)(fit:iz fr dtg)
 (hf:X.fn x=true∨X.env.scope.names.lookup x=some .local:=by first|exact .inl rfl|exact .inr rfl) (hsw:swapsWith (.ListComp elt [⟨tg,iter,ifs,0⟩] scope p) (some (.Name x pos')) pos.line X.env=pure true:=by rfl) (hni:X.N[k]?=some x:=by rfl) (hx:X.xe=fun _ _=>False:=by rfl) (hc:X.calm=true:=by rfl) (hs:∀x,foldedSetIterable iter X.env x=pure x:=by intro _;rfl):
 JS X (.Assign [.Name x pos'] (.ListComp elt [⟨tg,iter,ifs,0⟩] scope p) pos) (bf k (du src fr dtg t te)):=by
 unfold JS;unfold JE JI JG JC at*;exact EA fit (xk hx hc S hi hg ht he hN hni hl hf hsw hs)
theorem B9{scope:Scope}{Nc:List Str}{elt tg iter:Expr}{ifs:List Expr}{src:DI}{fr:List (Option Nat)}{dtg:eZ}{k:Nat}{x:Str}(hN:X.N.Nodup)(hl:Loc X.env.scope x)(S:br X scope Nc fr)(hi:JI X tg iter src)(hg:∀C s H ex,JG (eY X scope Nc C s H ex) tg dtg)(ht:∀C s H ex,JC (eY X scope Nc C s H ex) ifs t)(he:∀C s H ex,JE (eY X scope Nc C s H ex) elt te)(fit:iz fr dtg)
 (hf:X.fn x=true∨X.env.scope.names.lookup x=some .local:=by first|exact .inl rfl|exact .inr rfl) (hsw:swapsWith (.ListComp elt [⟨tg,iter,ifs,0⟩] scope p) (some (.Name x pos')) pos.line X.env=pure true:=by rfl) (hni:X.N[k]?=some x:=by rfl) (hx:X.xe=fun _ _=>False:=by rfl) (hc:X.calm=true:=by rfl) (hs:∀x,foldedSetIterable iter X.env x=pure x:=by intro _;rfl):
 JS X (.Assign [.Name x pos'] (.ListComp elt [⟨tg,iter,ifs,0⟩] scope p) pos) (bf k (ke src fr dtg t te)):=by
 unfold JS;unfold JE JI JG JC at*;exact Bg fit (xk hx hc S hi hg ht he hN hni hl hf hsw hs)
theorem fC(he:JE X e te)(ho:JE X o to)(hi:JE X i ti)(h1:jR e=true:=by rfl)(h2:i4 i=true:=by rfl):JS X (.Assign [.Subscript o i pos'] e pos) (eP to ti te):=by unfold JS;unfold JE at*;exact vD (GY he ho hi h1 h2)
theorem GB{k:Nat}{x:Str}{op:Operator}{f:Int→Int→Int}(hN:X.N.Nodup)(hx:Loc X.env.scope x)(he:JE X e te)(ho:Fl X op (Gx f))(hf:X.fn x=true∨X.env.scope.names.lookup x=some .local:=by first|exact .inl rfl|exact .inr rfl)(hi:X.N[k]?=some x:=by rfl):JS X (.AugAssign (.Name x pos') op e pos) (yG k (vI f) te):=by
 unfold JS;unfold JE at he;exact HC (HH hN hi hx he ho hf)
theorem vE{k j kt k2:Nat}{x y:Str}{px py pt pt2:Pos}(hN:X.N.Nodup)(hij:k≠j)(hx:X.env.scope.names.lookup x=some .local)(hy:X.env.scope.names.lookup y=some .local)(ha:JA X [a,b] ar)
 (hw:swappedStores [.Tuple [.Name x px,.Name y py] kt pt] (.Tuple [a,b] k2 pt2) X.env=pure (some [x,y]):=by rfl) (hc:X.calm=true:=by rfl) (hi:X.N[k]?=some x:=by rfl) (hj:X.N[j]?=some y:=by rfl) (hs:swapsWithSole [.Tuple [.Name x px,.Name y py] kt pt] (.Tuple [a,b] k2 pt2) pos.line X.env=pure false:=by rfl):
 JS X (.Assign [.Tuple [.Name x px,.Name y py] kt pt] (.Tuple [a,b] k2 pt2) pos) (va k j ar):=by unfold JS;unfold JA at ha;exact He (FY hc hN hi hj hij hx hy ha hw hs)
theorem Hx{tg:Expr}{dtg:eZ}(he:JE X e te)(hg:JG X tg dtg)(hs:swapsWithSole [tg] e pos.line X.env=pure false:=by rfl)(hw:swappedStores [tg] e X.env=pure none:=by rfl)(h1:(assignEach [tg] X.env).map (·.2)=[assign tg X.env]:=by rfl):JS X (.Assign [tg] e pos) (AS dtg te):=by
 unfold JS;unfold JE at he;unfold JG at hg;exact Hw (rL he hg hs hw h1)
end
theorem cD{P:Program}{w:World}{K:PySem.W.Frag}{mg:Str→Option Value}{base:Heap}{x qual:Str}{st:Stmt}{f:Addr}{fd:FuncData}{N ps:List Str}{k:Nat}{sp:cO}{t:DS}(F:mX K x qual st f fd)(S:bo N ps (af st))
 (hbody:∀(cdv:Value) (A:Around) (outer:List Env) (s:Shared) (H:Hp) (E:XK),cK k (A.deeper (envOfC qual (af st) s.heap.objs.size f cdv))→JB (nh aJ P w K mg base N qual (af st) f cdv A outer s H E).tw (aY st) t)
 (hsp:∀ds st K,sp ds st K→ds.length=ps.length∧t {nx:=fun _ st'=>K .aC st',rt:=K} (bw N ds) st):aw P w K mg base aJ (k+1) f fd ps (aO sp):=by
 unfold JB at hbody;exact Io F S hbody hsp
end L3
namespace HT
open PySem PyProof.Rows
section
variable {prog:Program}{w:World}{A:Around}{E:Value→Shared→Prop}{s:Shared}
theorem nY{t sl:Addr}{items:Array Value}{vl vu:Value}{lo hi:Option Int}{Q:Value→Shared→Prop}(ht:IsTup s.heap t items)(hs:s.heap.IsSliceOf sl vl vu .none)(pl:IsPart vl lo)(pu:IsPart vu hi)
 (hw:bS items.size 0 lo=0∧bS items.size items.size hi=items.size) (h:Q (.ref t) s):wpAny (model prog w) A (getItem (.ref t) (.ref sl)) Q E s:=by
 obtain⟨os,hos,hcs,hds⟩:=id hs
 have hTs:s.TypeIs (.ref sl) "slice":=⟨os,hos,hcs⟩
 unfold getItem
 try with_reducible refine wpAny_holding ?_
 first|refine wpAny_bind (wpAny_pure ?_)|skip
 refine wpAny_bind (wpAny_sequenceKey ht.typeIs (by decide) ?_)
 refine wpAny_bind (wpAny_callSpecial?_slot (name:=Str.ofString "__getitem__") ht.typeIs PyProof.Rows.slot_tuple_getitem
  (wpAny_call_entry PyProof.Rows.slot_tuple_getitem ht.typeIs entry_tuple_getitem ?_ (args_tuple_getitem _ _)))
 show wpAny _ _ (Builtin.Tuple.tupleItemsOf (.ref t) >>= _) _ _ s
 refine wpAny_bind (tupleItemsOf_ ht ?_)
 refine wpAny_bind (wpAny_typeOf hTs ?_)
 rw[if_pos (by decide)]
 refine wpAny_bind (lE hs pl pu ?_)
 have hyes:(((bS items.size 0 lo:Nat):Int)==0&&(1:Int)==1&&(bS items.size items.size hi-bS items.size 0 lo)==items.size)=true:=by
  rw[hw.1,hw.2]
  simp
 show wpAny _ _ (if(((bS items.size 0 lo:Nat):Int)==0&&(1:Int)==1&&(bS items.size items.size hi-bS items.size 0 lo)==items.size)=true then _ else _) _ _ s
 rw[if_pos hyes]
 refine wpAny_bind ?_
 unfold Builtin.Tuple.tupleIsExact
 exact wpAny_bind (wpAny_typeOf ht.typeIs (wpAny_pure (wpAny_bind (wpAny_rule (wpAny_pure ⟨_,rfl,wpAny_pure h⟩)))))
end
end HT
namespace L3
open PySem L2
open PySem.Spec hiding items?
open PyProof.Rows hiding St
noncomputable abbrev DO:=bG→ag→(Option Int→ag→Prop)→Prop
noncomputable def sd:DO:=fun _ st K=>K none st
noncomputable def yP(t:DE):DO:=fun σ st K=>t σ st fun d st1=>match d with| .int i=>K (some i) st1|_=>False
noncomputable def cutD(xs:List D)(lo hi:Option Int):List D:=(xs.drop (HT.bS xs.length 0 lo)).take (HT.bS xs.length xs.length hi-HT.bS xs.length 0 lo)
noncomputable def vW(d:D)(lo hi:Option Int)(st:ag)(K:DK):Prop:=match d with
 | .lst xs=>K (.lst (cutD xs lo hi)) st
 | .tup xs=>K (.tup (cutD xs lo hi)) st
 | .ref n=>(match st[n]? with|some (.lst xs)=>K (.lst (cutD xs lo hi)) st|_=>False)
 |_=>False
@[irreducible] noncomputable def oq:D→Option Int→Option Int→ag→DK→Prop:=vW
noncomputable def uz(t:DE)(lo hi:DO):DE:=fun σ st K=>t σ st fun d st1=>lo σ st1 fun l st2=>hi σ st2 fun u st3=>oq d l u st3 K
theorem qf{α:List (Option Addr)}{G:Hp}{xs:List D}{vs:List V}{lo hi:Option Int}(r:aN α G xs vs):aN α G (cutD xs lo hi) (nG vs lo hi):=by
 unfold cutD nG
 rw[←r.length]
 exact aU.mpr (pW _ (pU _ (aU.mp r)))
noncomputable def KP(α:List (Option Addr))(G F:Hp)(K:Option Int→ag→Prop)(Q:Option Int→Hp→Prop):Prop:=∀o st',K o st'→∀α' G' H',Step α G α' G'→bT G' F H'→aT α' st' G'→Q o H'
inductive JH(t:DO)(σ:L2.St)(H:Hp)(Q:Option Int→Hp→Prop):Prop
 |mk (α:List (Option Addr)) (σd:bG) (st:ag) (K:Option Int→ag→Prop) (G F:Hp) (P:bT G F H) (R:dN α G σd σ) (S:aT α st G) (h:t σd st K) (k:KP α G F K Q):JH t σ H Q
noncomputable def LO(t:DO):TO:=JH t
section
variable {X:Cx}
theorem PO.imp{e:Option Expr}{t t':TO}(h:PO X e t)(f:∀σ H Q,t' σ H Q→t σ H Q):PO X e t':=fun pins s σ H Q I q=>h pins s σ H Q I (f σ H Q q)
theorem EG:PO X none (LO sd):=PO.imp DV fun σ H Q ⟨α,σd,st,K,G,F,P,R,S,t,k⟩=>k none st t α G H Step.refl P S
theorem EX{e:Expr}{te:DE}(h:PE X e (LE te)):PO X (some e) (LO (yP te)):=PO.imp (Dw h) fun σ H Q ⟨α,σd,st,K,G,F,P,R,S,t,k⟩=>by
 refine⟨α,σd,st,_,G,F,P,R,S,t,fun d st1 q α1 G1 H1 v s1 P1 S1 r1=>?_⟩
 cases d<;>try exact q.elim
 unfold Rep at r1
 exact⟨_,r1,k _ st1 q α1 G1 H1 s1 P1 S1⟩
noncomputable def K7(x:V)(lo hi:Option Int)(H:Hp)(Q:VK):Prop:=∃α d st K G F,bT G F H∧Rep α G d x∧aT α st G∧oq d lo hi st K∧LK α G F K Q
theorem DU:Aa X (fun x lo hi H Q=>∃a xs,x= .ref a∧H a=some (.tup xs)∧((HT.bS xs.length 0 lo=0∧HT.bS xs.length xs.length hi=xs.length)→Q (.ref a) H)∧(¬(HT.bS xs.length 0 lo=0∧HT.bS xs.length xs.length hi=xs.length)→∀p,H p=none→Q (.ref p) (upd H p (.tup (nG xs lo hi))))):=by
 intro pins s σ H x v vl vu lo hi sl Q I rx hs pl pu h
 obtain⟨a,xs,rfl,hx,q1,q2⟩:=h
 by_cases hw:HT.bS xs.length 0 lo=0∧HT.bS xs.length xs.length hi=xs.length
 · cases rx
   obtain⟨its,r,ht,hz⟩:=I.tuple (ir.of hx)
   have hlen:its.toArray.size=xs.length:=by rw[List.size_toArray];exact r.length.symm
   exact⟨"tuple",_,PyProof.Rows.slot_tuple_getitem.lookup,ht.typeIs,HT.nY ht hs pl pu (by rw[hlen];exact hw) ⟨.ref a,H,I,rfl,q1 hw⟩⟩
 · exact HI pins s σ H _ v vl vu lo hi sl Q I rx hs pl pu ⟨a,xs,rfl,.of hx,hw,q2 hw⟩
theorem Al{xs:List D}{lo hi:Option Int}(hw:HT.bS xs.length 0 lo=0∧HT.bS xs.length xs.length hi=xs.length):cutD xs lo hi=xs:=by
 unfold cutD
 rw[hw.1,hw.2]
 simp
theorem FQ:Aa X K7:=by
 intro pins s σ H x v vl vu lo hi sl Q I rx hs pl pu ⟨α,d,st,K,G,F',P,r1,S,q,k⟩
 unfold oq vW at q
 cases d<;>try exact q.elim
 · rename_i n
   simp only at q
   split at q
   · rename_i xs e
     obtain⟨a,ea,vs,h1,h2⟩:=S.gm e
     have r1':=dQ ea r1
     subst r1'
     exact xr pins s σ H _ v vl vu lo hi sl Q I rx hs pl pu ⟨a,vs,rfl,.inl (.of (P.get h1)),fun p hp=>k.lst P q S (qf h2) hp⟩
   · exact q.elim
 · unfold Rep at r1
   obtain⟨a,vs,rfl,na,ha,ra⟩:=r1
   exact xr pins s σ H _ v vl vu lo hi sl Q I rx hs pl pu ⟨a,vs,rfl,.inl (gq P ha),fun p hp=>k.lst P q S (qf ra) hp⟩
 · rename_i xs
   have r0:=r1
   unfold Rep at r1
   obtain⟨a,vs,rfl,na,ha,ra⟩:=r1
   refine DU pins s σ H _ v vl vu lo hi sl Q I rx hs pl pu ⟨a,vs,rfl,P.get ha,fun hw=>?_,fun _ p hp=>k.tup P q S (qf ra) hp⟩
   rw[←ra.length]at hw
   simp only at q
   rw[Al hw]at q
   exact k.here P q S r0
theorem Ef{e:Expr}{lo hi:Option Expr}{te:DE}{tl th:DO}{p2 pos:Pos}(he:PE X e (LE te))(hl:PO X lo (LO tl))(hh:PO X hi (LO th)):PE X (.Subscript e (.Slice lo hi none p2) pos) (LE (uz te tl th)):=PE.imp (BA FQ he hl hh) fun σ H Q ⟨α,σd,st,K,G,F,P,R,S,t,k⟩=>by
 refine⟨α,σd,st,_,G,F,P,R,S,t,fun d st1 q α1 G1 H1 v s1 P1 S1 r1=>?_⟩
 refine⟨α1,σd,st1,_,G1,F,P1,R.step s1,S1,q,fun l st2 q2 α2 G2 H2 s2 P2 S2=>?_⟩
 refine⟨α2,σd,st2,_,G2,F,P2,(R.step s1).step s2,S2,q2,fun u st3 q3 α3 G3 H3 s3 P3 S3=>?_⟩
 exact⟨α3,d,st3,K,G3,F,P3,(r1.step s2).step s3,S3,q3,((k.at s1).at s2).at s3⟩
@[irreducible] noncomputable def JO(X:Cx)(e:Option Expr)(t:DO):Prop:=PO X e (LO t)
theorem Ep:JO X none sd:=by unfold JO;exact EG
theorem Dj{e:Expr}{te:DE}(h:JE X e te):JO X (some e) (yP te):=by unfold JO;unfold JE at h;exact EX h
theorem Ds{e:Expr}{lo hi:Option Expr}{te:DE}{tl th:DO}{p2 pos:Pos}(he:JE X e te)(hl:JO X lo tl)(hh:JO X hi th):JE X (.Subscript e (.Slice lo hi none p2) pos) (uz te tl th):=by unfold JE at*;unfold JO at*;exact Ef he hl hh
end
theorem zH{st:ag}{K:DK}{xs:List D}{lo hi:Option Int}{n:Nat}(h:st[n]?=some (.lst xs))(k:K (.lst (cutD xs lo hi)) st):oq (.ref n) lo hi st K:=by unfold oq vW;simp only[h];exact k
end L3
namespace L3
open PySem L2
open PySem.Spec hiding items?
open PyProof.Rows hiding St
section
variable {prog:Program}{w:World}{A:Around}{E:Value→Shared→Prop}{s:Shared}
theorem yf{iT tp:Addr}{n:Nat}{its:Array Value}{v:Value}{Q:Value→Shared→Prop}(hI:s.heap.IsTupleIter iT tp n)(hT:s.heap.IsTuple tp its)(hv:its[n]?=some v)
 (q:∀g,g.IsTupleIter iT tp (n+1)→Heap.SameBut iT s.heap g→Q v {s with heap:=g}):wpAny (model prog w) A (Builtin.SmallTypes.nextOf (.ref iT)) Q E s:=by
 obtain⟨oI,eI,cI,dI⟩:=id hI
 obtain⟨oT,eT,_,nT,dT⟩:=hT
 unfold Builtin.SmallTypes.nextOf
 refine wpAny_bind (wpAny_callSpecial?_slot (name:=Str.ofString "__next__") hI.typeIs F.slot_tuple_iterator_next (wpAny_call_entry F.slot_tuple_iterator_next hI.typeIs F.entry_tuple_iterator_next ?_ (F.args_tuple_iterator_next_1 _)))
 show wpAny _ _ (field (.ref iT) 0 >>= _) _ _ s
 refine wpAny_bind (wpAny_field eI dI (x:= .ref tp) rfl ?_)
 show wpAny _ _ (if(Value.ref tp==Value.none)=true then _ else _) _ _ s
 rw[if_neg (show¬((Value.ref tp==Value.none)=true)from Bool.false_ne_true)]
 show wpAny _ _ (field (.ref iT) 1 >>= _) _ _ s
 refine wpAny_bind (wpAny_field eI dI (x:= .int n 0) rfl ?_)
 show wpAny _ _ (seqItems? (.ref tp) >>= _) _ _ s
 refine wpAny_bind (wpAny_seqItems eT dT ?_)
 simp only[Int.toNat_natCast,hv]
 refine wpAny_bind (wpAny_setField eI dI (by simp) (wpAny_pure ⟨v,rfl,wpAny_pure (q _ ?_ (Heap.SameBut.update ..))⟩))
 refine⟨_,Heap.get?_update_self _ eI (Obj.isFreed_of_fields (Obj.data_mapFields dI _)),(Obj.cls_mapFields ..).trans cI,?_⟩
 rw[Obj.data_mapFields dI]
 simp[rawInt]
theorem AQ{iT tp:Addr}{n:Nat}{its:Array Value}{Q:Value→Shared→Prop}(hh:A.handled=none)(hI:s.heap.IsTupleIter iT tp n)(hT:s.heap.IsTuple tp its)(hv:its[n]?=none)
 (q:∀g e,Heap.ExtBut iT s.heap g→(∃o,g.get? e=some o∧o.cls= .type "StopIteration")→E (.ref e) {s with heap:=g}):wpAny (model prog w) A (Builtin.SmallTypes.nextOf (.ref iT)) Q E s:=by
 obtain⟨oI,eI,cI,dI⟩:=id hI
 obtain⟨oT,eT,_,nT,dT⟩:=hT
 unfold Builtin.SmallTypes.nextOf
 refine wpAny_bind (wpAny_callSpecial?_slot (name:=Str.ofString "__next__") hI.typeIs F.slot_tuple_iterator_next (wpAny_call_entry F.slot_tuple_iterator_next hI.typeIs F.entry_tuple_iterator_next ?_ (F.args_tuple_iterator_next_1 _)))
 show wpAny _ _ (field (.ref iT) 0 >>= _) _ _ s
 refine wpAny_bind (wpAny_field eI dI (x:= .ref tp) rfl ?_)
 show wpAny _ _ (if(Value.ref tp==Value.none)=true then _ else _) _ _ s
 rw[if_neg (show¬((Value.ref tp==Value.none)=true)from Bool.false_ne_true)]
 show wpAny _ _ (field (.ref iT) 1 >>= _) _ _ s
 refine wpAny_bind (wpAny_field eI dI (x:= .int n 0) rfl ?_)
 show wpAny _ _ (seqItems? (.ref tp) >>= _) _ _ s
 refine wpAny_bind (wpAny_seqItems eT dT ?_)
 simp only[Int.toNat_natCast,hv]
 refine wpAny_bind (wpAny_rule (wpAny_bind (wpAny_setField eI dI (by simp) ?_)))
 show wpAny _ _ (newExc (.type "StopIteration") [] >>= _) _ _ _
 refine wpAny_bind ?_
 simp only[newExc,newTuple]
 refine wpAny_bind (wpAny_newObj_type ?_ (by size_fits))
 refine wpAny_bind (m:=firstArgMember _ _) (wpAny_of_eq (a:=Value.none) (by first|rfl|(simp only[firstArgMember];rfl)) ?_)
 refine wpAny_newObj_type ?_ (by size_fits)
 simp only[raiseNew]
 refine wpAny_bind (wpAny_handled ?_)
 first|rw[show A.in1.handled=none from hh]|rw[hh]
 refine wpAny_bind (wpAny_pure (wpAny_throw ?_))
 exact q _ _ (((Heap.SameBut.update ..).extBut.push _).push _) ⟨_,Heap.get?_push_size _ rfl,rfl⟩
end
end L3
namespace L3
open PySem L2
open PySem.Spec hiding items?
open PyProof.Rows hiding St
section
variable {st:ag}{K:DK}{i j:Int}{b c:Bool}{xs ys:List D}{d e:D}{n:Nat}
theorem eqT(h:i=j)(k:K (.bl true) st):jN (.int i) (.int j) st K:=zF (by rw[decide_eq_true h];exact k)
theorem KS(h:i≠j)(k:K (.bl false) st):jN (.int i) (.int j) st K:=zF (by rw[decide_eq_false h];exact k)
theorem eq2(h1:i=j→K (.bl true) st)(h2:i≠j→K (.bl false) st):jN (.int i) (.int j) st K:=by
 by_cases h:i=j
 · exact eqT h (h1 h)
 · exact KS h (h2 h)
theorem neT(h:i≠j)(k:K (.bl true) st):mJ (.int i) (.int j) st K:=CM (by rw[decide_eq_false h];exact k)
theorem K4(h:i=j)(k:K (.bl false) st):mJ (.int i) (.int j) st K:=CM (by rw[decide_eq_true h];exact k)
theorem ne2(h1:i≠j→K (.bl true) st)(h2:i=j→K (.bl false) st):mJ (.int i) (.int j) st K:=by
 by_cases h:i=j
 · exact K4 h (h2 h)
 · exact neT h (h1 h)
theorem KW(h:i<j)(k:K (.bl true) st):p8 (.int i) (.int j) st K:=CG (by rw[decide_eq_true h];exact k)
theorem K9(h:j≤i)(k:K (.bl false) st):p8 (.int i) (.int j) st K:=CG (by rw[decide_eq_false (by(first|lia|omega))];exact k)
theorem GP(h1:i<j→K (.bl true) st)(h2:j≤i→K (.bl false) st):p8 (.int i) (.int j) st K:=by
 by_cases h:i<j
 · exact KW h (h1 h)
 · exact K9 (by(first|lia|omega)) (h2 (by(first|lia|omega)))
theorem K6(h:j<i)(k:K (.bl true) st):nP (.int i) (.int j) st K:=yB (by rw[decide_eq_true h];exact k)
theorem KN(h:i≤j)(k:K (.bl false) st):nP (.int i) (.int j) st K:=yB (by rw[decide_eq_false (by(first|lia|omega))];exact k)
theorem Ci(h1:j<i→K (.bl true) st)(h2:i≤j→K (.bl false) st):nP (.int i) (.int j) st K:=by
 by_cases h:j<i
 · exact K6 h (h1 h)
 · exact KN (by(first|lia|omega)) (h2 (by(first|lia|omega)))
theorem JQ{P:Prop}(h:xs.length≤1000)(k:P):xs.length≤sizeLine∧P:=⟨by rw[sizeLine_eq];(first|lia|omega),k⟩
theorem cj{m:Nat}(h:m≤1000):m≤sizeLine:=by rw[sizeLine_eq];(first|lia|omega)
theorem si(h0:0≤i)(e:xs[i.toNat]?=some d):dJ xs i=some d:=by
 have:=g7 e
 rw[Int.toNat_of_nonneg h0]at this
 exact this
theorem ll{m:Nat}(h0:0≤i)(h:i.toNat<m):jK m i=some i.toNat:=by
 unfold jK
 have:i<(m:Int):=by(first|lia|omega)
 simp[h0,this]
end
theorem i_{tg:eZ}{body:DS}{ok:ag→Prop}{E:jq}(I:List D→bG→ag→Prop)(hend:∀σ st,I [] σ st→ok st∧E.nx σ st)
 (hstep:∀x xs σ st,I (x::xs) σ st→(∀σ' st',I xs σ' st'→e9 tg body ok E xs σ' st')→ok st∧∃σ1,tg x σ=some σ1∧body {E with nx:=e9 tg body ok E xs,ct:=e9 tg body ok E xs,bk:=E.nx} σ1 st):
 ∀xs σ st,I xs σ st→e9 tg body ok E xs σ st
 | [],σ,st,h=>by unfold e9;exact hend σ st h
 |x::xs,σ,st,h=>by unfold e9;exact hstep x xs σ st h fun σ' st' h'=>i_ I hend hstep xs σ' st' h'
theorem gQ{tg:eZ}{c:DT}{te:DE}{ok:ag→Prop}{σc:bG}{K:List D→ag→Prop}(I:List D→List D→ag→Prop)(hend:∀acc st,I [] acc st→ok st∧K acc st)
 (hstep:∀x xs acc st,I (x::xs) acc st→(∀acc' st',I xs acc' st'→dz tg c te ok σc xs acc' st' K)→ok st∧∃σ2,tg x σc=some σ2∧c σ2 st fun b st1=>if b=true then te σ2 st1 fun y st2=>dz tg c te ok σc xs (acc++[y]) st2 K else dz tg c te ok σc xs acc st1 K):
 ∀xs acc st,I xs acc st→dz tg c te ok σc xs acc st K
 | [],acc,st,h=>by unfold dz;exact hend acc st h
 |x::xs,acc,st,h=>by unfold dz;exact hstep x xs acc st h fun acc' st' h'=>gQ I hend hstep xs acc' st' h'
theorem comp_map{tg:eZ}{te:DE}{ok:ag→Prop}{σc:bG}{st:ag}{K:List D→ag→Prop}{g:D→D}(aI:ok st)(xs:List D)(hx:∀x∈xs,∀K',K' (g x) st→∃σ2,tg x σc=some σ2∧te σ2 st K')(k:K (xs.map g) st):dz tg cG te ok σc xs [] st K:=by
 refine gQ (fun r acc st'=>st'=st∧(∀x∈r,x∈xs)∧acc++r.map g=xs.map g) (fun acc st' h=>?_) (fun x r acc st' h next=>?_) xs [] st ⟨rfl,fun _ h=>h,rfl⟩
 · obtain⟨rfl,_,e⟩:=h
   rw[List.map_nil,List.append_nil]at e
   rw[e];exact⟨aI,k⟩
 · obtain⟨rfl,hm,e⟩:=h
   obtain⟨σ2,e2,q⟩:=hx x (hm x List.mem_cons_self) (fun y st2=>dz tg cG te ok σc r (acc++[y]) st2 K) (next _ _ ⟨rfl,fun z hz=>hm z (List.mem_cons_of_mem _ hz),by rw[←e];simp⟩)
   exact⟨aI,σ2,e2,q⟩
theorem jU{A B:DS}{E:jq}{σ:bG}{st:ag}(J:bG→ag→Prop)(h:∀nx,(∀σ' st',J σ' st'→nx σ' st')→A {E with nx:=nx} σ st)(k:∀σ' st',J σ' st'→B E σ' st'):aG A B E σ st:=h (B E) k
noncomputable def Hi(n:Nat)(K:DK)(y:D)(st2:ag):Prop:=∃y',[y]=[y']∧(match st2[n]? with|some (.lst xs)=>xs.length<sizeLine∧K .aC (st2.set n (.lst (xs++[y'])))|_=>False)
theorem xI{n:Nat}{K:DK}{y:D}{st:ag}{xs:List D}(e:st[n]?=some (.lst xs))(h:xs.length<sizeLine)(k:K .aC (st.set n (.lst (xs++[y])))):Hi n K y st:=by
 refine⟨y,rfl,?_⟩;simp only[e];exact⟨h,k⟩
@[irreducible] noncomputable def kY(to te:DE):DE:=mO to te
theorem AE{σ:bG}{st:ag}{K:DK}{i n:Nat}{xs:List D}{te:DE}(ei:σ[i]?=some (some (.ref n)))(e:st[n]?=some (.lst xs))(h:te σ st (Hi n K)):kY (ab i) te σ st K:=by
 unfold kY mO ab
 simp only[ei,e]
 exact h
theorem tm{X:Cx}{o e:Expr}{to te:DE}{apos cpos:Pos}(ho:JE X o to)(he:JE X e te)(hbase:attributeBase o "append" X.env (eval o X.env)=eval o X.env:=by rfl)(hline:(apos.endLine==cpos.line)=true:=by rfl)(hs:notStar e=true:=by rfl):JE X (.Call (.Attribute o "append" apos) [e] [] cpos) (kY to te):=by
 unfold kY;exact A7 ho he hbase hline hs
section
variable {X:Cx}
end
end L3
namespace L3
open PySem L2
open PySem.Spec hiding items?
open PyProof.Rows hiding St
structure Src(P:Program)(w:World)(t a:Addr)(J:Nat→Heap→Prop)(us:Array Value):Prop where
 fr:∀n g k,J n g→(∀b,b=t∨b=a→∀o,g.get? b=some o→k.get? b=some o)→J n k
 lv:∀n g,J n g→(∃o,g.get? t=some o)∧∃o,g.get? a=some o
 nx:∀n (A:Around) (s:Shared) (Q:Value→Shared→Prop) (E:Value→Shared→Prop) v,J n s.heap→us[n]?=some v→(∀k,J (n+1) k→Heap.SameBut t s.heap k→Q v {s with heap:=k})→wpAny (model P w) A (Builtin.SmallTypes.nextOf (.ref t)) Q E s
 en:∀n (A:Around) (s:Shared) (Q:Value→Shared→Prop) (E:Value→Shared→Prop),A.handled=none→J n s.heap→us[n]?=none→(∀k e,Heap.ExtBut t s.heap k→(∃o,k.get? e=some o∧o.cls= .type "StopIteration")→E (.ref e) {s with heap:=k})→wpAny (model P w) A (Builtin.SmallTypes.nextOf (.ref t)) Q E s
section
variable {P:Program}{w:World}
theorem src_list(t a:Addr)(hne:a≠t)(us:Array Value):Src P w t a (fun n g=>g.IsListIter t a n∧g.IsList a us) us where
 fr:=fun n g k j kp=>⟨j.1.at fun o e=>kp t (.inl rfl) o e,j.2.at fun o e=>kp a (.inr rfl) o e⟩
 lv:=fun n g j=>⟨let⟨o,e,_⟩:=j.1;⟨o,e⟩,let⟨o,e,_⟩:=j.2;⟨o,e⟩⟩
 nx:=fun n A s Q E v j hv q=>wpAny_nextOf_list_item j.1 j.2 hv fun k jk sb=>q k ⟨jk,j.2.extBut sb.extBut hne⟩ sb
 en:=fun n A s Q E hh j hv q=>wpAny_nextOf_list_end hh j.1 j.2 hv q
theorem Ed(t a:Addr)(hne:a≠t)(us:Array Value):Src P w t a (fun n g=>g.IsTupleIter t a n∧g.IsTuple a us) us where
 fr:=fun n g k j kp=>by
  obtain⟨⟨o,e,r⟩,⟨o2,e2,r2⟩⟩:=j
  exact⟨⟨o,kp t (.inl rfl) o e,r⟩,⟨o2,kp a (.inr rfl) o2 e2,r2⟩⟩
 lv:=fun n g j=>⟨let⟨o,e,_⟩:=j.1;⟨o,e⟩,let⟨o,e,_⟩:=j.2;⟨o,e⟩⟩
 nx:=fun n A s Q E v j hv q=>yf j.1 j.2 hv fun k jk sb=>q k ⟨jk,j.2.extBut sb.extBut hne⟩ sb
 en:=fun n A s Q E hh j hv q=>AQ hh j.1 j.2 hv q
theorem Src.ext{t a c:Addr}{J:Nat→Heap→Prop}{us:Array Value}(S:Src P w t a J us){n:Nat}{g k:Heap}(j:J n g)(x:Heap.ExtBut c g k)(h1:c≠t)(h2:c≠a):J n k:=
 S.fr n g k j fun b hb o e=>x b o (by rcases hb with rfl|rfl;exact Ne.symm h1;exact Ne.symm h2) e
structure xp(z ti to t1 t2 a1 a2:Addr):Prop where
 nd: [z,ti,to,t1,t2].Nodup
 a1:a1∉[z,ti,to,t1,t2]
 a2:a2∉[z,ti,to,t1,t2]
section
variable {z ti to t1 t2 a1 a2:Addr}
theorem xp.n(D:xp z ti to t1 t2 a1 a2):(ti≠z∧to≠z∧t1≠z∧t2≠z)∧(ti≠to∧ti≠t1∧ti≠t2)∧(to≠t1∧to≠t2)∧t1≠t2:=by
 have:=D.nd
 simp only[List.nodup_cons,List.mem_cons,not_or,List.not_mem_nil,not_false_eq_true,and_true,List.nodup_nil]at this
 obtain⟨⟨b1,b2,b3,b4⟩,⟨b5,b6,b7⟩,⟨b8,b9⟩,b10⟩:=this
 exact⟨⟨Ne.symm b1,Ne.symm b2,Ne.symm b3,Ne.symm b4⟩,⟨b5,b6,b7⟩,⟨b8,b9⟩,b10⟩
theorem zm{A:Around}{s:Shared}{E:Value→Shared→Prop}{J1 J2:Nat→Heap→Prop}{us vs:Array Value}{n:Nat}{x y a b:Value}{Q:Value→Shared→Prop}(D:xp z ti to t1 t2 a1 a2)(S1:Src P w t1 a1 J1 us)(S2:Src P w t2 a2 J2 vs)
 (Z:IsZip s.heap z ti to .none) (pI:IsPair s.heap ti (.ref t1) (.ref t2)) (pO:IsPair s.heap to a b) (j1:J1 n s.heap) (j2:J2 n s.heap) (ex:us[n]?=some x) (ey:vs[n]?=some y)
 (q:∀k,IsZip k z ti to (rawInt s.heap.objs.size)→IsPair k to x y→J1 (n+1) k→J2 (n+1) k→IsPair k s.heap.objs.size x y→k.objs.size=s.heap.objs.size+1→
   (∀c o,c≠z→c≠to→c≠t1→c≠t2→s.heap.get? c=some o→k.get? c=some o)→Q (.ref s.heap.objs.size) {s with heap:=k}):
 wpAny (model P w) A (Builtin.«zip.__next__» ⟨[.ref z],[]⟩) (fun fin s'=>∃v,fin= .done (.ret v)∧Q v s') E s:=by
 obtain⟨⟨n1,n2,n3,n4⟩,⟨n5,n6,n7⟩,⟨n8,n9⟩,n10⟩:=D.n
 have m1:=D.a1
 have m2:=D.a2
 simp only[List.mem_cons,not_or,List.not_mem_nil,not_false_eq_true,and_true]at m1 m2
 show wpAny _ _ (field (.ref z) 2 >>= _) _ _ _
 refine wpAny_bind (wpAny_field Z rfl (x:= .bool false) rfl ?_)
 show wpAny _ _ (field (.ref z) 3 >>= _) _ _ _
 refine wpAny_bind (wpAny_field Z rfl (x:= .ref ti) rfl ?_)
 refine wpAny_bind (wpAny_seqItems pI rfl ?_)
 show wpAny _ _ (Builtin.SmallTypes.ownedTupleIsFree (.ref z) >>= _) _ _ _
 refine wpAny_bind ?_
 unfold Builtin.SmallTypes.ownedTupleIsFree
 refine wpAny_bind (wpAny_field Z rfl (x:= .none) rfl (wpAny_pure ?_))
 simp only[if_true]
 refine wpAny_bind (wpAny_rule ?_)
 refine wpAny_bind (wpAny_field Z rfl (x:= .ref to) rfl ?_)
 refine wpAny_bind (wpAny_setField_rec Z (by simp) fun k1 Z1 b1=>?_)
 replace Z1:IsZip k1 z ti to .ellipsis:=Z1
 refine wpAny_bind ?_
 simp only[List.zipIdx_cons,List.zipIdx_nil,List.forIn_cons,List.forIn_nil]
 refine wpAny_bind (wpAny_bind (wpAny_onRaise ?_))
 show wpAny _ _ (Builtin.SmallTypes.nextOf (.ref t1) >>= _) _ _ _
 refine wpAny_bind (S1.nx n _ _ _ _ x (S1.ext j1 b1.extBut (Ne.symm n3) (Ne.symm m1.1)) ex fun k2 j1b b2=>wpAny_pure ?_)
 have pO2:IsPair k2 to a b:=b2.extBut _ _ n8 (b1.extBut _ _ n2 pO)
 refine wpAny_bind (wpAny_seqItems pO2 rfl ?_)
 refine wpAny_bind (wpAny_updateSeq_pair pO2 fun k3 pO3 b3=>?_)
 replace pO3:IsPair k3 to x b:=pO3
 refine wpAny_bind (wpAny_letGo (wpAny_pure ?_))
 refine wpAny_bind (wpAny_bind (wpAny_onRaise ?_))
 show wpAny _ _ (Builtin.SmallTypes.nextOf (.ref t2) >>= _) _ _ _
 have j2c:J2 n k3:=S2.ext (S2.ext (S2.ext j2 b1.extBut (Ne.symm n4) (Ne.symm m2.1)) b2.extBut n10 (Ne.symm m2.2.2.2.1)) b3.extBut n9 (Ne.symm m2.2.2.1)
 refine wpAny_bind (S2.nx n _ _ _ _ y j2c ey fun k4 j2d b4=>wpAny_pure ?_)
 have pO4:IsPair k4 to x b:=b4.extBut _ _ n9 pO3
 refine wpAny_bind (wpAny_seqItems pO4 rfl ?_)
 refine wpAny_bind (wpAny_updateSeq_pair pO4 fun k5 pO5 b5=>?_)
 replace pO5:IsPair k5 to x y:=pO5
 refine wpAny_bind (wpAny_letGo (wpAny_pure (wpAny_pure ?_)))
 refine wpAny_bind (wpAny_seqItems pO5 rfl ?_)
 refine wpAny_bind (wpAny_newTuple ?_)
 have sz:k5.objs.size=s.heap.objs.size:=by rw[b5.1,b4.1,b3.1,b2.1,b1.1]
 have Z5:IsZip k5 z ti to .ellipsis:=b5.extBut _ _ (Ne.symm n2) (b4.extBut _ _ (Ne.symm n4) (b3.extBut _ _ (Ne.symm n2) (b2.extBut _ _ (Ne.symm n3) Z1)))
 have kp5:∀c o,c≠z→c≠to→c≠t1→c≠t2→s.heap.get? c=some o→k5.get? c=some o:=fun c o c1 c2 c3 c4 e=>b5.extBut _ _ c2 (b4.extBut _ _ c4 (b3.extBut _ _ c2 (b2.extBut _ _ c3 (b1.extBut _ _ c1 e))))
 have j1e:J1 (n+1) k5:=S1.ext (S1.ext (S1.ext j1b b3.extBut n8 (Ne.symm m1.2.2.1)) b4.extBut (Ne.symm n10) (Ne.symm m1.2.2.2.2)) b5.extBut n8 (Ne.symm m1.2.2.1)
 have j2e:J2 (n+1) k5:=S2.ext j2d b5.extBut n9 (Ne.symm m2.2.2.1)
 have ltz:z<k5.objs.size:=Heap.lt_size Z5
 show wpAny _ _ (Builtin.SmallTypes.ownedTupleHandOut (.ref z) (.ref k5.objs.size) >>= _) _ _ _
 refine wpAny_bind ?_
 unfold Builtin.SmallTypes.ownedTupleHandOut
 have Z6:IsZip (k5.push {cls:= .type "tuple",data:= .seq #[x,y]}) z ti to .ellipsis:=Heap.get?_push_of_some _ Z5
 refine wpAny_bind (wpAny_setField_rec Z6 (by simp) fun k7 Z7 b7=>?_)
 replace Z7:IsZip k7 z ti to (rawInt k5.objs.size):=Z7
 refine wpAny_setField_rec Z7 (by simp) fun k8 Z8 b8=>?_
 replace Z8:IsZip k8 z ti to (rawInt k5.objs.size):=Z8
 have up:∀c o,c≠z→k5.get? c=some o→k8.get? c=some o:=fun c o c1 e=>b8.extBut _ _ c1 (b7.extBut _ _ c1 (Heap.get?_push_of_some _ e))
 have pT:IsPair k8 k5.objs.size x y:=b8.extBut _ _ (Nat.ne_of_gt ltz) (b7.extBut _ _ (Nat.ne_of_gt ltz) (Heap.get?_push_size _ rfl))
 have sz8:k8.objs.size=k5.objs.size+1:=by rw[b8.1,b7.1,Heap.size_push]
 rw[sz]at Z8 pT sz8
 refine wpAny_pure ⟨_,rfl,?_⟩
 show Q (.ref k5.objs.size) _
 rw[sz]
 refine q k8 Z8 (up _ _ n2 pO5) (S1.fr _ _ _ j1e fun b hb o e=>up b o ?_ e) (S2.fr _ _ _ j2e fun b hb o e=>up b o ?_ e) pT sz8 fun c o c1 c2 c3 c4 e=>up c o c1 (kp5 c o c1 c2 c3 c4 e)
 · rcases hb with rfl|rfl
   · exact n3
   · exact m1.1
 · rcases hb with rfl|rfl
   · exact n4
   · exact m2.1
theorem BH{A:Around}{s:Shared}{E:Value→Shared→Prop}{J1 J2:Nat→Heap→Prop}{us vs:Array Value}{n:Nat}{a b:Value}{Q:Fin→Shared→Prop}(hh:A.handled=none)(D:xp z ti to t1 t2 a1 a2)(S1:Src P w t1 a1 J1 us)(S2:Src P w t2 a2 J2 vs)
 (Z:IsZip s.heap z ti to .none) (pI:IsPair s.heap ti (.ref t1) (.ref t2)) (pO:IsPair s.heap to a b) (j1:J1 n s.heap) (j2:J2 n s.heap) (he:us[n]?=none∨vs[n]?=none)
 (q:∀k e,(∀c o,c≠z→c≠to→c≠t1→c≠t2→s.heap.get? c=some o→k.get? c=some o)→(∃o,k.get? e=some o∧o.cls= .type "StopIteration")→E (.ref e) {s with heap:=k}):
 wpAny (model P w) A (Builtin.«zip.__next__» ⟨[.ref z],[]⟩) Q E s:=by
 obtain⟨⟨n1,n2,n3,n4⟩,⟨n5,n6,n7⟩,⟨n8,n9⟩,n10⟩:=D.n
 have m1:=D.a1
 have m2:=D.a2
 simp only[List.mem_cons,not_or,List.not_mem_nil,not_false_eq_true,and_true]at m1 m2
 show wpAny _ _ (field (.ref z) 2 >>= _) _ _ _
 refine wpAny_bind (wpAny_field Z rfl (x:= .bool false) rfl ?_)
 show wpAny _ _ (field (.ref z) 3 >>= _) _ _ _
 refine wpAny_bind (wpAny_field Z rfl (x:= .ref ti) rfl ?_)
 refine wpAny_bind (wpAny_seqItems pI rfl ?_)
 show wpAny _ _ (Builtin.SmallTypes.ownedTupleIsFree (.ref z) >>= _) _ _ _
 refine wpAny_bind ?_
 unfold Builtin.SmallTypes.ownedTupleIsFree
 refine wpAny_bind (wpAny_field Z rfl (x:= .none) rfl (wpAny_pure ?_))
 simp only[if_true]
 refine wpAny_bind (wpAny_rule ?_)
 refine wpAny_bind (wpAny_field Z rfl (x:= .ref to) rfl ?_)
 refine wpAny_bind (wpAny_setField_rec Z (by simp) fun k1 Z1 b1=>?_)
 replace Z1:IsZip k1 z ti to .ellipsis:=Z1
 refine wpAny_bind ?_
 simp only[List.zipIdx_cons,List.zipIdx_nil,List.forIn_cons,List.forIn_nil]
 refine wpAny_bind (wpAny_bind (wpAny_onRaise ?_))
 show wpAny _ _ (Builtin.SmallTypes.nextOf (.ref t1) >>= _) _ _ _
 have j1a:J1 n k1:=S1.ext j1 b1.extBut (Ne.symm n3) (Ne.symm m1.1)
 cases ex:us[n]? with
 |none=>
  refine wpAny_bind (S1.en n _ _ _ _ hh j1a ex fun k2 e b2 hx=>?_)
  obtain⟨oe,he1,he2⟩:=hx
  have Z2:IsZip k2 z ti to .ellipsis:=b2 _ _ (Ne.symm n3) Z1
  have hez:e≠z:=fun c=>by subst c;rw[Z2]at he1;cases he1;simp at he2
  refine wpAny_setField_rec Z2 (by simp) fun k3 _ b3=>q k3 e (fun c o c1 _ c3 _ f=>b3.extBut _ _ c1 (b2 _ _ c3 (b1.extBut _ _ c1 f))) ⟨oe,b3.extBut _ _ hez he1,he2⟩
 |some x=>
  have ey:vs[n]?=none:=by
   rcases he with h|h
   · rw[ex]at h;cases h
   · exact h
  refine wpAny_bind (S1.nx n _ _ _ _ x j1a ex fun k2 j1b b2=>wpAny_pure ?_)
  have pO2:IsPair k2 to a b:=b2.extBut _ _ n8 (b1.extBut _ _ n2 pO)
  refine wpAny_bind (wpAny_seqItems pO2 rfl ?_)
  refine wpAny_bind (wpAny_updateSeq_pair pO2 fun k3 pO3 b3=>?_)
  refine wpAny_bind (wpAny_letGo (wpAny_pure ?_))
  refine wpAny_bind (wpAny_bind (wpAny_onRaise ?_))
  show wpAny _ _ (Builtin.SmallTypes.nextOf (.ref t2) >>= _) _ _ _
  have j2c:J2 n k3:=S2.ext (S2.ext (S2.ext j2 b1.extBut (Ne.symm n4) (Ne.symm m2.1)) b2.extBut n10 (Ne.symm m2.2.2.2.1)) b3.extBut n9 (Ne.symm m2.2.2.1)
  refine wpAny_bind (S2.en n _ _ _ _ hh j2c ey fun k4 e b4 hx=>?_)
  obtain⟨oe,he1,he2⟩:=hx
  have Z4:IsZip k4 z ti to .ellipsis:=b4 _ _ (Ne.symm n4) (b3.extBut _ _ (Ne.symm n2) (b2.extBut _ _ (Ne.symm n3) Z1))
  have hez:e≠z:=fun c=>by subst c;rw[Z4]at he1;cases he1;simp at he2
  refine wpAny_setField_rec Z4 (by simp) fun k5 _ b5=>q k5 e (fun c o c1 c2 c3 c4 f=>b5.extBut _ _ c1 (b4 _ _ c4 (b3.extBut _ _ c2 (b2.extBut _ _ c3 (b1.extBut _ _ c1 f))))) ⟨oe,b5.extBut _ _ hez he1,he2⟩
end
end
end L3
namespace L3
open PySem L2
open PySem.Spec hiding items?
open PyProof.Rows hiding St
theorem C6{X:Cx}{pins:List (Addr×Obj)}{σ:L2.St}{H:Hp}{s:Shared}{g:Heap}{tk:Nat}{fp:List Addr}{T:Addr}{xs:List V}(I:Inv X pins σ H s)(hf:∀b∈fp,jX X pins H b)
 (k:∀b o,b∉fp→s.heap.get? b=some o→g.get? b=some o) (hT:s.heap.objs.size≤T) (new:dm X.prog X.w (upd H T (.tup xs)) g T (.tup xs)):Inv X pins σ (upd H T (.tup xs)) {s with heap:=g,toks:=tk}:=by
 have hn:H T=none:=I.aI.fresh hT
 have nfp:∀b u,H b=some u→b∉fp:=fun b u e z=>by rw[(hf b z).1]at e;cases e
 have nT:∀b u,H b=some u→b≠T:=fun b u e=>dv e hn
 refine I.step (g':=s.gens) (d':=s.drawn) (ch:=fp) (fun b hb=>?_) (fun b o _ _ hc e _=>k b o hc e) (fun b o _ _ hc e _=>⟨o.slots,k b o hc e⟩) (fun b o _ e n=>?_) (fun b o hc e=>⟨o,k b o hc e⟩)
  (fun b ys e=>by rw[aL (nT b _ e)];exact e) (fun b o u e=>by rw[aL (nT b _ e)];exact e) (fun b ps e=>⟨#[],by rw[aL (nT b _ e),e];simp⟩) (fun m hm=>?_) (fun b u e=>?_) I.bare
 · obtain⟨f0,f1,f2,f3,f4,f5⟩:=hf b hb
   exact⟨f3,f1,f4,f5⟩
 · rw[aL (Nat.ne_of_lt (Nat.lt_of_lt_of_le (Heap.lt_size e) hT))];exact n
 · obtain⟨o,es,ep,ho,r⟩:=hm
   exact⟨o,es,ep,k _ o (fun z=>(hf _ z).2.1 rfl) ho,r⟩
 · by_cases hb:b=T
   · subst hb;rw[aV]at e;cases e;exact new
   · rw[aL hb]at e
     refine(I.aI b u e).mD (fun c v hc q=>k c v ?_ q) (fun c q=>by rw[aL (nT c _ q)];exact q) fun c ys q=>by rw[aL (nT c _ q)];exact q
     rcases hc with z|z
     · rw[z];exact nfp b u e
     · exact nfp c _ z
theorem CY{X:Cx}{pins:List (Addr×Obj)}{σ:L2.St}{H:Hp}{s:Shared}{g:Heap}{tk:Nat}{fp:List Addr}(I:Inv X pins σ H s)(hf:∀b∈fp,jX X pins H b)
 (k:∀b o,b∉fp→s.heap.get? b=some o→g.get? b=some o):Inv X pins σ H {s with heap:=g,toks:=tk}:=by
 have nfp:∀b u,H b=some u→b∉fp:=fun b u e z=>by rw[(hf b z).1]at e;cases e
 refine I.step (g':=s.gens) (d':=s.drawn) (ch:=fp) (fun b hb=>?_) (fun b o _ _ hc e _=>k b o hc e) (fun b o _ _ hc e _=>⟨o.slots,k b o hc e⟩) (fun b o _ e n=>n) (fun b o hc e=>⟨o,k b o hc e⟩)
  (fun b ys e=>e) (fun b o u e=>e) (fun b ps e=>⟨#[],by rw[e];simp⟩) (fun m hm=>?_) (fun b u e=>?_) I.bare
 · obtain⟨f0,f1,f2,f3,f4,f5⟩:=hf b hb
   exact⟨f3,f1,f4,f5⟩
 · obtain⟨o,es,ep,ho,r⟩:=hm
   exact⟨o,es,ep,k _ o (fun z=>(hf _ z).2.1 rfl) ho,r⟩
 · refine(I.aI b u e).mD (fun c v hc q=>k c v ?_ q) (fun c q=>q) fun c ys q=>q
   rcases hc with z|z
   · rw[z];exact nfp b u e
   · exact nfp c _ z
inductive SK where
 |l|t
noncomputable def mQ(k:SK)(K:PySem.W.Frag)(H:Hp)(a:Addr)(xs:List V):Prop:=match k with
 | .l=>kb K H a xs
 | .t=>ir K H a xs
noncomputable def nS(k:SK)(t a:Addr)(n:Nat)(g:Heap):Prop:=match k with
 | .l=>g.IsListIter t a n
 | .t=>g.IsTupleIter t a n
noncomputable def jM(k:SK)(g:Heap)(a:Addr)(us:Array Value):Prop:=match k with
 | .l=>g.IsList a us
 | .t=>g.IsTuple a us
noncomputable def vU(k:SK)(a:Addr):Obj:=match k with
 | .l=>{cls:= .type "list_iterator",data:= .fields #[.ref a,.int 0 0]}
 | .t=>{cls:= .type "tuple_iterator",data:= .fields #[.ref a,.int 0 0]}
theorem kM{P:Program}{w:World}(k:SK)(t a:Addr)(hne:a≠t)(us:Array Value):Src P w t a (fun n g=>nS k t a n g∧jM k g a us) us:=by
 cases k
 · exact src_list t a hne us
 · exact Ed t a hne us
theorem jH{X:Cx}{pins:List (Addr×Obj)}{σ:L2.St}{H:Hp}{s:Shared}{k:SK}{a:Addr}{xs:List V}(I:Inv X pins σ H s)(h:mQ k X.K H a xs):∃its:List Value,Vals xs its∧jM k s.heap a its.toArray:=by
 cases k
 · obtain⟨its,rv,p,_⟩:=I.list h
   exact⟨its,rv,p.isList⟩
 · obtain⟨its,rv,p,_⟩:=I.tuple h
   exact⟨its,rv,p⟩
theorem rQ{X:Cx}{pins:List (Addr×Obj)}{σ:L2.St}{H:Hp}{s:Shared}{k:SK}{a:Addr}{xs ys:List V}(I:Inv X pins σ H s)(h:mQ k X.K H a xs)(h':mQ k X.K H a ys):xs=ys:=by
 cases k
 · exact I.vd h h'
 · exact I.td h h'
theorem z_{P:Program}{w:World}{A:Around}{s:Shared}{E:Value→Shared→Prop}{k:SK}{a:Addr}{us:Array Value}{Q:Value→Shared→Prop}(h:jM k s.heap a us)(q:Q (.ref s.heap.objs.size) {s with heap:=s.heap.push (vU k a)}):wpAny (model P w) A (pyIter (.ref a)) Q E s:=by
 cases k
 · exact wpAny_pyIter_list h q
 · exact wpAny_pyIter_tuple h q
theorem jM.push{k:SK}{g:Heap}{a:Addr}{us:Array Value}(h:jM k g a us)(o:Obj):jM k (g.push o) a us:=by
 cases k
 · obtain⟨o',e,r⟩:=h;exact⟨o',Heap.get?_push_of_some _ e,r⟩
 · obtain⟨o',e,r⟩:=h;exact⟨o',Heap.get?_push_of_some _ e,r⟩
theorem jM.some{k:SK}{g:Heap}{a:Addr}{us:Array Value}(h:jM k g a us):∃o,g.get? a=Option.some o:=by
 cases k
 · obtain⟨o',e,r⟩:=h;exact⟨o',e⟩
 · obtain⟨o',e,r⟩:=h;exact⟨o',e⟩
theorem xf{k:SK}{g h:Heap}{t a:Addr}(e:g.get? t=Option.some (vU k a)):nS k t a 0 g:=by
 cases k
 · exact⟨_,e,rfl,rfl⟩
 · exact⟨_,e,rfl,rfl⟩
theorem mL{k:SK}{t a:Addr}{n:Nat}{g g':Heap}(h:nS k t a n g)(kp:∀o,g.get? t=Option.some o→g'.get? t=Option.some o):nS k t a n g':=by
 cases k
 · obtain⟨o,e,r⟩:=h;exact⟨o,kp o e,r⟩
 · obtain⟨o,e,r⟩:=h;exact⟨o,kp o e,r⟩
theorem kX{k:SK}{t a:Addr}{n:Nat}{g:Heap}(h:nS k t a n g):∃o,g.get? t=Option.some o∧∀v,o.data≠ .cell v:=by
 cases k
 · obtain⟨o,e,c,d⟩:=h;exact⟨o,e,fun v z=>by rw[d]at z;cases z⟩
 · obtain⟨o,e,c,d⟩:=h;exact⟨o,e,fun v z=>by rw[d]at z;cases z⟩
noncomputable def Jv(K:PySem.W.Frag)(k1 k2:SK)(a1 a2:Addr):It:=
 ⟨fun i H=>∃xs ys x y,mQ k1 K H a1 xs∧mQ k2 K H a2 ys∧xs[i]?=some x∧ys[i]?=some y,
  fun i H v H'=>∃T x y,H T=none∧v= .ref T∧H'=upd H T (.tup [x,y])∧(∀xs,mQ k1 K H a1 xs→xs[i]?=some x)∧∀ys,mQ k2 K H a2 ys→ys[i]?=some y,
  fun i H=>∃xs ys,mQ k1 K H a1 xs∧mQ k2 K H a2 ys∧(xs.length≤i∨ys.length≤i)⟩
noncomputable def IM(z ti to t1 t2 a1 a2:Addr)(k1 k2:SK)(i:Nat)(h:Heap):Prop:=IsZip h z ti to .none∧IsPair h ti (.ref t1) (.ref t2)∧(∃a b,IsPair h to a b)∧nS k1 t1 a1 i h∧nS k2 t2 a2 i h
theorem B_{P:Program}{w:World}{K:PySem.W.Frag}{elts:List Expr}{kx:Nat}{pos:Pos}{z ti to t1 t2 a1 a2:Addr}(k1 k2:SK)(D:xp z ti to t1 t2 a1 a2):
 Turn P w K (.Tuple elts kx pos) (Jv K k1 k2 a1 a2) [z,ti,to,t1,t2] z (IM z ti to t1 t2 a1 a2 k1 k2) where
 mem:=by simp
 obj:=fun i h st b hb=>by
  obtain⟨Z,pI,⟨a,b',pO⟩,i1,i2⟩:=st
  simp only[List.mem_cons,List.not_mem_nil,or_false]at hb
  rcases hb with rfl|rfl|rfl|rfl|rfl
  · exact⟨_,Z,fun v e=>by cases e⟩
  · exact⟨_,pI,fun v e=>by cases e⟩
  · exact⟨_,pO,fun v e=>by cases e⟩
  · exact kX i1
  · exact kX i2
 keep:=fun i h h' st k=>by
  obtain⟨Z,pI,⟨a,b',pO⟩,i1,i2⟩:=st
  exact⟨k z (by simp) _ Z,k ti (by simp) _ pI,⟨a,b',k to (by simp) _ pO⟩,mL i1 (k t1 (by simp)),mL i2 (k t2 (by simp))⟩
 item:=by
  intro X hP hw hK hc i pins s σ H E I hf st hg
  subst hP hw hK
  obtain⟨Z,pI,⟨a,b',pO⟩,i1,i2⟩:=st
  obtain⟨xs,ys,x,y,q1,q2,ex,ey⟩:=hg
  obtain⟨us,r1,l1⟩:=jH I q1
  obtain⟨vs,r2,l2⟩:=jH I q2
  obtain⟨u,eu,ru⟩:=r1.get ex
  obtain⟨v,ev,rv⟩:=r2.get ey
  have m1:=D.a1
  have m2:=D.a2
  simp only[List.mem_cons,not_or,List.not_mem_nil,not_false_eq_true,and_true]at m1 m2
  obtain⟨⟨n1,n2,n3,n4⟩,⟨n5,n6,n7⟩,⟨n8,n9⟩,n10⟩:=D.n
  have tz:s.TypeIs (.ref z) "zip":=⟨_,Z,rfl⟩
  unfold pyNext
  refine wpAny_bind (wpAny_attempt (wpAny_callSpecial?_slot (name:=Str.ofString "__next__") tz F.slot_zip_next (wpAny_call_entry F.slot_zip_next tz F.entry_zip_next (zm D (kM k1 t1 a1 m1.2.2.2.1 us.toArray) (kM k2 t2 a2 m2.2.2.2.2 vs.toArray) Z pI pO ⟨i1,l1⟩ ⟨i2,l2⟩ (x:=u) (y:=v) (by simpa using eu) (by simpa using ev) fun k Z2 pO2 j1 j2 pT szk kp=>wpAny_pure ⟨_,rfl,?_⟩) (F.args_zip_next_1 _))))
  refine wpAny_letOwnedTupleGo_zip (s:={s with heap:=k}) Z2 fun k' Z3 b3=>?_
  have hT:s.heap.objs.size≠z:=Nat.ne_of_gt (Heap.lt_size Z)
  have kp3:∀b o,b∉[z,ti,to,t1,t2]→s.heap.get? b=some o→k'.get? b=some o:=fun b o hb e=>by
   simp only[List.mem_cons,not_or,List.not_mem_nil,not_false_eq_true,and_true]at hb
   exact b3.extBut _ _ hb.1 (kp b o hb.1 hb.2.2.1 hb.2.2.2.1 hb.2.2.2.2 e)
  refine⟨.ref s.heap.objs.size,upd H s.heap.objs.size (.tup [x,y]),C6 (s:=s) (tk:=s.toks) I hf kp3 (Nat.le_refl _) ?_,rfl,⟨s.heap.objs.size,x,y,I.aI.fresh (Nat.le_refl _),rfl,rfl,?_,?_⟩,?_,?_⟩
  · refine⟨Nat.le_of_ble_eq_true rfl,[u,v],.cons ru (.cons rv .nil),?_⟩
    exact⟨_,b3.extBut _ _ hT pT,rfl,_,rfl⟩
  · intro xs' q'
    rw[rQ I q' q1];exact ex
  · intro ys' q'
    rw[rQ I q' q2];exact ey
  · refine⟨Z3,b3.extBut _ _ n1 (kp _ _ n1 n5 n6 n7 pI),⟨_,_,b3.extBut _ _ n2 pO2⟩,mL j1.1 fun o e=>b3.extBut _ _ n3 e,mL j2.1 fun o e=>b3.extBut _ _ n4 e⟩
  · intro b hb
    have:b≠s.heap.objs.size:=by
     obtain⟨o,e,_⟩:∃o,s.heap.get? b=some o∧True:=by
      simp only[List.mem_cons,List.not_mem_nil,or_false]at hb
      rcases hb with rfl|rfl|rfl|rfl|rfl
      · exact⟨_,Z,trivial⟩
      · exact⟨_,pI,trivial⟩
      · exact⟨_,pO,trivial⟩
      · obtain⟨o,e,_⟩:=kX i1;exact⟨o,e,trivial⟩
      · obtain⟨o,e,_⟩:=kX i2;exact⟨o,e,trivial⟩
     exact Nat.ne_of_lt (Heap.lt_size e)
    rw[aL this]
    exact(hf b hb).1
 done:=by
  intro X hP hw hK hc i pins s σ H E I hf st hg
  subst hP hw hK
  obtain⟨Z,pI,⟨a,b',pO⟩,i1,i2⟩:=st
  obtain⟨xs,ys,q1,q2,he⟩:=hg
  obtain⟨us,r1,l1⟩:=jH I q1
  obtain⟨vs,r2,l2⟩:=jH I q2
  have e1:=r1.length
  have e2:=r2.length
  have m1:=D.a1
  have m2:=D.a2
  simp only[List.mem_cons,not_or,List.not_mem_nil,not_false_eq_true,and_true]at m1 m2
  have tz:s.TypeIs (.ref z) "zip":=⟨_,Z,rfl⟩
  unfold pyNext
  refine wpAny_bind (wpAny_attempt (wpAny_callSpecial?_slot (name:=Str.ofString "__next__") tz F.slot_zip_next (wpAny_call_entry F.slot_zip_next tz F.entry_zip_next (BH (I.ok.hd hc) D (kM k1 t1 a1 m1.2.2.2.1 us.toArray) (kM k2 t2 a2 m2.2.2.2.2 vs.toArray) Z pI pO ⟨i1,l1⟩ ⟨i2,l2⟩ ?_ fun k e kp hx=>?_) (F.args_zip_next_1 _))))
  · rcases he with h|h
    · left;simp;(first|lia|omega)
    · right;simp;(first|lia|omega)
  · obtain⟨o,ho,hc2⟩:=hx
    refine wpAny_bind (wpAny_isInstance (T:="StopIteration") (b:=true) ⟨o,ho,hc2⟩ isSubtype_stop ?_)
    refine wpAny_pure ⟨rfl,CY (s:=s) (tk:=s.toks) I hf fun b o hb e=>?_⟩
    simp only[List.mem_cons,not_or,List.not_mem_nil,not_false_eq_true,and_true]at hb
    exact kp b o hb.1 hb.2.2.1 hb.2.2.2.1 hb.2.2.2.2 e
 self:=fun _ _ _ _ _ st h=>wpAny_pyIter_zip st.1 h
end L3
namespace L3
open PySem L2
open PySem.Spec hiding items?
open PyProof.Rows hiding St
noncomputable abbrev Cj(h:Heap)(k1:SK)(a1:Addr):Heap:=h.push (vU k1 a1)
noncomputable abbrev C3(h:Heap)(k1 k2:SK)(a1 a2:Addr):Heap:=(Cj h k1 a1).push (vU k2 a2)
noncomputable abbrev C0(h:Heap)(k1 k2:SK)(a1 a2:Addr):Heap:=(C3 h k1 k2 a1 a2).push {cls:= .type "tuple",data:= .seq #[.ref h.objs.size,.ref (Cj h k1 a1).objs.size]}
noncomputable abbrev CU(h:Heap)(k1 k2:SK)(a1 a2:Addr):Heap:=(C0 h k1 k2 a1 a2).push {cls:= .type "tuple",data:= .seq #[.none,.none]}
noncomputable abbrev xH(h:Heap)(k1 k2:SK)(a1 a2:Addr):Heap:=(CU h k1 k2 a1 a2).push {cls:= .type "zip",data:= .fields #[.none,.bool false,.bool false,.ref (C3 h k1 k2 a1 a2).objs.size,.ref (C0 h k1 k2 a1 a2).objs.size]}
theorem zT(k1 k2:SK)(a1 a2:Addr)(us vs:Array Value):Meets (Builtin.«zip.__new__» ⟨[.type "zip",.ref a1,.ref a2],[]⟩) (fun _ R s=>jM k1 s.heap a1 us∧jM k2 s.heap a2 vs∧
 R (.ok (.ret (.ref (CU s.heap k1 k2 a1 a2).objs.size))) {s with heap:=xH s.heap k1 k2 a1 a2}):=
 .of_wp fun P w A R s h=>by
  obtain⟨hp,g,d,tk,os⟩:=s
  obtain⟨c1,c2,h⟩:=h
  have hsub:=sub_zip
  have L1:jM k1 (Shared.heap ⟨hp,g,d,tk,os⟩) a1 us:=c1
  have L2:jM k2 (Shared.heap ⟨hp.push (vU k1 a1),g,d,tk,os⟩) a2 vs:=jM.push c2 _
  wp_walk using z_ L1,z_ L2
  exact⟨_,rfl,h⟩
theorem BU{P:Program}{w:World}{A:Around}{s:Shared}{E:Value→Shared→Prop}{k1 k2:SK}{a1 a2:Addr}{us vs:Array Value}{Q:Value→Shared→Prop}(c1:jM k1 s.heap a1 us)(c2:jM k2 s.heap a2 vs)
 (q:∀g n,n=s.heap.objs.size→IsZip g (n+4) (n+2) (n+3) .none→IsPair g (n+2) (.ref n) (.ref (n+1))→IsPair g (n+3) .none .none→nS k1 n a1 0 g→nS k2 (n+1) a2 0 g→(∀c o,s.heap.get? c=some o→g.get? c=some o)→Q (.ref (n+4)) {s with heap:=g}):
 wpAny (model P w) A (call (.type "zip") [.ref a1,.ref a2]) Q E s:=by
 refine callType_new F.called_zip (by decide) (F.typeCall_zip_2 _ _) (F.newCall_zip_2 _ _) (fun ob=>F.args_object_init_3 ob _ _) F.entry_zip_new (zT k1 k2 a1 a2 us vs) ⟨c1,c2,?_⟩
 have y1:(Cj s.heap k1 a1).objs.size=s.heap.objs.size+1:=Heap.size_push ..
 have y2:(C3 s.heap k1 k2 a1 a2).objs.size=s.heap.objs.size+2:=by rw[Heap.size_push,y1]
 have y3:(C0 s.heap k1 k2 a1 a2).objs.size=s.heap.objs.size+3:=by rw[Heap.size_push,y2]
 have y4:(CU s.heap k1 k2 a1 a2).objs.size=s.heap.objs.size+4:=by rw[Heap.size_push,y3]
 have e5:(xH s.heap k1 k2 a1 a2).get? (CU s.heap k1 k2 a1 a2).objs.size=some _:=Heap.get?_push_size _ rfl
 have e4:(xH s.heap k1 k2 a1 a2).get? (C0 s.heap k1 k2 a1 a2).objs.size=some _:=Heap.get?_push_of_some _ (Heap.get?_push_size _ rfl)
 have e3:(xH s.heap k1 k2 a1 a2).get? (C3 s.heap k1 k2 a1 a2).objs.size=some _:=Heap.get?_push_of_some _ (Heap.get?_push_of_some _ (Heap.get?_push_size _ rfl))
 have e2:(xH s.heap k1 k2 a1 a2).get? (Cj s.heap k1 a1).objs.size=some (vU k2 a2):=Heap.get?_push_of_some _ (Heap.get?_push_of_some _ (Heap.get?_push_of_some _ (Heap.get?_push_size _ (by cases k2<;>rfl))))
 have e1:(xH s.heap k1 k2 a1 a2).get? s.heap.objs.size=some (vU k1 a1):=Heap.get?_push_of_some _ (Heap.get?_push_of_some _ (Heap.get?_push_of_some _ (Heap.get?_push_of_some _ (Heap.get?_push_size _ (by cases k1<;>rfl)))))
 show _∧_
 rw[y2,y3,y4]at e5
 rw[y1,y2]at e3
 rw[y3]at e4
 rw[y1]at e2
 rw[y4]
 exact⟨⟨_,e5,rfl⟩,q _ _ rfl e5 e3 e4 (xf (h:=s.heap) e1) (xf (h:=s.heap) e2) fun c o x=>Heap.get?_push_of_some _ (Heap.get?_push_of_some _ (Heap.get?_push_of_some _ (Heap.get?_push_of_some _ (Heap.get?_push_of_some _ x))))⟩
noncomputable def Ck:D→SK
 | .tup _=> .t
 |_=> .l
noncomputable def zK(k:SK)(G:Hp)(a:Addr)(vs:List V):Prop:=match k with
 | .l=>Rd G a (.lst vs)
 | .t=>G a=some (.tup vs)
theorem iW{K:PySem.W.Frag}{k:SK}{G F H:Hp}(P:bT G F H){a:Addr}{vs:List V}(h:zK k G a vs):mQ k K H a vs:=by
 cases k
 · exact .inl (gq P h)
 · exact ir.of (P.get h)
theorem kZ{α:List (Option Addr)}{H:Hp}{st:ag}{d:D}{v:V}{xs:List D}(S:aT α st H)(r:Rep α H d v)(e:items? st d=some xs):∃p vs,v= .ref p∧aN α H xs vs∧zK (Ck d) H p vs:=by
 cases d<;>try(cases e;done)
 · unfold items? at e
   simp only at e
   split at e
   · rename_i ys q
     cases e
     obtain⟨a,ea,vs,h1,h2⟩:=S.gm q
     exact⟨a,vs,dQ ea r,h2,Rd.of h1⟩
   · cases e
 · cases e
   unfold Rep at r
   obtain⟨a,vs,rfl,_,h1,h2⟩:=r
   exact⟨a,vs,rfl,h2,h1⟩
 · cases e
   unfold Rep at r
   obtain⟨a,vs,rfl,_,h1,h2⟩:=r
   exact⟨a,vs,rfl,h2,h1⟩
noncomputable def gF(xs ys:List D):List D:=(xs.zip ys).map fun p=> .tup [p.1,p.2]
theorem iw{xs ys:List D}:(gF xs ys).length=min xs.length ys.length:=by unfold gF;simp
theorem qd{xs ys:List D}{n:Nat}{d:D}(e:(gF xs ys)[n]?=some d):∃x y,xs[n]?=some x∧ys[n]?=some y∧d= .tup [x,y]:=by
 unfold gF at e
 rw[List.getElem?_map]at e
 cases q:(xs.zip ys)[n]? with
 |none=>rw[q]at e;cases e
 |some p=>
  rw[q]at e
  cases e
  rw[List.getElem?_zip_eq_some]at q
  exact⟨p.1,p.2,q.1,q.2,rfl⟩
theorem FX{K:PySem.W.Frag}{k1 k2:SK}{a1 a2:Addr}{α:List (Option Addr)}{G:Hp}{ok:ag→Prop}{xs ys:List D}
 (h:∀α' G' st',Step α G α' G'→aT α' st' G'→ok st'→∃vs ws,zK k1 G' a1 vs∧zK k2 G' a2 ws∧aN α' G' xs vs∧aN α' G' ys ws):rS (Jv K k1 k2 a1 a2) α G ok (gF xs ys) where
 stop:=fun n α' G' F' H' st' s P S o hn=>by
  obtain⟨vs,ws,h1,h2,r1,r2⟩:=h α' G' st' s S o
  rw[iw]at hn
  refine⟨vs,ws,iW P h1,iW P h2,?_⟩
  have:=r1.length
  have:=r2.length
  (first|lia|omega)
 go:=fun n d α' G' F' H' st' s P S o hn=>by
  obtain⟨vs,ws,h1,h2,r1,r2⟩:=h α' G' st' s S o
  obtain⟨x,y,ex,ey,rfl⟩:=qd hn
  obtain⟨v,ev,_⟩:=r1.get ex
  obtain⟨u,eu,_⟩:=r2.get ey
  exact⟨vs,ws,v,u,iW P h1,iW P h2,ev,eu⟩
 mS:=fun n d α' G' F' H' st' x H'' s P S o hn y=>by
  obtain⟨vs,ws,h1,h2,r1,r2⟩:=h α' G' st' s S o
  obtain⟨c,e,ec,ee,rfl⟩:=qd hn
  obtain⟨T,v,u,hT,rfl,rfl,y1,y2⟩:=y
  obtain⟨v',ev,rv⟩:=r1.get ec
  obtain⟨u',eu,ru⟩:=r2.get ee
  rw[y1 vs (iW P h1)]at ev
  rw[y2 ws (iW P h2)]at eu
  cases ev
  cases eu
  have hg:=(P.none hT).1
  refine⟨upd G' T (.tup [v,u]),Step.laid hg,P.laid hT,S.laid hg,?_⟩
  unfold Rep
  refine⟨T,[v,u],rfl,S.jz hg,aV,?_⟩
  unfold aN
  refine⟨v,[u],rfl,rv.step (Step.laid hg),?_⟩
  unfold aN
  exact⟨u,[],rfl,ru.step (Step.laid hg),by unfold aN;rfl⟩
noncomputable def Ce(ds:List D)(st1:ag)(K:List D→(ag→Prop)→ag→Prop):Prop:=match ds with
 | [x,y]=>(match items? st1 x,items? st1 y with
   |some xs,some ys=>K (gF xs ys) (fun st'=>items? st' x=some xs∧items? st' y=some ys) st1
   |_,_=>False)
 |_=>False
@[irreducible] noncomputable def qG:List D→ag→(List D→(ag→Prop)→ag→Prop)→Prop:=Ce
noncomputable def oU(t:DA):DI:=fun σ st K=>t σ st fun ds st1=>qG ds st1 K
theorem Ej{n a1 a2:Nat}(h1:a1<n)(h2:a2<n):xp (n+4) (n+2) (n+3) n (n+1) a1 a2:=by
 have e0:([n+4,n+2,n+3,n,n+1]:List Nat).Nodup:=by
  simp only[List.nodup_cons,List.mem_cons,not_or,List.not_mem_nil,not_false_eq_true,and_true,List.nodup_nil]
  (first|lia|omega)
 have e1:∀a:Nat,a<n→a∉([n+4,n+2,n+3,n,n+1]:List Nat):=fun a ha=>by
  simp only[List.mem_cons,not_or,List.not_mem_nil,not_false_eq_true,and_true]
  (first|lia|omega)
 exact⟨e0,e1 a1 h1,e1 a2 h2⟩
theorem FZ{X:Cx}{a b:Expr}{elts:List Expr}{kx:Nat}{tpos p pos:Pos}{t:DA}(hg:Gl X "zip")(hm:X.mg "zip"=none)(ha:PA X [a,b] (LA t))(hs:starEach [a,b] X.env=[(false,eval a X.env),(false,eval b X.env)])(hs2:starEach [b] X.env=[(false,eval b X.env)]):
 PI X (.Tuple elts kx tpos) (.Call (.Name "zip" p) [a,b] [] pos) (LI (oU t)):=by
 intro pins s σ H R I h
 obtain⟨α,σd,st,K,G,F,P,RS,S,t,k⟩:=h
 refine Call_ (kg I hg hm boot_zip (PyProof.Rows.callWith_type1 (bR (ha pos pins s σ H (fun vs H1=>∃ds α1 G1 st1,Step α G α1 G1∧bT G1 F H1∧aT α1 st1 G1∧aN α1 G1 ds vs∧qG ds st1 K) I ⟨α,σd,st,_,G,F,P,RS,S,t,fun ds st1 q α1 G1 H1 vs s1 P1 S1 r1=>⟨ds,α1,G1,st1,s1,P1,S1,r1,q⟩⟩) fun us s1 ⟨vs,H1,I1,rv,ds,α1,G1,st1,w1,P1,S1,r1,q⟩=>?_) (by rw[hs,hs2]) (by rw[hs2];rfl)))
 unfold qG Ce at q
 split at q
 · rename_i x y
   split at q
   · rename_i xs ys ex ey
     obtain⟨v1,v2,rfl,q1,q2⟩:=kT r1 rfl
     obtain⟨p1,vs1,rfl,g1,c1⟩:=kZ S1 q1 ex
     obtain⟨p2,vs2,rfl,g2,c2⟩:=kZ S1 q2 ey
     obtain⟨u1,u2,rfl,ru1,ru2⟩:=vals2 rv
     cases ru1
     cases ru2
     obtain⟨its1,_,l1⟩:=jH I1 (iW P1 c1)
     obtain⟨its2,_,l2⟩:=jH I1 (iW P1 c2)
     refine BU l1 l2 fun g n hn Z pI pO i1 i2 kp=>?_
     obtain⟨o1,eo1⟩:=l1.some
     obtain⟨o2,eo2⟩:=l2.some
     refine wpAny_pyIter_zip (s:={s1 with heap:=g}) Z ?_
     refine⟨n+4,[n+4,n+2,n+3,n,n+1],_,_,H1,rfl,I1.kept (t':=s1.toks) kp,B_ (Ck x) (Ck y) (Ej (by rw[hn];exact Heap.lt_size eo1) (by rw[hn];exact Heap.lt_size eo2)),⟨Z,pI,⟨_,_,pO⟩,i1,i2⟩,fun b hb=>?_,?_⟩
     · have hb':s1.heap.objs.size≤b:=by
        simp only[List.mem_cons,List.not_mem_nil,or_false]at hb
        rcases hb with rfl|rfl|rfl|rfl|rfl<;>(rw[←hn];first|exact Nat.le_refl _|exact Nat.le_add_right _ _)
       exact I1.sJ hb' (I1.aI.fresh hb')
     · refine k _ _ st1 q _ α1 G1 H1 w1 P1 S1 (FX fun α' G' st' s' S' o=>?_)
       obtain⟨p1',ws1,e1,f1,d1⟩:=kZ S' (q1.step s') o.1
       obtain⟨p2',ws2,e2,f2,d2⟩:=kZ S' (q2.step s') o.2
       cases e1
       cases e2
       exact⟨ws1,ws2,d1,d2,f1,f2⟩
   · exact q.elim
 · exact q.elim
theorem mR{st:ag}{x y:D}{xs ys:List D}{K:List D→(ag→Prop)→ag→Prop}(ex:items? st x=some xs)(ey:items? st y=some ys)(k:∀ok:ag→Prop,(∀st',items? st' x=some xs→items? st' y=some ys→ok st')→K (gF xs ys) ok st):qG [x,y] st K:=by
 unfold qG Ce
 simp only[ex,ey]
 exact k _ fun st' h1 h2=>⟨h1,h2⟩
theorem pq{X:Cx}{a b:Expr}{elts:List Expr}{kx:Nat}{tpos p pos:Pos}{ar:DA}(hg:Gl X "zip")(hm:X.mg "zip"=none)(ha:JA X [a,b] ar)(hs:notStar a=true:=by rfl)(hs2:notStar b=true:=by rfl):JI X (.Tuple elts kx tpos) (.Call (.Name "zip" p) [a,b] [] pos) (oU ar):=by
 unfold JI;unfold JA at ha;exact FZ hg hm ha (by rw[cu hs,cu hs2];rfl) (cu hs2)
end L3
namespace L3
open PySem L2
open PySem.Spec hiding items?
open PyProof.Rows hiding St
section
variable {X:Cx}
theorem mh:∀ {ns:List Int} {us:List Value},Vals (ns.map V.int) us→∀(i:Nat) (u:Value),us[i]?=some u→∃t,u=Value.int (ns.getD i 0) t
 | [],_,.nil,i,u,e=>by simp at e
 |n::ns,_,.cons h t,0,u,e=>by
  obtain⟨tk,rfl⟩:=h
  simp at e
  exact⟨tk,by rw[←e];rfl⟩
 |n::ns,_,.cons h t,i+1,u,e=>by
  obtain⟨tk,q⟩:=mh t i u (by simpa using e)
  exact⟨tk,by rw[q];simp⟩
end
end L3
namespace L3
open PySem L2
open PySem.Spec hiding items?
open PyProof.Rows hiding St
section
variable {X:Cx}{pos:Pos}
end
end L3
namespace L3
open PySem L2 PySem.SeqAt
open PySem.Spec hiding items?
open PyProof.Rows hiding St
section
variable {X:Cx}{pins:List (Addr×Obj)}{σ:L2.St}{H:Hp}{s:Shared}{α:List (Option Addr)}
theorem wY{A:Around}{d e:D}{x y:V}{u v:Value}(hd:sQ d=true)(he:sQ e=true)(rd:Rep α H d x)(re:Rep α H e y)(rx:RelV x u)(ry:RelV y v):RcNeAt A s u v (!cJ d e):=by
 cases d<;>cases e<;>try(first|(cases hd;done)|(cases he;done))
 all_goals(unfold Rep at rd re;subst rd re)
 all_goals(first|(obtain⟨t,rfl⟩:=rx;obtain⟨t',rfl⟩:=ry)|(obtain⟨t,rfl⟩:=rx;cases ry)|(cases rx;obtain⟨t,rfl⟩:=ry)|(cases rx;cases ry))
 all_goals unfold cJ
 · exact RcNeAt.none_none
 · exact RcNeAt.none_bool _
 · exact RcNeAt.none_int _ _
 · exact RcNeAt.none_str _ _
 · exact RcNeAt.bool_none _
 · exact RcNeAt.bool_bool _ _
 · exact RcNeAt.bool_int _ _ _
 · exact RcNeAt.bool_str _ _ _
 · exact RcNeAt.int_none _ _
 · exact RcNeAt.int_bool _ _ _
 · exact RcNeAt.int_int _ _ _ _
 · exact RcNeAt.int_str _ _ _ _
 · exact RcNeAt.str_none _ _
 · exact RcNeAt.str_bool _ _ _
 · exact RcNeAt.str_int _ _ _ _
 · exact RcNeAt.str_str _ _ _ _
theorem sR(I:Inv X pins σ H s){A:Around}{xs:List D}{e:D}{x y:V}{u v:Value}(he:sQ e=true)(rd:Rep α H (.lst xs) x)(re:Rep α H e y)(rx:RelV x u)(ry:RelV y v)(hu:A.units<cLine):
 RcNeAt A s u v (!cJ (.lst xs) e)∧RcNeAt A s v u (!cJ e (.lst xs)):=by
 obtain⟨a,vs,its,rfl,_,_,hl⟩:=lst_is I rd rx
 cases e<;>try(cases he;done)
 all_goals(unfold Rep at re;subst re)
 all_goals(first|(obtain⟨t,rfl⟩:=ry)|(cases ry))
 all_goals unfold cJ
 · exact⟨RcNeAt.list_none hl hu,RcNeAt.none_list hl hu⟩
 · exact⟨RcNeAt.list_bool _ hl hu,RcNeAt.bool_list _ hl hu⟩
 · exact⟨RcNeAt.list_int _ _ hl hu,RcNeAt.int_list _ _ hl hu⟩
 · exact⟨RcNeAt.list_str _ _ hl hu,RcNeAt.str_list _ _ hl hu⟩
theorem sO(I:Inv X pins σ H s){A:Around}{xs:List D}{e:D}{x y:V}{u v:Value}(he:sQ e=true)(rd:Rep α H (.tup xs) x)(re:Rep α H e y)(rx:RelV x u)(ry:RelV y v)(hu:A.units<cLine):
 RcNeAt A s u v (!cJ (.tup xs) e)∧RcNeAt A s v u (!cJ e (.tup xs)):=by
 obtain⟨a,vs,its,rfl,_,_,hl⟩:=tup_is I rd rx
 cases e<;>try(cases he;done)
 all_goals(unfold Rep at re;subst re)
 all_goals(first|(obtain⟨t,rfl⟩:=ry)|(cases ry))
 all_goals unfold cJ
 · exact⟨RcNeAt.tuple_none hl hu,RcNeAt.none_tuple hl hu⟩
 · exact⟨RcNeAt.tuple_bool _ hl hu,RcNeAt.bool_tuple _ hl hu⟩
 · exact⟨RcNeAt.tuple_int _ _ hl hu,RcNeAt.int_tuple _ _ hl hu⟩
 · exact⟨RcNeAt.tuple_str _ _ hl hu,RcNeAt.str_tuple _ _ hl hu⟩
theorem HM(I:Inv X pins σ H s)(n:Nat)(A:Around)(d e:D)(x y:V)(u v:Value)(hd:pl n d=true)(he:pl n e=true)(rd:Rep α H d x)(re:Rep α H e y)(rx:RelV x u)(ry:RelV y v)(hu:A.units+n<cLine):RcNeAt A s u v (!cJ d e):=by
 cases n with
 |zero=>
  refine wY ?_ ?_ rd re rx ry
  · cases d<;>first|rfl|(cases hd)
  · cases e<;>first|rfl|(cases he)
 |succ n=>
  have hu0:A.units<cLine:=by(first|lia|omega)
  have hin:A.in1.units+n<cLine:=by rw[Around.in1_units];(first|lia|omega)
  cases d<;>try(cases hd;done)
  case lst xs=>
   cases e<;>try(cases he;done)
   case lst ys=>
    obtain⟨a,vs,its,rfl,r1,v1,l1⟩:=lst_is I rd rx
    obtain⟨b,ws,jts,rfl,r2,v2,l2⟩:=lst_is I re ry
    have e1:=r1.length
    have e2:=v1.length
    have e3:=r2.length
    have e4:=v2.length
    unfold cJ
    by_cases hlen:xs.length=ys.length
    · rw[lH hlen]
      have hsz:its.toArray.size=jts.toArray.size:=by simp only[List.size_toArray];(first|lia|omega)
      have hx:xs.length=its.toArray.size:=by simp only[List.size_toArray];(first|lia|omega)
      rw[hx]
      refine RcNeAt.lists l1 l2 hsz hu0 fun j h1 h2=>?_
      obtain⟨p,_,q1,q2⟩:=jf r1 v1 j (by simpa using h1)
      obtain⟨p',_,q1',q2'⟩:=jf r2 v2 j (by simpa using h2)
      exact(xX I n A.in1 _ _ p p' _ _ (ik (by unfold pl at hd;exact hd) j) (ik (by unfold pl at he;exact he) j) q1 q1' (by simpa using q2) (by simpa using q2') hin).2
    · rw[lG hlen]
      exact RcNeAt.lists_lengths l1 l2 (by simp only[List.size_toArray,bne_iff_ne,ne_eq];(first|lia|omega)) hu0
   case tup ys=>
    obtain⟨a,vs,its,rfl,r1,v1,l1⟩:=lst_is I rd rx
    obtain⟨b,ws,jts,rfl,r2,v2,l2⟩:=tup_is I re ry
    unfold cJ
    exact RcNeAt.list_tuple l1 l2 hu0
   all_goals exact(sR I rfl rd re rx ry hu0).1
  case tup xs=>
   cases e<;>try(cases he;done)
   case tup ys=>
    obtain⟨a,vs,its,rfl,r1,v1,l1⟩:=tup_is I rd rx
    obtain⟨b,ws,jts,rfl,r2,v2,l2⟩:=tup_is I re ry
    have e1:=r1.length
    have e2:=v1.length
    have e3:=r2.length
    have e4:=v2.length
    unfold cJ
    have key:=RcNeAt.tuples (e:=fun j=>cJ (xs.getD j .aC) (ys.getD j .aC)) l1 l2 hu0 fun j h1 h2=>by
     obtain⟨p,_,q1,q2⟩:=jf r1 v1 j (by simpa using h1)
     obtain⟨p',_,q1',q2'⟩:=jf r2 v2 j (by simpa using h2)
     exact(xX I n A.in1 _ _ p p' _ _ (ik (by unfold pl at hd;exact hd) j) (ik (by unfold pl at he;exact he) j) q1 q1' (by simpa using q2) (by simpa using q2') hin).2
    by_cases hlen:xs.length=ys.length
    · rw[lH hlen]
      have hsz:its.toArray.size=jts.toArray.size:=by simp only[List.size_toArray];(first|lia|omega)
      have hx:xs.length=its.toArray.size:=by simp only[List.size_toArray];(first|lia|omega)
      rw[hsz,Nat.min_self,beq_self_eq_true,Bool.and_true,←hsz,←hx]at key
      exact key
    · rw[lG hlen]
      have hne:(its.toArray.size==jts.toArray.size)=false:=by simp only[List.size_toArray,beq_eq_false_iff_ne,ne_eq];(first|lia|omega)
      rw[hne,Bool.and_false]at key
      exact key
   case lst ys=>
    obtain⟨a,vs,its,rfl,r1,v1,l1⟩:=tup_is I rd rx
    obtain⟨b,ws,jts,rfl,r2,v2,l2⟩:=lst_is I re ry
    unfold cJ
    exact RcNeAt.tuple_list l1 l2 hu0
   all_goals exact(sO I rfl rd re rx ry hu0).1
  all_goals
   cases e<;>try(cases he;done)
   case lst ys=>exact(sR I rfl re rd ry rx hu0).2
   case tup ys=>exact(sO I rfl re rd ry rx hu0).2
   all_goals exact wY rfl rfl rd re rx ry
noncomputable def FL:dh:=fun x y st K=>pl 40 x=true∧pl 40 y=true∧K (.bl (!cJ x y)) st
theorem Jj{k:Nat}(hr:cK k X.A):bW X (compareOp .NotEq) (LR FL):=fun pins s σ H x y v u Q I rx ry ⟨α,d,e,st,K,G,F',P,r1,r2,S,q,k⟩=>by
 have hu:=hr.units
 exact HM I 40 X.A d e x y v u q.1 q.2.1 (r1.mono P.same) (r2.mono P.same) rx ry (by(first|lia|omega)) _ _ _ _ ⟨.bl (!cJ d e),H,I,rfl,k.here P q.2.2 S (by unfold Rep;rfl)⟩
@[irreducible] noncomputable def sh:dh:=FL
theorem H_{k:Nat}(hr:cK k X.A):bW X (compareOp .NotEq) (LR sh):=by unfold sh;exact Jj hr
end
theorem GX{st:ag}{K:DK}{d e:D}(h1:pl 40 d=true)(h2:pl 40 e=true)(k:K (.bl (!cJ d e)) st):sh d e st K:=by unfold sh;exact⟨h1,h2,k⟩
theorem BL{st:ag}{K:DK}{d:D}(h:pl 40 d=true)(k:K (.bl false) st):sh d d st K:=GX h h (by rw[qo 40 d h];exact k)
theorem zV{st:ag}{n:Nat}{xs:List D}(h:items? st (.ref n)=some xs):st[n]?=some (.lst xs):=by
 unfold items? at h
 simp only at h
 split at h
 · rename_i q;cases h;exact q
 · cases h
theorem nH{env:Env}:∀(l:List (Str×NameKind)) (x:Str),(l.lookup x=some .cell∨l.lookup x=some .free)→
 ((l.map fun(n,k)=>if(k== .free&&env.scope.kind== .function&&env.kindOf n==some .cell)then(n,.cell)else(n,k)).lookup x=some .cell∨(l.map fun(n,k)=>if(k== .free&&env.scope.kind== .function&&env.kindOf n==some .cell)then(n,.cell)else(n,k)).lookup x=some .free)
 | [],x,h=>by simp at h
 |(n,k)::l,x,h=>by
  rw[List.map_cons]
  dsimp only
  by_cases hx:x=n
  · subst hx
    rw[List.lookup_cons_self]at h
    split
    · rw[List.lookup_cons_self];exact .inl rfl
    · rw[List.lookup_cons_self];exact h
  · have hb:(x==n)=false:=by simpa using hx
    have e1:List.lookup x ((n,k)::l)=List.lookup x l:=by rw[List.lookup_cons,hb]
    rw[e1]at h
    have ih:=nH (env:=env) l x h
    split
    · rw[List.lookup_cons,hb];exact ih
    · rw[List.lookup_cons,hb];exact ih
theorem br.Iq{X0:Cx}{scope0 scope:Scope}{Nc0 Nc:List Str}{C:Addr}{s:Shared}{H:Hp}{ex:List Addr}{fr:List (Option Nat)}(h:qV scope0 Nc0 scope Nc fr=true):br (eY X0 scope0 Nc0 C s H ex) scope Nc fr:=by
 unfold qV at h
 simp only[Bool.and_eq_true]at h
 obtain⟨⟨⟨⟨⟨h1,h2⟩,h3⟩,h4⟩,h5⟩,h6⟩:=h
 refine⟨by simpa using h1,fun x hx hk=>?_,fun x hx hk=>?_,fun x hx hk=>?_,by simpa using h5,fun i j x e1 e2=>?_⟩
 · have:=List.all_eq_true.mp h2 x hx
   rw[hk]at this
   simpa using this
 · have:=List.all_eq_true.mp h3 x hx
   rw[hk]at this
   simpa using this
 · have:=List.all_eq_true.mp h4 x hx
   rw[hk]at this
   have z:scope0.names.lookup x.1=some .cell∨scope0.names.lookup x.1=some .free:=by simpa using this
   exact nH _ _ z
 · have hi:i<fr.length:=(List.getElem?_eq_some_iff.mp e2).1
   have:=List.all_eq_true.mp h6 i (List.mem_range.mpr hi)
   rw[e1,e2]at this
   simp only[Bool.and_eq_true,Bool.or_eq_true,beq_iff_eq]at this
   exact⟨this.1.1,this.1.2,nH _ _ this.2⟩
end L3
namespace L3
open PySem L2
open PySem.Spec hiding items?
open PyProof.Rows hiding St
section
variable {X:Cx}
noncomputable def Cp:dh:=fun x y st K=>match x,y with
 | .lst xs,.int k=>(-(2^63)≤k∧k<2^63∧xs.length*k.toNat≤sizeLine)∧K (.ref st.length) (st++[.lst (List.replicate k.toNat xs).flatten])
 |_,_=>False
theorem HF:bW X (binaryOp .Mult) (LR Cp):=fun pins s σ H x y v u Q I rx ry ⟨α,d,e,st,K,G,F',P,r1,r2,S,q,k⟩=>by
 cases d<;>cases e<;>try exact q.elim
 unfold Rep at r1 r2
 obtain⟨a,vs,rfl,na,ha,ra⟩:=r1
 refine w4 pins s σ H _ _ v u Q I rx ry ⟨a,_,vs,rfl,r2,gq P ha,q.1.1,q.1.2.1,by rw[←ra.length];exact q.1.2.2,fun p hp=>?_⟩
 exact k.new P q.2 S (aU.mpr (j6 (aU.mp ra) _)) hp
@[irreducible] noncomputable def rP:dh:=Cp
theorem GZ:bW X (binaryOp .Mult) (LR rP):=by unfold rP;exact HF
end
theorem D_{st:ag}{K:DK}{xs:List D}{i:Int}(h: -(2^63)≤i∧i<2^63∧xs.length*i.toNat≤sizeLine)(k:K (.ref st.length) (st++[.lst (List.replicate i.toNat xs).flatten])):rP (.lst xs) (.int i) st K:=by unfold rP;exact⟨h,k⟩
theorem AM{n:Nat}{d:D}(h:d∈dw 0 n):∃i:Nat,i<n∧d= .int (i:Int):=by
 unfold dw at h
 obtain⟨i,hi,rfl⟩:=List.mem_map.mp h
 rw[List.mem_range]at hi
 exact⟨i,hi,by rw[Int.zero_add]⟩
theorem Ah{f:Nat→D}(n:Nat):(dw 0 n).map (fun d=>match d with| .int i=>f i.toNat|_=> .aC)=(List.range n).map f:=by
 unfold dw
 rw[List.map_map]
 refine List.map_congr_left fun i _=>?_
 show f ((0:Int)+(i:Int)).toNat=f i
 have:((0:Int)+(i:Int)).toNat=i:=by(first|lia|omega)
 rw[this]
theorem jw{tg:eZ}{te:DE}{σc:bG}{st:ag}{K:List D→ag→Prop}(f:Nat→D)(n:Nat)(hx:∀i:Nat,i<n→∀K',K' (f i) st→∃σ2,tg (.int (i:Int)) σc=some σ2∧te σ2 st K')(k:K ((List.range n).map f) st):dz tg cG te (fun _=>True) σc (dw 0 n) [] st K:=by
 refine comp_map (g:=fun d=>match d with| .int i=>f i.toNat|_=> .aC) trivial _ (fun d hd K' q=>?_) (by rw[Ah];exact k)
 obtain⟨i,hi,rfl⟩:=AM hd
 exact hx i hi K' q
theorem gL{tg:eZ}{body:DS}{E:jq}(n:Nat)(I:Nat→bG→ag→Prop)(hend:∀σ st,I n σ st→E.nx σ st)
 (hstep:∀(j:Nat) σ st (rest:List D),j<n→I j σ st→(∀σ' st',I (j+1) σ' st'→e9 tg body (fun _=>True) E rest σ' st')→∃σ1,tg (.int (j:Int)) σ=some σ1∧body {E with nx:=e9 tg body (fun _=>True) E rest,ct:=e9 tg body (fun _=>True) E rest,bk:=E.nx} σ1 st)
 {σ:bG} {st:ag} (h0:I 0 σ st):e9 tg body (fun _=>True) E (dw 0 n) σ st:=by
 refine i_ (fun rest σ st=>∃j:Nat,j≤n∧rest=(List.range (n-j)).map (fun i=>D.int (((j+i:Nat):Int)))∧I j σ st) ?_ ?_ _ _ _ ⟨0,Nat.zero_le _,by unfold dw;simp,h0⟩
 · rintro σ st ⟨j,hj,hr,hI⟩
   have:n-j=0:=by
    cases q:n-j with
    |zero=>rfl
    |succ m=>rw[q,List.range_succ_eq_map]at hr;cases hr
   have hjn:j=n:=by(first|lia|omega)
   subst hjn
   exact⟨trivial,hend σ st hI⟩
 · rintro d rest σ st ⟨j,hj,hr,hI⟩ next
   cases q:n-j with
   |zero=>rw[q]at hr;cases hr
   |succ m=>
    rw[q,List.range_succ_eq_map,List.map_cons,List.map_map]at hr
    simp only[List.cons.injEq]at hr
    obtain⟨rfl,hrest⟩:=hr
    refine⟨trivial,hstep j σ st rest (by(first|lia|omega)) hI fun σ' st' h'=>next σ' st' ⟨j+1,by(first|lia|omega),?_,h'⟩⟩
    have:n-(j+1)=m:=by(first|lia|omega)
    rw[this,hrest]
    refine List.map_congr_left fun i _=>?_
    show D.int (((j+(i+1):Nat):Int))=D.int (((j+1+i:Nat):Int))
    congr 2;(first|lia|omega)
end L3
namespace L3
open PySem L2
open PySem.Spec hiding items?
open PyProof.Rows hiding St
noncomputable abbrev DM:=Nat→List D→ag→DK→Prop
noncomputable def LiftM(r:DM)(rM:V→List V→Hp→VK→Prop):Prop:=∀(α:List (Option Addr)) (G F H:Hp) (st:ag) (K:DK) (Q:VK) (n:Nat) (a:Addr) (ds:List D) (ws:List V),bT G F H→aT α st G→α[n]?=some (some a)→aN α G ds ws→r n ds st K→LK α G F K Q→rM (.ref a) ws H Q
@[irreducible] noncomputable def nN(r:DM)(to:DE)(ta:DA):DE:=fun σ st K=>to σ st fun x st1=>match x with
 | .ref n=>(match st1[n]? with|some (.lst _)=>ta σ st1 fun ds st2=>(∃xs,st2[n]?=some (.lst xs))∧r n ds st2 K|_=>False)
 |_=>False
section
variable {X:Cx}
theorem LE.Kb{r:DM}{rM:V→List V→Hp→VK→Prop}(L:LiftM r rM){to:DE}{ta:DA}{σ:L2.St}{H:Hp}{Q:VK}(h:LE (nN r to ta) σ H Q):Gd X.K "list" rM (LE to) (LA ta) σ H Q:=by
 obtain⟨α,σd,st,K,G,F,P,R,S,t,k⟩:=h
 unfold nN at t
 refine⟨α,σd,st,_,G,F,P,R,S,t,fun x st1 q α1 G1 H1 v s1 P1 S1 r1=>?_⟩
 cases x<;>try exact q.elim
 rename_i n
 simp only at q
 split at q
 · rename_i ys e
   obtain⟨p,ep,vs,h1,h2⟩:=S1.gm e
   have r1':=dQ ep r1
   subst r1'
   refine⟨.inl ⟨rfl,vs,.inl (.of (P1.get h1))⟩,α1,σd,st1,_,G1,F,P1,R.step s1,S1,q,?_⟩
   rintro ds st2 ⟨⟨xs,e2⟩,q2⟩ α2 G2 H2 ws s2 P2 S2 r2
   obtain⟨p2,ep2,_⟩:=S2.gm e2
   have:p2=p:=by
    rcases s2.pre _ _ ep with z|z<;>(rw[z]at ep2;cases ep2)
    rfl
   subst this
   exact L α2 G2 F H2 st2 K Q n p2 ds ws P2 S2 ep2 r2 q2 ((k.at s1).at s2)
 · exact q.elim
theorem Hz{r:DM}{rM:V→List V→Hp→VK→Prop}{name:Str}{id:String}(L:LiftM r rM)(slot:Slot "list" name id)(hty:typeOf (.builtin id)=pure (.type "method_descriptor"))(hm:Fw X id rM){o e:Expr}{es:List Expr}{to:DE}{ta:DA}{apos cpos:Pos}(ho:PE X o (LE to))(ha:PA X (e::es) (LA ta))
 (hbase:attributeBase o name X.env (eval o X.env)=eval o X.env) (hfew:((backTo cpos (starEach (e::es) X.env)).all (fun x=> !x.1)&&(backToKw cpos (keywordEach [] X.env)).all (fun x=>x.1.isSome)
   &&decide ((e::es).length+([]:List Keyword).length+(if([]:List Keyword).isEmpty then 0 else 1)<30))=true)
 (hline:(apos.endLine==cpos.line)=true) (hs:starEach (e::es) X.env=(false,eval e X.env)::starEach es X.env) (hplain:(backTo cpos (starEach es X.env)).any (·.1)=false):PE X (.Call (.Attribute o name apos) (e::es) [] cpos) (LE (nN r to ta)):=
 PE.imp (CS PySem.F.plainAttrs_list slot hty hm ho ha hbase hfew hline hs hplain) fun _ _ _ h=>LE.Kb L h
noncomputable def mm:DM:=fun n ds st K=>match ds with
 | [.int i]=>(match st[n]? with|some (.lst xs)=>(-(2^63)≤i∧i<2^63)∧(match jK xs.length i with|some j=>(match xs[j]? with|some d=>K d (st.set n (.lst (xs.eraseIdx j)))|none=>False)|none=>False)|_=>False)
 |_=>False
theorem oB{A B:Type}{F:A→B→Prop}:∀ {xs:List A} {ys:List B} (i:Nat),Paired F xs ys→Paired F (xs.eraseIdx i) (ys.eraseIdx i)
 |_,_,_,.nil=> .nil
 |_,_,0,.cons _ t=>t
 |_,_,i+1,.cons r t=> .cons r (oB i t)
theorem zX:LiftM mm zu:=by
 intro α G F H st K Q n a ds ws P S ea rs q k
 unfold mm at q
 split at q
 · rename_i i
   split at q
   · rename_i xs e
     obtain⟨h63,q⟩:=q
     split at q
     · rename_i j ej
       split at q
       · rename_i d ed
         obtain⟨v,rfl,r1⟩:=ie rs rfl
         unfold Rep at r1
         subst r1
         obtain⟨a',ea',vs,h1,h2⟩:=S.gm e
         rw[ea]at ea';cases ea'
         obtain⟨y,ey,ry⟩:=h2.get ed
         have hm:some a∈α:=List.mem_of_getElem? ea
         refine⟨a,vs,i,j,y,rfl,rfl,P.get h1,h63.1,h63.2,by rw[←h2.length];exact(sf ej).1,ey,?_⟩
         refine k d _ q α (upd G a (.lst (vs.eraseIdx j))) _ y (Step.write hm) (P.write h1) ?_ (ry.step (Step.write hm))
         exact S.write ea ⟨vs.eraseIdx j,aV,(aU.mpr (oB j (aU.mp h2))).step (Step.write hm)⟩
       · exact q.elim
     · exact q.elim
   · exact q.elim
 · exact q.elim
theorem Gm{o e:Expr}{to te:DE}{apos cpos:Pos}(ho:JE X o to)(he:JE X e te)(hbase:attributeBase o "pop" X.env (eval o X.env)=eval o X.env:=by rfl)(hline:(apos.endLine==cpos.line)=true:=by rfl)(hs:notStar e=true:=by rfl):JE X (.Call (.Attribute o "pop" apos) [e] [] cpos) (nN mm to (ae te aj)):=by
 unfold JE at*
 refine Hz zX PySem.F.slot_list_pop PySem.F.type_list_pop A3 ho (o_ he rO (cu hs)) hbase ?_ hline (cu hs) rfl
 rw[cu hs]
 rfl
end
noncomputable abbrev sT:=D→bG→ag→(bG→ag→Prop)→Prop
inductive HA(t:sT)(v:V)(σ:L2.St)(H:Hp)(Q:L2.St→Hp→Prop):Prop
 |mk (α:List (Option Addr)) (σd:bG) (st:ag) (d:D) (K:bG→ag→Prop) (G F:Hp) (P:bT G F H) (R:dN α G σd σ) (S:aT α st G) (r:Rep α G d v) (h:t d σd st K) (k:LC α G F K Q):HA t v σ H Q
noncomputable def vC(t:sT):TG:=HA t
noncomputable def pd(to ti:DE):sT:=fun d σ st K=>to σ st fun x st1=>ti σ st1 fun y st2=>rT x y d st2 fun st3=>K σ st3
section
variable {X:Cx}{pos:Pos}
theorem zw{tg:Expr}{to ti:DE}(h:PG X tg (sE (LE to) (LE ti) o8)):PG X tg (vC (pd to ti)):=PG.imp h fun v σ H Q ⟨α,σd,st,d,K,G,F,P,R,S,r,q,k⟩=>by
 unfold pd rT at q
 refine⟨α,σd,st,_,G,F,P,R,S,q,fun x st2 q2 α2 G2 H2 v2 s2 P2 S2 r2=>?_⟩
 refine⟨α2,σd,st2,_,G2,F,P2,R.step s2,S2,q2,fun y st3 q3 α3 G3 H3 v3 s3 P3 S3 r3=>?_⟩
 cases x<;>cases y<;>try exact q3.elim
 rename_i n kk
 unfold wb at q3
 simp only at q3
 split at q3
 · rename_i xs e
   split at q3
   · rename_i j ej
     obtain⟨p,ep,vs,hv,rv⟩:=S3.gm e
     have r2':=dQ ep (r2.step s3)
     subst r2'
     unfold Rep at r3
     have hm:some p∈α3:=List.mem_of_getElem? ep
     have rd:=(r.step s2).step s3
     refine⟨p,vs,kk,j,rfl,r3,P3.get hv,by rw[←rv.length];exact ej,?_⟩
     refine((k.at s2).at s3) σd _ q3 α3 (upd G3 p (.lst (vs.set j v))) _ σ (Step.write hm) (P3.write hv) (((R.step s2).step s3).step (Step.write hm)) ?_
     exact S3.write ep ⟨vs.set j v,aV,(aU.mpr (m9 rd j (aU.mp rv))).step (Step.write hm)⟩
   · exact q3.elim
 · exact q3.elim
noncomputable def rg(t u:sT):sT:=fun d σ st K=>match d with| .tup [x,y]=>t x σ st fun σ1 st1=>u y σ1 st1 K|_=>False
theorem DX{a b:Expr}{kx:Nat}{t u:sT}(hc:X.calm=true)(ha:PG X a (vC t))(hb:PG X b (vC u))(hn:(assignEach [a,b] X.env).length=2)(hst:(assignEach [a,b] X.env).findIdx? (·.1)=none)(hs1:zr X [a,b] (qK (vC t) (qK (vC u) Bv))):
 PG X (.Tuple [a,b] kx pos) (vC (rg t u)):=PG.imp (As hc hs1 hn hst) fun v σ H Q ⟨α,σd,st,d,K,G,F,P,R,S,r,q,k⟩=>by
 unfold rg at q
 split at q
 · rename_i x y
   unfold Rep at r
   obtain⟨p,vs,rfl,na,h1,h2⟩:=r
   obtain⟨v1,v2,rfl,r1,r2⟩:=kT h2 rfl
   refine⟨p,_,rfl,.of (P.get h1),rfl,v1,_,rfl,α,σd,st,x,_,G,F,P,R,S,r1,q,fun σ1 st1 q1 α1 G1 H1 σ1' s1 P1 R1 S1=>?_⟩
   refine⟨v2,_,rfl,α1,σ1,st1,y,_,G1,F,P1,R1,S1,r2.step s1,q1,fun σ2 st2 q2 α2 G2 H2 σ2' s2 P2 R2 S2=>?_⟩
   exact⟨rfl,((k.at s1).at s2).here P2 q2 R2 S2⟩
 · exact q.elim
noncomputable def yN(t:sT)(te:DE):DS:=fun E σ st=>te σ st fun d st1=>t d σ st1 E.nx
theorem DN{s:Stmt}{te:DE}{t:sT}(h:PS X s (jV (LE te) (vC t))):PS X s (LS (yN t te)):=PS.imp h fun D σ H ⟨α,σd,st,DD,G,F,P,R,S,q,k⟩=>
 ⟨α,σd,st,_,G,F,P,R,S,q,fun d st1 q1 α1 G1 H1 v s1 P1 S1 r1=>⟨α1,σd,st1,d,DD.nx,G1,F,P1,R.step s1,S1,r1,q1,k.nx.at s1⟩⟩
theorem Eh{o1 i1 o2 i2 e:Expr}{kx:Nat}{p1 p2 tp:Pos}{to1 ti1 to2 ti2 te:DE}(ho1:JE X o1 to1)(hi1:JE X i1 ti1)(ho2:JE X o2 to2)(hi2:JE X i2 ti2)(he:JE X e te)(hc:X.calm=true:=by rfl)
 (hs:swapsWithSole [.Tuple [.Subscript o1 i1 p1,.Subscript o2 i2 p2] kx tp] e pos.line X.env=pure false:=by rfl) (hw:swappedStores [.Tuple [.Subscript o1 i1 p1,.Subscript o2 i2 p2] kx tp] e X.env=pure none:=by rfl)
 (h1:(assignEach [.Tuple [.Subscript o1 i1 p1,.Subscript o2 i2 p2] kx tp] X.env).map (·.2)=[assign (.Tuple [.Subscript o1 i1 p1,.Subscript o2 i2 p2] kx tp) X.env]:=by rfl) (hn:(assignEach [.Subscript o1 i1 p1,.Subscript o2 i2 p2] X.env).length=2:=by rfl) (hst:(assignEach [.Subscript o1 i1 p1,.Subscript o2 i2 p2] X.env).findIdx? (·.1)=none:=by rfl)
 (ha1:∀v,assign (.Subscript o1 i1 p1) X.env v=(do
   let ov ←holding [v] (eval o1 X.env)
   let iv ←holding [v,ov] (eval i1 X.env)
   standAt p1
   holding [v,ov,iv] (setItem ov iv v)
   release [v,ov,iv] []):=by intro _;rfl) (ha2:∀v,assign (.Subscript o2 i2 p2) X.env v=(do
   let ov ←holding [v] (eval o2 X.env)
   let iv ←holding [v,ov] (eval i2 X.env)
   standAt p2
   holding [v,ov,iv] (setItem ov iv v)
   release [v,ov,iv] []):=by intro _;rfl):
 JS X (.Assign [.Tuple [.Subscript o1 i1 p1,.Subscript o2 i2 p2] kx tp] e pos) (yN (rg (pd to1 ti1) (pd to2 ti2)) te):=by
 unfold JS
 unfold JE at*
 have g1:=zw (qH ho1 hi1 set_list ha1)
 have g2:=zw (qH ho2 hi2 set_list ha2)
 exact DN (rL he (DX hc g1 g2 hn hst (nO g1 (nO g2 xl))) hs hw h1)
end
end L3
namespace L3
open PySem L2
open PySem.Spec hiding items?
open PyProof.Rows hiding St
section
variable {X:Cx}
end
section
variable {st:ag}{K:DK}{d:D}{b:Bool}
end
end L3
namespace L3
open PySem L2
open PySem.Spec hiding items?
open PyProof.Rows hiding St
section
variable {X:Cx}
theorem ER{o i elt:Expr}{gs:List Comprehension}{sc:Scope}{p:Pos}{to ti te:TE}{pos pos':Pos}(he:PE X (.ListComp elt gs sc p) te)(ho:PE X o to)(hi:PE X i ti)(h2:i4 i=true:=by rfl):PS X (.Assign [.Subscript o i pos'] (.ListComp elt gs sc p) pos) (jV te (sE to ti o8)):=
 rL he (qH ho hi set_list (by intro v;cases i<;>first|rfl|cases h2)) (by unfold swapsWithSole swapsWith;rfl) rfl rfl
theorem sW{o i elt:Expr}{gs:List Comprehension}{sc:Scope}{p pos pos':Pos}{te to ti:DE}(he:JE X (.ListComp elt gs sc p) te)(ho:JE X o to)(hi:JE X i ti)(h2:i4 i=true:=by rfl):JS X (.Assign [.Subscript o i pos'] (.ListComp elt gs sc p) pos) (eP to ti te):=by
 unfold JS;unfold JE at*;exact vD (ER he ho hi h2)
end
end L3
namespace L3
open PySem L2
open PySem.Spec hiding items?
open PyProof.Rows hiding St
open AutoSeq1 (wpAny_loadPart')
theorem EM{P:Program}{w:World}{A:Around}(hh:A.handled=none)(k:SK)(t a:Addr)(hne:a≠t)(us:Array Value):Draws P w A t [t,a] us.size (fun i v=>us[i]?=some v) (fun n g=>nS k t a n g∧jM k g a us) where
 live:=fun i h z=>((kM (P:=P) (w:=w) k t a hne us).lv i h z).1
 frame:=fun i h h' z kp=>(kM (P:=P) (w:=w) k t a hne us).fr i h h' z fun b hb o e=>kp b (by rcases hb with rfl|rfl<;>simp) o e
 item:=fun i s Q E hi z q=>(kM (P:=P) (w:=w) k t a hne us).nx i A s Q E us[i] z (by simp[hi]) fun g j sb=>q _ g s.toks (by simp[hi]) j sb
 done:=fun s Q E z q=>(kM (P:=P) (w:=w) k t a hne us).en us.size A s Q E hh z (by simp) q
theorem nk(l:Addr)(items:Array Value)(n:Nat)(dct:Option Addr)(sl:Array (Option Value)):
 Meets (Builtin.«enumerate.__new__» ⟨[.type "enumerate",.ref l],[]⟩) (fun _ R s=>s.heap.get? l=some {cls:= .type "tuple",dict:=dct,data:= .seq items n,slots:=sl}∧
  R (.ok (.ret (.ref (s.heap.push {cls:= .type "tuple_iterator",data:= .fields #[.ref l,.int 0 0]}).objs.size)))
   {s with heap:=(s.heap.push {cls:= .type "tuple_iterator",data:= .fields #[.ref l,.int 0 0]}).push {cls:= .type "enumerate",data:= .fields #[.none,.bool false,.ref s.heap.objs.size,rawInt 0,.none,.none]}}):=
 .of_wp fun prog w A R s h=>by
  obtain⟨hp,g,d,tk,os⟩:=s;obtain⟨hl,h⟩:=h
  have hsub:=sub_enumerate
  have hL:Heap.IsTuple (Shared.heap ⟨hp,g,d,tk,os⟩) l items:=⟨_,hl,rfl,n,rfl⟩
  wp_walk using wpAny_loadPart' hl
  refine wpAny_stack_any fun st=>wpAny_pure ?_
  split
  · rename_i c _ _ _ _ _
    cases (c==Value.type "enumerate")
    · wp_walk using wpAny_loadPart' hl,wpAny_pyIter_tuple hL
      exact⟨_,rfl,h⟩
    · wp_walk using wpAny_loadPart' hl,wpAny_pyIter_tuple hL
      exact⟨_,rfl,h⟩
  · wp_walk using wpAny_loadPart' hl,wpAny_pyIter_tuple hL
    exact⟨_,rfl,h⟩
theorem zt{P:Program}{w:World}{A:Around}{s:Shared}{E:Value→Shared→Prop}{k:SK}{a:Addr}{us:Array Value}{Q:Value→Shared→Prop}(c:jM k s.heap a us)
 (q:∀g,IsEnum g (s.heap.objs.size+1) s.heap.objs.size 0 .none→nS k s.heap.objs.size a 0 g→(∀b o,s.heap.get? b=some o→g.get? b=some o)→Q (.ref (s.heap.objs.size+1)) {s with heap:=g}):
 wpAny (model P w) A (call (.type "enumerate") [.ref a]) Q E s:=by
 cases k
 · exact call_enumerate_list c fun g h1 h2 _ h4=>q g h1 h2 h4
 · obtain⟨⟨c,dct,dt,sl⟩,hl,hc,n,hd⟩:=c
   replace hc:c= .type "tuple":=hc
   replace hd:dt= .seq us n:=hd
   subst hc hd
   refine callType_new F.called_enumerate (by decide) (F.typeCall_enumerate_1 _) (F.newCall_enumerate_1 _) (fun obj=>F.args_object_init_2 obj _) F.entry_enumerate_new
    (nk a us n dct sl) ⟨hl,?_⟩
   have hz:(s.heap.push {cls:= .type "tuple_iterator",data:= .fields #[.ref a,.int 0 0]}).objs.size=s.heap.objs.size+1:=Heap.size_push ..
   show _∧_
   rw[hz]
   have he:IsEnum ((s.heap.push {cls:= .type "tuple_iterator",data:= .fields #[.ref a,.int 0 0]}).push
    {cls:= .type "enumerate",data:= .fields #[.none,.bool false,.ref s.heap.objs.size,rawInt 0,.none,.none]}) (s.heap.objs.size+1) s.heap.objs.size 0 .none:=by
    have:=Heap.get?_push_size (s.heap.push {cls:= .type "tuple_iterator",data:= .fields #[.ref a,.int 0 0]})
     (o:={cls:= .type "enumerate",data:= .fields #[.none,.bool false,.ref s.heap.objs.size,rawInt 0,.none,.none]}) rfl
    rw[hz]at this;exact this
   exact⟨⟨_,he,rfl⟩,q _ he ⟨_,Heap.get?_push_of_some _ (Heap.get?_push_size _ rfl),rfl,rfl⟩ fun b o x=>Heap.get?_push_of_some _ (Heap.get?_push_of_some _ x)⟩
noncomputable def JD(K:PySem.W.Frag)(k:SK)(a:Addr):It:=
 ⟨fun i H=>∃xs x,mQ k K H a xs∧xs[i]?=some x,
  fun i H v H'=>∃T x,H T=none∧v= .ref T∧H'=upd H T (.tup [.int (i:Int),x])∧∀xs,mQ k K H a xs→xs[i]?=some x,
  fun i H=>∃xs,mQ k K H a xs∧xs.length≤i⟩
noncomputable def Kd(e t a:Addr)(k:SK)(i:Nat)(h:Heap):Prop:=(∃old,IsEnum h e t i old)∧nS k t a i h
theorem AN{P:Program}{w:World}{K:PySem.W.Frag}{elts:List Expr}{kx:Nat}{pos:Pos}{e t a:Addr}(k:SK)(n1:e≠t)(n2:a≠e)(n3:a≠t):
 Turn P w K (.Tuple elts kx pos) (JD K k a) [e,t] e (Kd e t a k) where
 mem:=by simp
 obj:=fun i h st b hb=>by
  obtain⟨⟨old,he⟩,i1⟩:=st
  simp only[List.mem_cons,List.not_mem_nil,or_false]at hb
  rcases hb with rfl|rfl
  · exact⟨_,he,fun v z=>by cases z⟩
  · exact kX i1
 keep:=fun i h h' st kp=>by
  obtain⟨⟨old,he⟩,i1⟩:=st
  exact⟨⟨old,kp e (by simp) _ he⟩,mL i1 (kp t (by simp))⟩
 item:=by
  intro X hP hw hK hc i pins s σ H E I hf st hg
  subst hP hw hK
  obtain⟨⟨old,he⟩,i1⟩:=st
  obtain⟨xs,x,q1,ex⟩:=hg
  obtain⟨us,r1,l1⟩:=jH I q1
  obtain⟨u,eu,ru⟩:=r1.get ex
  have hlt:i<us.toArray.size:=by
   have:=(List.getElem?_eq_some_iff.mp eu).1
   simpa using this
  refine wpAny_pyNext_enum_itemD (EM (A:=X.A.in1) (show X.A.in1.handled=none from I.ok.hd hc) k t a n3 us.toArray) he ⟨i1,l1⟩ hlt n1 (by simp only[List.mem_cons,List.not_mem_nil,or_false,not_or];exact⟨n1,Ne.symm n2⟩) fun y h' tk py ho hs hT hsz kp=>⟨_,rfl,?_⟩
  have hy:y=u:=by
   have:us[i]?=some y:=by simpa using py
   rw[eu]at this;cases this;rfl
  subst hy
  refine wpAny_letOwnedTupleGo_enum (s:={s with heap:=h',toks:=tk+1}) ho fun k' he' sb=>?_
  have hTe:s.heap.objs.size≠e:=Nat.ne_of_gt (Heap.lt_size he)
  have kp3:∀b o,b∉[e,t]→s.heap.get? b=some o→k'.get? b=some o:=fun b o hb eb=>by
   simp only[List.mem_cons,not_or,List.not_mem_nil,not_false_eq_true,and_true]at hb
   exact sb.extBut _ _ hb.1 (kp b o hb.1 hb.2 eb)
  refine⟨.ref s.heap.objs.size,upd H s.heap.objs.size (.tup [.int (i:Int),x]),C6 (s:=s) (tk:=tk+1) I hf kp3 (Nat.le_refl _) ?_,rfl,⟨s.heap.objs.size,x,I.aI.fresh (Nat.le_refl _),rfl,rfl,?_⟩,?_,?_⟩
  · refine⟨Nat.le_of_ble_eq_true rfl,[.int (i:Int) tk,y],.cons ⟨tk,rfl⟩ (.cons ru .nil),?_⟩
    exact⟨_,sb.extBut _ _ hTe hT,rfl,_,rfl⟩
  · intro xs' q'
    rw[rQ I q' q1];exact ex
  · refine⟨⟨_,by simpa using he'⟩,mL hs.1 fun o eo=>sb.extBut _ _ (Ne.symm n1) eo⟩
  · intro b hb
    have:b≠s.heap.objs.size:=by
     obtain⟨o,eb⟩:∃o,s.heap.get? b=some o:=by
      simp only[List.mem_cons,List.not_mem_nil,or_false]at hb
      rcases hb with rfl|rfl
      · exact⟨_,he⟩
      · obtain⟨o,eo,_⟩:=kX i1;exact⟨o,eo⟩
     exact Nat.ne_of_lt (Heap.lt_size eb)
    rw[aL this]
    exact(hf b hb).1
 done:=by
  intro X hP hw hK hc i pins s σ H E I hf st hg
  subst hP hw hK
  obtain⟨⟨old,he⟩,i1⟩:=st
  obtain⟨xs,q1,hle⟩:=hg
  obtain⟨us,r1,l1⟩:=jH I q1
  have e1:=r1.length
  have tz:s.TypeIs (.ref e) "enumerate":=⟨_,he,rfl⟩
  unfold pyNext
  refine wpAny_bind (wpAny_attempt (wpAny_callSpecial?_slot (name:=Str.ofString "__next__") tz F.slot_enumerate_next (wpAny_call_entry F.slot_enumerate_next tz F.entry_enumerate_next ?_ (F.args_enumerate_next_1 _))))
  show wpAny _ _ (field (.ref e) 2 >>= _) _ _ _
  refine wpAny_bind (wpAny_field he rfl (x:= .ref t) rfl ?_)
  refine wpAny_bind ((kM k t a n3 us.toArray).en i _ s _ _ (I.ok.hd hc) ⟨i1,l1⟩ (by simp;(first|lia|omega)) fun g x sb hx=>?_)
  obtain⟨o,ho,hc2⟩:=hx
  refine wpAny_bind (wpAny_isInstance (T:="StopIteration") (b:=true) ⟨o,ho,hc2⟩ isSubtype_stop ?_)
  refine wpAny_pure ⟨rfl,CY (s:=s) (tk:=s.toks) I hf fun b o hb eb=>?_⟩
  simp only[List.mem_cons,not_or,List.not_mem_nil,not_false_eq_true,and_true]at hb
  exact sb b o hb.2 eb
 self:=fun _ _ _ _ _ st h=>wpAny_pyIter_enum st.1.choose_spec h
noncomputable def iY:Nat→List D→List D
 |_,[]=>[]
 |i,x::xs=> .tup [.int (i:Int),x]::iY (i+1) xs
theorem tG:∀ {xs:List D} {i:Nat},(iY i xs).length=xs.length
 | [],_=>rfl
 |_::xs,i=>by unfold iY;rw[List.length_cons,List.length_cons,tG]
theorem oS:∀ {xs:List D} {i n:Nat} {d:D},(iY i xs)[n]?=some d→∃x,xs[n]?=some x∧d= .tup [.int ((i+n:Nat):Int),x]
 | [],_,_,_,e=>by unfold iY at e;cases e
 |x::xs,i,0,d,e=>by
  unfold iY at e
  rw[List.getElem?_cons_zero]at e
  cases e
  exact⟨x,rfl,rfl⟩
 |x::xs,i,n+1,d,e=>by
  unfold iY at e
  rw[List.getElem?_cons_succ]at e
  obtain⟨y,h1,h2⟩:=oS e
  refine⟨y,by rw[List.getElem?_cons_succ];exact h1,?_⟩
  rw[h2,show i+1+n=i+(n+1) by(first|lia|omega)]
theorem Du{K:PySem.W.Frag}{k:SK}{a:Addr}{α:List (Option Addr)}{G:Hp}{ok:ag→Prop}{xs:List D}
 (h:∀α' G' st',Step α G α' G'→aT α' st' G'→ok st'→∃vs,zK k G' a vs∧aN α' G' xs vs):rS (JD K k a) α G ok (iY 0 xs) where
 stop:=fun n α' G' F' H' st' s P S o hn=>by
  obtain⟨vs,h1,r1⟩:=h α' G' st' s S o
  rw[tG]at hn
  refine⟨vs,iW P h1,?_⟩
  have:=r1.length
  (first|lia|omega)
 go:=fun n d α' G' F' H' st' s P S o hn=>by
  obtain⟨vs,h1,r1⟩:=h α' G' st' s S o
  obtain⟨x,ex,rfl⟩:=oS hn
  obtain⟨v,ev,_⟩:=r1.get ex
  exact⟨vs,v,iW P h1,ev⟩
 mS:=fun n d α' G' F' H' st' x H'' s P S o hn y=>by
  obtain⟨vs,h1,r1⟩:=h α' G' st' s S o
  obtain⟨c,ec,rfl⟩:=oS hn
  obtain⟨T,v,hT,rfl,rfl,y1⟩:=y
  obtain⟨v',ev,rv⟩:=r1.get ec
  rw[y1 vs (iW P h1)]at ev
  cases ev
  have hg:=(P.none hT).1
  refine⟨upd G' T (.tup [.int (n:Int),v]),Step.laid hg,P.laid hT,S.laid hg,?_⟩
  unfold Rep
  refine⟨T,[.int (n:Int),v],rfl,S.jz hg,aV,?_⟩
  unfold aN
  refine⟨.int (n:Int),[v],rfl,?_,?_⟩
  · unfold Rep;rw[Nat.zero_add]
  unfold aN
  exact⟨v,[],rfl,rv.step (Step.laid hg),by unfold aN;rfl⟩
noncomputable def x9(ds:List D)(st1:ag)(K:List D→(ag→Prop)→ag→Prop):Prop:=match ds with
 | [x]=>(match items? st1 x with
   |some xs=>K (iY 0 xs) (fun st'=>items? st' x=some xs) st1
   |_=>False)
 |_=>False
@[irreducible] noncomputable def oj:List D→ag→(List D→(ag→Prop)→ag→Prop)→Prop:=x9
noncomputable def yL(t:DA):DI:=fun σ st K=>t σ st fun ds st1=>oj ds st1 K
theorem AL:bootBuiltins "enumerate"=some (.type "enumerate"):=by decide+kernel
theorem En{X:Cx}{a:Expr}{elts:List Expr}{kx:Nat}{tpos p pos:Pos}{t:DA}(hg:Gl X "enumerate")(hm:X.mg "enumerate"=none)(ha:PA X [a] (LA t))(hs:starEach [a] X.env=[(false,eval a X.env)]):
 PI X (.Tuple elts kx tpos) (.Call (.Name "enumerate" p) [a] [] pos) (LI (yL t)):=by
 intro pins s σ H R I h
 obtain⟨α,σd,st,K,G,F,P,RS,S,t,k⟩:=h
 refine Call_ (kg I hg hm AL (PyProof.Rows.callWith_type1 (bR (ha pos pins s σ H (fun vs H1=>∃ds α1 G1 st1,Step α G α1 G1∧bT G1 F H1∧aT α1 st1 G1∧aN α1 G1 ds vs∧oj ds st1 K) I ⟨α,σd,st,_,G,F,P,RS,S,t,fun ds st1 q α1 G1 H1 vs s1 P1 S1 r1=>⟨ds,α1,G1,st1,s1,P1,S1,r1,q⟩⟩) fun us s1 ⟨vs,H1,I1,rv,ds,α1,G1,st1,w1,P1,S1,r1,q⟩=>?_) (by rw[hs];rfl) (by rfl)))
 unfold oj x9 at q
 split at q
 · rename_i x
   split at q
   · rename_i xs ex
     obtain⟨v1,rfl,q1⟩:=ie r1 rfl
     obtain⟨p1,vs1,rfl,g1,c1⟩:=kZ S1 q1 ex
     obtain⟨u1,rfl,ru1⟩:=vals1 rv
     cases ru1
     obtain⟨its1,_,l1⟩:=jH I1 (iW P1 c1)
     refine zt l1 fun g he i1 kp=>?_
     obtain⟨o1,eo1⟩:=l1.some
     have hp1:p1<s1.heap.objs.size:=Heap.lt_size eo1
     refine wpAny_pyIter_enum (s:={s1 with heap:=g}) he ?_
     refine⟨s1.heap.objs.size+1,[s1.heap.objs.size+1,s1.heap.objs.size],_,_,H1,rfl,I1.kept (t':=s1.toks) kp,AN (Ck x) (Nat.ne_of_gt (Nat.lt_succ_self _)) (Nat.ne_of_lt (Nat.lt_succ_of_lt hp1)) (Nat.ne_of_lt hp1),⟨⟨_,he⟩,i1⟩,fun b hb=>?_,?_⟩
     · have hb':s1.heap.objs.size≤b:=by
        simp only[List.mem_cons,List.not_mem_nil,or_false]at hb
        rcases hb with rfl|rfl
        · exact Nat.le_succ _
        · exact Nat.le_refl _
       exact I1.sJ hb' (I1.aI.fresh hb')
     · refine k _ _ st1 q _ α1 G1 H1 w1 P1 S1 (Du fun α' G' st' s' S' o=>?_)
       obtain⟨p1',ws1,e1,f1,d1⟩:=kZ S' (q1.step s') o
       cases e1
       exact⟨ws1,d1,f1⟩
   · exact q.elim
 · exact q.elim
theorem DC{st:ag}{x:D}{xs:List D}{K:List D→(ag→Prop)→ag→Prop}(ex:items? st x=some xs)(k:∀ok:ag→Prop,(∀st',items? st' x=some xs→ok st')→K (iY 0 xs) ok st):oj [x] st K:=by
 unfold oj x9
 simp only[ex]
 exact k _ fun st' h1=>h1
theorem Gn{X:Cx}{a:Expr}{elts:List Expr}{kx:Nat}{tpos p pos:Pos}{ar:DA}(hg:Gl X "enumerate")(hm:X.mg "enumerate"=none)(ha:JA X [a] ar)(hs:notStar a=true:=by rfl):JI X (.Tuple elts kx tpos) (.Call (.Name "enumerate" p) [a] [] pos) (yL ar):=by
 unfold JI;unfold JA at ha;exact En hg hm ha (cu hs)
end L3
namespace L3
open PySem L2
open PySem.Spec hiding items?
open PyProof.Rows hiding St
section
variable {prog:Program}{w:World}{A:Around}{E:Value→Shared→Prop}{s:Shared}
end
section
variable {X:Cx}{tg:Expr}
end
end L3
namespace L3
open PySem L2
open PySem.Spec hiding items?
open PyProof.Rows hiding St
section
variable {X:Cx}
end
end L3
namespace L3
open PySem L2
open PySem.Spec hiding items?
open PyProof.Rows hiding St
section
variable {X:Cx}
noncomputable def CQ:dh:=fun x y st K=>match x,y with
 | .lst xs,.lst ys=>xs.length+ys.length≤sizeLine∧K (.ref st.length) (st++[.lst (xs++ys)])
 |_,_=>False
theorem E5:bW X (binaryOp .Add) (LR CQ):=fun pins s σ H x y v u Q I rx ry ⟨α,d,e,st,K,G,F',P,r1,r2,S,q,k⟩=>by
 cases d<;>cases e<;>try exact q.elim
 unfold Rep at r1 r2
 obtain⟨a,vs,rfl,na,ha,ra⟩:=r1
 obtain⟨b,ws,rfl,nb,hb,rb⟩:=r2
 refine xj pins s σ H _ _ v u Q I rx ry ⟨a,b,vs,ws,rfl,rfl,gq P ha,gq P hb,by rw[←ra.length,←rb.length];exact q.1,fun p hp=>?_⟩
 exact k.new P q.2 S (aU.mpr (e_ (aU.mp ra) (aU.mp rb))) hp
@[irreducible] noncomputable def rm:dh:=CQ
theorem E6:bW X (binaryOp .Add) (LR rm):=by unfold rm;exact E5
end
theorem EH{st:ag}{K:DK}{xs ys:List D}(h:xs.length+ys.length≤sizeLine)(k:K (.ref st.length) (st++[.lst (xs++ys)])):rm (.lst xs) (.lst ys) st K:=by unfold rm;exact⟨h,k⟩
end L3
namespace L3
open PySem L2
open PySem.Spec hiding items?
open PyProof.Rows hiding St
open PySem PySem.Spec L2 PySem.SeqAt
section
variable {X:Cx}
end
end L3
namespace L3
open PySem L2
open PySem.Spec hiding items?
open PyProof.Rows hiding St
section
variable {X:Cx}
theorem Eu{k:Nat}{x:Str}{e:Expr}{te:DE}{pos pos':Pos}(hN:X.N.Nodup)(hx:Loc X.env.scope x)(he:JE X e te)(hsw:swapsWith e (some (.Name x pos')) pos.line X.env=pure false:=by rfl)(hf:X.fn x=true∨X.env.scope.names.lookup x=some .local:=by first|exact .inl rfl|exact .inr rfl)(hi:X.N[k]?=some x:=by rfl):JS X (.Assign [.Name x pos'] e pos) (bf k te):=by
 unfold JS;unfold JE at he;exact zR (zI hN hi hx he hsw hf)
end
end L3
namespace L3
open PySem L2
open PySem.Spec hiding items?
open PyProof.Rows hiding St
section
variable {X:Cx}
end
section
variable {X:Cx}
end
end L3
namespace L3
open PySem L2
open PySem.Spec hiding items?
open PyProof.Rows hiding St
section
variable {X:Cx}
end
end L3
namespace L3
open PySem L2
open PySem.Spec hiding items?
open PyProof.Rows hiding St
section
variable {X:Cx}
end
end L3
namespace L3
open PySem L2
open PySem.Spec hiding items?
open PyProof.Rows hiding St
section
variable {P:Program}{w:World}
section
variable {z ti to t1 t2 t3 a1 a2 a3:Addr}
end
end
end L3
namespace L3
open PySem L2
open PySem.Spec hiding items?
open PyProof.Rows hiding St
end L3
namespace L3
open PySem L2
open PySem.Spec hiding items?
open PyProof.Rows hiding St
section
variable {X:Cx}
end
end L3
namespace L3
open PySem L2
open PySem.Spec hiding items?
open PyProof.Rows hiding St
open Sem (wp)
section
variable {prog:Program}{w:World}{A:Around}{s:Shared}{E:Value→Shared→Prop}
end
section
variable {prog:Program}{w:World}{A:Around}{R:Result→Shared→Prop}{I:Addr}{fp wr:List Addr}{G:Array GenState→Array GenState→Prop}{n:Nat}{P:Nat→Value→Prop}{Sx:Nat→Shared→Prop}
end
section
variable {prog:Program}{w:World}{A:Around}{E:Value→Shared→Prop}{s:Shared}
end
section
variable {X:Cx}{pins:List (Addr×Obj)}{σ:L2.St}{H:Hp}{s:Shared}{α:List (Option Addr)}
end
end L3
namespace L3
open PySem L2
open PySem.Spec hiding items?
open PyProof.Rows hiding St
section
variable {X:Cx}
theorem range_any{α:Type}(l:List α)(f:α→Bool)(tr:Nat→Bool)(h:∀i x,l[i]?=some x→tr i=f x):(List.range l.length).any tr=l.any f:=by
 induction l generalizing tr with
 |nil=>rfl
 |cons a l ih=>
  rw[List.length_cons,List.range_succ_eq_map,List.any_cons,List.any_cons,List.any_map,h 0 a rfl]
  congr 1
  exact ih (tr∘Nat.succ) fun i x e=>h (i+1) x (by simpa using e)
end
end L3
namespace L3
open PySem L2
open PySem.Spec hiding items?
open PyProof.Rows hiding St
noncomputable def putD(f:Str)(v:D):List (Str×D)→List (Str×D)
 | []=>[(f,v)]
 |(g,x)::r=>if g=f then(g,v)::r else(g,x)::putD f v r
theorem i0.look{α:List (Option Addr)}{H:Hp}{f:Str}{v:D}:∀ {fs:List (Str×D)} {vs:List (Str×V)},i0 α H fs vs→fs.lookup f=some v→∃u,vs.lookup f=some u∧Rep α H v u
 | [],_,_,e=>by cases e
 |(g,x)::fs,_,.cons (b:=q) h t,e=>by
  obtain⟨g',y⟩:=q
  obtain⟨h1,h2⟩:=h
  simp only at h1 h2
  subst h1
  rw[List.lookup_cons]at e⊢
  cases hb:f==g with
  |true=>rw[hb]at e;cases e;exact⟨y,rfl,h2⟩
  |false=>rw[hb]at e;exact i0.look t e
theorem i0.none{α:List (Option Addr)}{H:Hp}{f:Str}:∀ {fs:List (Str×D)} {vs:List (Str×V)},i0 α H fs vs→fs.lookup f=Option.none→vs.lookup f=Option.none
 | [],_,.nil,_=>rfl
 |(g,x)::fs,_,.cons (b:=q) h t,e=>by
  obtain⟨g',y⟩:=q
  obtain⟨h1,h2⟩:=h
  simp only at h1 h2
  subst h1
  rw[List.lookup_cons]at e⊢
  cases hb:f==g with
  |true=>rw[hb]at e;cases e
  |false=>rw[hb]at e;exact i0.none t e
theorem i0.put{α:List (Option Addr)}{H:Hp}{f:Str}{d:D}{v:V}(r:Rep α H d v):∀ {fs:List (Str×D)} {vs:List (Str×V)},i0 α H fs vs→i0 α H (putD f d fs) (gH f v vs)
 | [],_,.nil=> .cons ⟨rfl,r⟩ .nil
 |(g,x)::fs,_,.cons (b:=q) h t=>by
  obtain⟨g',y⟩:=q
  obtain⟨h1,h2⟩:=h
  simp only at h1 h2
  subst h1
  unfold putD gH
  by_cases hb:g=f
  · rw[if_pos hb,if_pos hb];exact .cons ⟨rfl,r⟩ t
  · rw[if_neg hb,if_neg hb];exact .cons ⟨rfl,h2⟩ (i0.put r t)
noncomputable def AX(C:Addr)(f:Str)(d:D)(st:ag)(K:DK):Prop:=match d with
 | .ref n=>(match st[n]? with|some (.ins C' fs)=>C'=C∧∃v,fs.lookup f=some v∧K v st|_=>False)
 |_=>False
@[irreducible] noncomputable def yY(C:Addr)(f:Str):D→ag→DK→Prop:=AX C f
noncomputable def dO(C:Addr)(f:Str)(te:DE):DE:=fun σ st K=>te σ st fun d st1=>yY C f d st1 K
theorem cB{C:Addr}{f:Str}{n:Nat}{st:ag}{K:DK}{fs:List (Str×D)}{v:D}(e:st[n]?=some (.ins C fs))(h:fs.lookup f=some v)(k:K v st):yY C f (.ref n) st K:=by
 unfold yY AX;simp only[e];exact⟨trivial,v,h,k⟩
noncomputable def yg(C:Addr)(f:Str)(x d:D)(st:ag)(K:ag→Prop):Prop:=match x with
 | .ref n=>(match st[n]? with|some (.ins C' fs)=>C'=C∧fs.length<1000∧K (st.set n (.ins C (putD f d fs)))|_=>False)
 |_=>False
@[irreducible] noncomputable def uv(C:Addr)(f:Str):D→D→ag→(ag→Prop)→Prop:=yg C f
noncomputable def lW(C:Addr)(f:Str)(to te:DE):DS:=fun D σ st=>te σ st fun d st1=>to σ st1 fun x st2=>uv C f x d st2 fun st3=>D.nx σ st3
theorem lb{C:Addr}{f:Str}{n:Nat}{d:D}{st:ag}{K:ag→Prop}{fs:List (Str×D)}(e:st[n]?=some (.ins C fs))(h:fs.length<1000)(k:K (st.set n (.ins C (putD f d fs)))):uv C f (.ref n) d st K:=by
 unfold uv yg;simp only[e];exact⟨trivial,h,k⟩
noncomputable def x6(C:Addr)(m:Str)(x:D)(st:ag)(k:Prop):Prop:=match x with
 | .ref n=>(match st[n]? with|some (.ins C' fs)=>C'=C∧fs.lookup m=none∧k|_=>False)
 |_=>False
@[irreducible] noncomputable def ui(C:Addr)(m:Str):D→ag→Prop→Prop:=x6 C m
theorem jb{C:Addr}{m:Str}{n:Nat}{st:ag}{k:Prop}{fs:List (Str×D)}(e:st[n]?=some (.ins C fs))(h:fs.lookup m=none)(q:k):ui C m (.ref n) st k:=by
 unfold ui x6;simp only[e];exact⟨trivial,h,q⟩
noncomputable def iQ(C:Addr)(m:Str)(S:cO)(to:DE)(t:DA):DE:=fun σ st K=>to σ st fun x st1=>ui C m x st1 (t σ st1 fun ds st2=>S (x::ds) st2 K)
noncomputable def yT(C:Addr)(S:cO)(t:DA):DE:=fun σ st K=>t σ st fun ds st1=>S (.ref st1.length::ds) (st1++[.ins C []]) fun r st2=>r= .aC∧K (.ref st1.length) st2
section
variable {X:Cx}{C f g:Addr}{fd:FuncData}{k:Nat}{x m fl:Str}{e o value:Expr}{es:List Expr}{p pos pos' apos:Pos}{te to:DE}{t:DA}{S:cO}{ps:List Str}
theorem IW(c:lI X.K C)(na:gG X.K C fl)(he:PE X e (LE te))(hb:attributeBase e fl X.env (eval e X.env)=eval e X.env):PE X (.Attribute e fl pos) (LE (dO C fl te)):=PE.imp (Fh he hb) fun σ H Q ⟨α,σd,st,K,G,F,P,R,S,t,k⟩=>by
 refine⟨α,σd,st,_,G,F,P,R,S,t,fun d st1 q α1 G1 H1 v s1 P1 S1 r1=>?_⟩
 unfold yY AX at q
 cases d<;>try exact q.elim
 simp only at q
 split at q
 · rename_i C' fs e'
   obtain⟨rfl,w,hw,q⟩:=q
   obtain⟨a,ea,dx,vs,h1,h2⟩:=S1.um e'
   have r1':=dQ ea r1
   subst r1'
   obtain⟨u,hu,ru⟩:=h2.look hw
   exact⟨a,_,dx,vs,u,rfl,P1.get h1,c,na,hu,(k.at s1).here P1 q S1 ru⟩
 · exact q.elim
theorem Gu(c:lI X.K C)(na:gG X.K C fl)(ho:PE X o (LE to))(hv:PE X value (LE te))(hs:swapsWith value (some (.Attribute o fl pos')) pos.line X.env=pure false):PS X (.Assign [.Attribute o fl pos'] value pos) (LS (lW C fl to te)):=PS.imp (Fp ho hv hs) fun D σ H ⟨α,σd,st,DD,G,F,P,R,S,t,k⟩=>by
 refine⟨α,σd,st,_,G,F,P,R,S,t,fun d st1 q α1 G1 H1 v s1 P1 S1 r1=>?_⟩
 refine⟨α1,σd,st1,_,G1,F,P1,R.step s1,S1,q,fun x st2 q2 α2 G2 H2 v2 s2 P2 S2 r2=>?_⟩
 unfold uv yg at q2
 cases x<;>try exact q2.elim
 simp only at q2
 split at q2
 · rename_i C' fs e'
   obtain⟨rfl,hl,q2⟩:=q2
   obtain⟨a,ea,dx,vs,h1,h2⟩:=S2.um e'
   have r2':=dQ ea r2
   subst r2'
   have hm:some a∈α2:=List.mem_of_getElem? ea
   have lv:vs.length<1000:=by rw[←h2.length];exact hl
   refine⟨a,_,dx,vs,rfl,P2.get h1,c,na,lv,?_⟩
   refine((k.nx.at s1).at s2) σd _ q2 α2 (upd G2 a (.ins _ dx (gH fl v vs))) _ σ (Step.write hm) (P2.write h1) (((R.step s1).step s2).step (Step.write hm)) ?_
   exact S2.write ea ⟨dx,gH fl v vs,aV,(h2.put (r1.step s2)).step (Step.write hm)⟩
 · exact q2.elim
theorem LE.Iw{σ:L2.St}{H:Hp}{Q:VK}(h:LE (iQ C m S to t) σ H Q):CP C m (aO S) [] E0 (LE to) (LA t) σ H Q:=by
 obtain⟨α,σd,st,K,G,F,P,R,Sr,tt,k⟩:=h
 refine⟨α,σd,st,_,G,F,P,R,Sr,tt,fun d st1 q α1 G1 H1 v s1 P1 S1 r1=>?_⟩
 unfold ui x6 at q
 cases d<;>try exact q.elim
 simp only at q
 split at q
 · rename_i n C' fs e'
   obtain⟨rfl,hl,q⟩:=q
   obtain⟨a,ea,dx,vs,h1,h2⟩:=S1.um e'
   have r1':=dQ ea r1
   subst r1'
   refine⟨a,dx,vs,rfl,P1.get h1,h2.none hl,?_⟩
   refine⟨α1,σd,st1,_,G1,F,P1,R.step s1,S1,q,fun ds st2 q2 α2 G2 H2 us s2 P2 S2 r2=>?_⟩
   try dsimp only
   rw[List.append_nil]
   exact⟨α2,_,st2,K,G2,F,P2,by unfold aN;exact⟨_,_,rfl,r1.step s2,r2⟩,S2,q2,(k.at s1).at s2⟩
 · exact q.elim
theorem LE.make{σ:L2.St}{H:Hp}{Q:VK}(h:LE (yT C S t) σ H Q):Cr C (aO S) [] E0 (LA t) σ H Q:=by
 obtain⟨α,σd,st,K,G,F,P,R,Sr,tt,k⟩:=h
 refine⟨α,σd,st,_,G,F,P,R,Sr,tt,fun ds st1 q α1 G1 H1 us s1 P1 S1 r1=>?_⟩
 intro x dx hx hdx hne
 have hgd:=(P1.none hdx).1
 have P2:=P1.laid (o:= .own x) hdx
 have S2:=S1.laid (o:= .own x) hgd
 have hx2:upd H1 dx (.own x) x=none:=by rw[aL (Ne.symm hne)];exact hx
 have hg2:=(P2.none hx2).1
 have P3:=P2.laid (o:= .ins C dx []) hx2
 have S3:=S2.cell (o:= .ins C dx []) (c:= .ins C []) hg2 ⟨dx,[],aV,.nil⟩
 have s2:Step α1 G1 α1 (upd G1 dx (.own x)):=Step.laid hgd
 have s3:Step α1 (upd G1 dx (.own x)) (α1++[some x]) (upd (upd G1 dx (.own x)) x (.ins C dx [])):=Step.cell hg2
 have rx:Rep (α1++[some x]) (upd (upd G1 dx (.own x)) x (.ins C dx [])) (.ref st1.length) (.ref x):=by
  unfold Rep
  refine .inr ⟨x,?_,rfl⟩
  rw[List.getElem?_append_right (by rw[S1.len];exact Nat.le_refl _),S1.len,Nat.sub_self]
  rfl
 rw[List.append_nil]
 refine⟨α1++[some x],.ref st1.length::ds,st1++[.ins C []],_,_,F,P3,by unfold aN;exact⟨_,_,rfl,rx,(r1.step s2).step s3⟩,S3,q,fun d st2 q2 α' G' H' v s' P' S' r'=>?_⟩
 obtain⟨rfl,q2⟩:=q2
 unfold Rep at r'
 exact⟨r',(((k.at s1).at s2).at s3) _ st2 q2 α' G' H' _ s' P' S' (rx.step s')⟩
end
end L3
namespace L3
open PySem L2
open PySem.Spec hiding items?
open PyProof.Rows hiding St
section
variable {X:Cx}{tg:Expr}
end
section
variable {X:Cx}
end
end L3
namespace L3
open PySem L2
open PySem.Spec hiding items?
open PyProof.Rows hiding St
section
variable {X:Cx}{e o i value:Expr}{es:List Expr}{te to ti:DE}{t:DA}{pos pos' tpos apos p:Pos}{C f:Addr}{fl m x:Str}{S:cO}{k:Nat}{fd:FuncData}{ps:List Str}
theorem Aj{value o:Expr}{fl:Str}{pos':Pos}{n:Nat}{env:Env}:swapsWith value (some (.Attribute o fl pos')) n env=pure false:=by cases value<;>rfl
theorem cW(c:lI X.K C)(na:gG X.K C fl)(he:JE X e te)(hb:attributeBase e fl X.env (eval e X.env)=eval e X.env:=by rfl):JE X (.Attribute e fl pos) (dO C fl te):=by unfold JE at*;exact IW c na he hb
theorem lg(c:lI X.K C)(na:gG X.K C fl)(ho:JE X o to)(hv:JE X value te):JS X (.Assign [.Attribute o fl pos'] value pos) (lW C fl to te):=by unfold JS;unfold JE at*;exact Gu c na ho hv Aj
theorem kj{pl:Sem Bool}(he:JE X o to)(c:lI X.K C)(hm:Meth X.K C m f)(F:aw X.prog X.w X.K X.mg X.base aJ k f fd ps (aO S))(hr:cK k X.A)(hb:Binds X.K fd ps [])(ha:JA X (e::es) t)
 (hs:notStar e=true:=by rfl) (hs2:gJ es=true:=by rfl)
 (ht:eval (.Call (.Attribute o m apos) (e::es) [] pos) X.env=(do
   let ov ←eval o X.env
   standAt apos.atName
   let(f,first) ←holding [ov] (getMethod ov m pl)
   callWith pos f first (backTo pos (starEach (e::es) X.env)) (backToKw pos (keywordEach [] X.env))):=by rfl):
 JE X (.Call (.Attribute o m apos) (e::es) [] pos) (iQ C m S to t):=by
 unfold JE at*
 unfold JA at ha
 exact PE.imp (EJ he c hm F hr hb .nil yt ha (cu hs) (jT hs2) ht) fun _ _ _ h=>LE.Iw h
theorem Hv(M:Mk X.K C f)(F:aw X.prog X.w X.K X.mg X.base aJ k f fd ps (aO S))(hr:cK (k+1) X.A)(hg:Gl X x)(hmg:X.mg x=some (.ref C))(hb:Binds X.K fd ps [])(ha:JA X (e::es) t)(hdb:(x==("__debug__":Str))=false)
 (hs:notStar e=true:=by rfl) (hs2:gJ es=true:=by rfl):JE X (.Call (.Name x p) (e::es) [] pos) (yT C S t):=by
 unfold JE
 unfold JA at ha
 exact PE.imp (Ex M F hr hg hmg hb .nil yt ha hdb (cu hs) (jT hs2)) fun _ _ _ h=>LE.make h
end
end L3
namespace L2
open PySem PySem.Spec PyProof.Rows
structure Entry(K:PySem.W.Frag)(ts:List (Addr×Addr))(a:Addr)(ns:List Int)(H:Hp):Prop where
 lst:kb K H a (ns.map V.int)
 tab:∀q∈ts,H q.2=some (.jd #[])∧q.2≠a
theorem tL:∀ {vs:List Value} {ns:List Int},IntsAre vs ns→Vals (ns.map V.int) vs
 |_,_,.nil=> .nil
 |_,_,.cons n t h=> .cons ⟨t,rfl⟩ (tL h)
structure Cb(K:PySem.W.Frag)(ts:List (Addr×Addr))(h:Heap):Prop where
 hd:∀q∈ts,PySem.W.codeHdIn K q.1 q.2=true
 no:∀q∈ts,K.lookup q.2=none
 at':∀q∈ts,h.get? q.2=some (PySem.W.tabObj #[])
theorem zQ{P:Program}{w:World}{K:PySem.W.Frag}{mg mb:Str→Option Value}{k:Nat}{fa a:Addr}{fd:FuncData}{x:Str}{sp:Sp}{s₁:Shared}{vs:List Value}{ns:List Int}{ts:List (Addr×Addr)}
 (KX:K.In s₁.heap) (hns:s₁.heap.Ns mainGlobals mg) (hb:s₁.heap.Ns builtinsNs mb) (hbb:∀x:Str,x≠"__name__"→mb x=bootBuiltins x) (hlim:s₁.heap.NoLimit) (hse:s₁.heap.NoSeer) (hgt:P.given.tree=none)
 (hbm:∃bm ob,mg "__builtins__"=some (.ref bm)∧bm≠builtinsNs∧s₁.heap.get? bm=some ob∧ob.cls= .type "module"∧ob.dict=some builtinsNs∧ob.data= .plain) (hT:Cb K ts s₁.heap) (hg:s₁.gens= #[])
 (ha:s₁.heap.get? a=some {cls:= .type "list",data:= .seq vs.toArray}) (hi:IntsAre vs ns) (hl:ns.length≤sizeLine) (hr:cK k callerA)
 (F:∀base:Heap,K.In base→base.Ns mainGlobals mg→aw P w K mg base (fun _ _ _ _ _ _=>False) k fa fd [x] sp) (hbind:∀(s:Shared) (u:Value),BindsTo s fd ⟨[u],[]⟩ [(x,u)])
 (hsp:∀H:Hp,Entry K ts a ns H→sp [.ref a] H (fun v _=>v= .bl true) fun _ _ _=>False):
 codeAny (model P w) callerA (.call (.ref fa) ⟨[.ref a],[]⟩) (fun r s'=>r= .ok (.ret (.bool true))∧OldK s₁.heap s'.heap∧s'.os=s₁.os∧AllBare s'.gens) s₁:=by
 have rv:=tL hi
 have lenV:=hi.length
 have nta:∀q∈ts,q.2≠a:=fun q hq z=>by
  have:=hT.at' q hq
  rw[z,ha]at this
  cases this
 let sc:Option HO:=match K.lookup a with
  |some _=>none
  |none=>some (.gj {cls:= .type "list",data:= .seq vs.toArray} (.lst (ns.map V.int)))
 let H:Hp:=fun b=>if b=a then sc else if b∈ts.map (·.2)then some (.jd #[])else none
 have Ha:H a=sc:=if_pos rfl
 have Ht:∀q∈ts,H q.2=some (.jd #[]):=fun q hq=>by
  show(if q.2=a then sc else if q.2∈ts.map (·.2)then some (HO.jd #[])else none)=_
  rw[if_neg (nta q hq),if_pos (List.mem_map_of_mem hq)]
 have Hs:∀b u,H b=some u→(b=a∧K.lookup a=none∧u= .gj {cls:= .type "list",data:= .seq vs.toArray} (.lst (ns.map V.int)))∨(∃q∈ts,q.2=b∧u= .jd #[]):=fun b u e=>by
  have e':(if b=a then sc else if b∈ts.map (·.2)then some (HO.jd #[])else none)=some u:=e
  by_cases hba:b=a
  · rw[if_pos hba]at e'
    have e2:(match K.lookup a with
     |some _=>none
     |none=>some (HO.gj {cls:= .type "list",data:= .seq vs.toArray} (.lst (ns.map V.int))))=some u:=e'
    cases q:K.lookup a with
    |some o=>rw[q]at e2;cases e2
    |none=>rw[q]at e2;cases e2;exact .inl ⟨hba,rfl,rfl⟩
  · rw[if_neg hba]at e'
    by_cases hbt:b∈ts.map (·.2)
    · rw[if_pos hbt]at e';cases e'
      obtain⟨q,hq,e⟩:=List.mem_map.mp hbt
      exact .inr ⟨q,hq,e,rfl⟩
    · rw[if_neg hbt]at e';cases e'
 have aI:g5 P w H s₁.heap:=fun b u e=>by
  rcases Hs b u e with⟨rfl,_,rfl⟩|⟨q,hq,rfl,rfl⟩
  · exact⟨ha,by rw[List.length_map];exact hl,vs,_,rv,ha⟩
  · exact hT.at' q hq
 have hE:Entry K ts a ns H:=by
  refine⟨?_,fun q hq=>⟨Ht q hq,nta q hq⟩⟩
  cases q:K.lookup a with
  |some o=>
   have e:=KX a o q
   rw[ha]at e;cases e
   exact .inr ⟨_,vs.toArray,_,q,rfl,rfl,rfl,by rw[List.size_toArray,lenV];exact hl,by simpa using rv⟩
  |none=>
   refine .inl (.inr ⟨{cls:= .type "list",data:= .seq vs.toArray},?_⟩)
   rw[Ha]
   show(match K.lookup a with
    |some _=>none
    |none=>some (HO.gj {cls:= .type "list",data:= .seq vs.toArray} (.lst (ns.map V.int))))=_
   rw[q]
 have dictNo:∀ {b:Addr} {o:Obj},s₁.heap.get? b=some o→(∀es ep,o.data≠ .seq es ep)→o.cls≠ .none→H b=none:=fun{b o} e d1 d2=>by
  cases q:H b with
  |none=>rfl
  |some u=>
   rcases Hs b u q with⟨rfl,_,_⟩|⟨t,ht,rfl,_⟩
   · rw[ha]at e;cases e;exact absurd rfl (d1 _ _)
   · rw[hT.at' t ht]at e;cases e;exact absurd rfl d2
 have nsK:∀ {b:Addr} {m:Str→Option Value},s₁.heap.Ns b m→(mz s₁.heap H).Ns b m:=fun{b m} ⟨o,es,ep,e,d,r⟩=>by
  refine⟨o,es,ep,nI e ?_,d,r⟩
  cases q:H b with
  |none=>rfl
  |some u=>
   rcases Hs b u q with⟨rfl,_,_⟩|⟨t,ht,rfl,_⟩
   · rw[ha]at e;cases e;cases d
   · rw[hT.at' t ht]at e;cases e;cases d
 have hKb:K.In (mz s₁.heap H):=fun b o e=>nI (KX b o e) (by
  cases q:H b with
  |none=>rfl
  |some u=>
   rcases Hs b u q with⟨rfl,z,_⟩|⟨t,ht,rfl,_⟩
   · rw[z]at e;cases e
   · rw[hT.no t ht]at e;cases e)
 obtain⟨bm,ob,b1,b2,b3,b4,b5,b6⟩:=hbm
 have hbmK:(mz s₁.heap H).get? bm=some ob:=nI b3 (dictNo b3 (fun es ep z=>by rw[b6]at z;cases z) (fun z=>by rw[b4]at z;cases z))
 have seK:(mz s₁.heap H).NoSeer:=by
  obtain⟨⟨m1,a1,a2⟩,⟨m2,c1,c2⟩,⟨m3,d1,d2⟩,⟨mg',bm',ob',e1,e2,e3,e4,e5⟩⟩:=hse
  refine⟨⟨m1,nsK a1,a2⟩,⟨m2,nsK c1,c2⟩,⟨m3,nsK d1,d2⟩,⟨mg',bm',ob',nsK e1,e2,nI e3 ?_,e4,e5⟩⟩
  cases q:H bm' with
  |none=>rfl
  |some u=>
   rcases Hs bm' u q with⟨rfl,_,_⟩|⟨t,ht,rfl,_⟩
   · rw[ha]at e3;cases e3;exact absurd (show Value.type "list"=Value.type "module" from e4) (by intro z;injection z with z;exact absurd z (by decide))
   · rw[hT.at' t ht]at e3;cases e3;cases e4
 have hM:Mod K mg (mz s₁.heap H):=⟨hKb,nsK hns,⟨mb,nsK hb,hbb⟩,let⟨mc,h1,h2⟩:=hlim;⟨mc,nsK h1,h2⟩,seK,⟨bm,ob,b1,b2,hbmK,b4,b5,b6⟩⟩
 have e0:qi P w K mg (mz s₁.heap H) callerA [] s₁ H:=⟨rfl,hM,fun b o e=>Dv e,Nat.le_of_eq (Am _ _),trivial,fun b hb=>absurd (show b∈([]:List Addr)from hb) (by simp),aI,.of_eq hg,hgt⟩
 refine codeAny_mono ((F _ hKb (nsK hns)).run callerA [] s₁ H ⟨[.ref a],[]⟩ [.ref a] [.ref a] _ _ hr e0 (hbind s₁ (.ref a)) (.cons rfl .nil) (hsp H hE)) fun r s' h=>?_
 cases r with
 |error e=>exact False.elim h
 |ok fl=>
  cases fl with
  |next=>exact False.elim h
  |brk=>exact False.elim h
  |cont=>exact False.elim h
  |ret u=>
   obtain⟨v,H',os,bare,un,hok',r',q⟩:=h
   have q':v= .bl true:=q
   subst q'
   obtain rfl:u=Value.bool true:=r'
   have noF:∀b:Addr,b∉mY ([]:List Env):=fun b z=>absurd (show b∈([]:List Addr)from z) (by simp)
   refine⟨rfl,⟨fun b o e=>?_,fun b o e=>un.there b o e (by simp)⟩,os,bare⟩
   cases q:H b with
   |none=>exact .inl (un.keep b o e q (noF b) (by simp))
   |some u=>
    rcases Hs b u q with⟨rfl,_,rfl⟩|⟨t,ht,rfl,rfl⟩
    · obtain⟨e2,_⟩:=hok' b _ (un.lx b _ _ q)
      rw[ha]at e;cases e
      exact .inl e2
    · obtain⟨more,e1⟩:=un.lJ _ _ q
      have e2:s'.heap.get? t.2=some {cls:= .none,data:= .fields (#[]++more)}:=hok' _ _ e1
      have e3:=hT.at' t ht
      rw[e3]at e;cases e
      have C:PySem.W.CodeHd s₁.heap t.1 t.2:=PySem.W.codeHd_of_K KX (hT.hd t ht)
      exact .inr (.inl ⟨(C.tab e3).isCodeTable,rfl,#[],more,rfl,e2⟩)
theorem Ij{l:PySem.W.OpenLaw}{n k:Nat}{q:Program}{loose:List Str}{XP:(Str→Option Value)→Heap→Prop}{YP:World→Heap→Prop}{d:DefRec}{K:Params→PySem.W.Frag}{sp:World→Sp}{x:Str}{ts:List (Addr×Addr)}
 (hn:l.most=some n) (hn2:n≤sizeLine) (hdf:d.params.defaults=[]) (hr:cK k callerA) (hq:importsNone q=true) (hgt:l.prog.given.tree=none)
 (hY:∀(w:World) (h:Heap),YP w h→(K w.params).In h∧Cb (K w.params) ts h)
 (F:∀(w:World) (mg:Str→Option Value) (fa:Addr) (h:Heap),(K w.params).In h→h.Ns mainGlobals mg→mg d.name=some (.ref fa)→
   ∃fd:FuncData,(∀(s:Shared) (u:Value),BindsTo s fd ⟨[u],[]⟩ [(x,u)])∧
    ∀base:Heap,(K w.params).In base→base.Ns mainGlobals mg→aw l.prog w (K w.params) mg base (fun _ _ _ _ _ _=>False) k fa fd [x] (sp w))
 (hsp:∀(w:World) (H:Hp) (a:Addr) (ns:List Int),ns.length≤n→Entry (K w.params) ts a ns H→sp w [.ref a] H (fun v _=>v= .bl true) fun _ _ _=>False):
 PySem.W.WalkO q loose XP YP l.row.toRowW d [] (fun f vs=>PySem.call f vs):=by
 refine Att.wD hn hdf fun w s₀ s₁ mg mb fa o pm cd doc a vs ns G Y ho hd hcd hmg hobj hints hlen hg=>?_
 obtain⟨KX,hT⟩:=hY w _ Y
 obtain⟨fd,hb,hF⟩:=F w mg fa _ KX G.T.g hmg
 exact zQ KX G.T.g G.T.b G.T.builtins G.T.nolimit (G.T.seer hq) hgt G.T.bmain hT hg hobj hints (Nat.le_trans hlen hn2) hr hF hb fun H hE=>hsp w H a ns hlen hE
end L2
namespace L3
open PySem PySem.Spec L2
open PyProof.Rows hiding St
section
variable {X:Cx}{pins:List (Addr×Obj)}{σ:L2.St}{H:Hp}{s:Shared}{p:Addr}{o o':Obj}{h':Heap}
theorem jY{t':Nat}(I:Inv X pins σ H s)(hd:∀v,o.data≠ .cell v)(hfr:o.isFreed=false:=by rfl):Inv X (pins++[(s.heap.objs.size,o)]) σ H {s with heap:=s.heap.push o,toks:=t'}:=by
 have I':=I.kept (h':=s.heap.push o) (t':=t') (fun b u e=>Heap.get?_push_of_some _ e)
 refine I'.o9 fun q hq=>?_
 rcases List.mem_append.mp hq with hq|hq
 · exact I'.pin q (List.mem_append_right _ hq)
 · have e:q=(s.heap.objs.size,o):=by simpa using hq
   subst e
   exact⟨Heap.get?_push_size _ hfr,I.aI.fresh (Nat.le_refl _),Nat.ne_of_gt I.lt,I.Gi (Nat.le_refl _),hd⟩
theorem fE(I:Inv X (pins++[(p,o)]) σ H s):s.heap.get? p=some o∧H p=none∧p≠X.env.locals∧p∉X.fs∧∀v,o.data≠ .cell v:=
 I.pin (p,o) (List.mem_append_right _ (List.mem_append_right _ (List.mem_singleton.mpr rfl)))
theorem vH(I:Inv X (pins++[(p,o)]) σ H s):∀x c,X.env.cells.lookup x=some c→c≠p:=fun x c e z=>by
 obtain⟨v,u,hu,hd⟩:=I.cell x c e
 obtain⟨h1,_,_,_,h5⟩:=fE I
 rw[z,h1]at hu;cases hu
 exact h5 v hd
theorem ly{t':Nat}(I:Inv X (pins++[(p,o)]) σ H s)(hs:Heap.SameBut p s.heap h')(hn:h'.get? p=some o')(hd:∀v,o'.data≠ .cell v)(h0:X.s₀.heap.objs.size≤p)(hp:∀q∈X.pn++pins,q.1≠p):
 Inv X (pins++[(p,o')]) σ H {s with heap:=h',toks:=t'}:=by
 obtain⟨_,n,neL,nfs,_⟩:=fE I
 have I0:Inv X pins σ H s:=I.gS
 have I1:=I0.turned (t':=t') (h':=h') (it:=p) (fun b u hb e=>(hs.2 b hb).trans e) n neL (.inr h0) (vH I) hp
 refine I1.o9 fun q hq=>?_
 rcases List.mem_append.mp hq with hq|hq
 · exact I1.pin q (List.mem_append_right _ hq)
 · have e:q=(p,o'):=by simpa using hq
   subst e
   exact⟨hn,n,neL,nfs,hd⟩
theorem zy{u:HO}(I:Inv X (pins++[(p,o)]) σ H s)(h0:X.s₀.heap.objs.size≤p)(hp:∀q∈X.pn++pins,q.1≠p)(new:dm X.prog X.w (upd H p u) s.heap p u):Inv X pins σ (upd H p u) s:=by
 obtain⟨e0,n,neL,nfs,_⟩:=fE I
 have ne:∀ {b:Addr} {w:HO},H b=some w→b≠p:=fun e=>dv e n
 have ne0:∀ {b:Addr} {w:Obj},X.s₀.heap.get? b=some w→b≠p:=fun e=>Nat.ne_of_lt (Nat.lt_of_lt_of_le (Heap.lt_size e) h0)
 refine⟨I.ok,I.os,I.bare,⟨I.base.keep,I.base.slot,fun b w e q hx=>?_,I.base.there,fun b xs e=>?_,fun b w y e=>?_,fun b ps e=>?_⟩,I.loc,I.cell,?_,fun x c e=>?_,fun q hq=>?_,fun b w e=>?_,I.len⟩
 · rw[aL (ne0 e)];exact I.base.free b w e q hx
 · have:=I.base.mr b xs e;rw[aL (ne this)];exact this
 · have:=I.base.lx b w y e;rw[aL (ne this)];exact this
 · obtain⟨m,q⟩:=I.base.lJ b ps e
   exact⟨m,by rw[aL (ne q)];exact q⟩
 · rw[aL (Ne.symm neL)];exact I.free
 · rw[aL (vH I x c e)];exact I.h9 x c e
 · have hq':q∈X.pn++(pins++[(p,o)]):=by
    rcases List.mem_append.mp hq with z|z
    · exact List.mem_append_left _ z
    · exact List.mem_append_right _ (List.mem_append_left _ z)
   obtain⟨a1,a2,a3⟩:=I.pin q hq'
   exact⟨a1,by rw[aL (hp q hq)];exact a2,a3⟩
 · by_cases hb:b=p
   · subst hb;rw[aV]at e;cases e;exact new
   · rw[aL hb]at e
     exact(I.aI b w e).mD (fun _ _ _ q=>q) (fun c q=>by rw[aL (ne q)];exact q) fun c xs q=>by rw[aL (ne q)];exact q
end
noncomputable def kB(X:Cx)(pins:List (Addr×Obj))(σ:L2.St)(R:Hp→Prop)(own:List (Addr×Obj))(s:Shared):Prop:=∃H,Inv X (pins++own) σ H s∧R H
section
variable {X:Cx}{pins:List (Addr×Obj)}{σ:L2.St}{R:Hp→Prop}{s:Shared}{A:Around}{E:Value→Shared→Prop}{a kS:Addr}{e1 e:Nat}{keys:Array Value}{P:PySem.Fin→Shared→Prop}
structure Own(X:Cx)(pins:List (Addr×Obj))(p:Addr):Prop where
 ge:X.s₀.heap.objs.size≤p
 ne:∀q∈X.pn++pins,q.1≠p
theorem pw{H:Hp}(I:Inv X pins σ H s):Own X pins s.heap.objs.size:=⟨I.sz,fun q hq=>Nat.ne_of_lt (Heap.lt_size (I.pin q hq).1)⟩
theorem wa{p:Addr}{q:Addr×Obj}(h:Own X pins p)(hq:q.1≠p):Own X (pins++[q]) p:=⟨h.ge,fun r hr=>by
 rcases List.mem_append.mp hr with z|z
 · exact h.ne r (List.mem_append_left _ z)
 · rcases List.mem_append.mp z with z|z
   · exact h.ne r (List.mem_append_right _ z)
   · have e:r=q:=by simpa using z
     rw[e];exact hq⟩
theorem vz{x y:Addr×Obj}(J:kB X pins σ R [x,y] s):∃H,Inv X ((pins++[x])++[y]) σ H s∧R H:=by
 obtain⟨H,I,r⟩:=J
 exact⟨H,by rw[List.append_assoc];exact I,r⟩
theorem zY{x y:Addr×Obj}{H:Hp}(I:Inv X ((pins++[x])++[y]) σ H s)(r:R H):kB X pins σ R [x,y] s:=⟨H,by rw[List.append_assoc]at I;exact I,r⟩
theorem vh{st:SortSt}(J:kB X pins σ R [(a,seqObj "list" #[] e1),(kS,seqObj "list" keys e)] s)(ha:Own X pins a)(hk:Own X pins kS)(hka:kS≠a)(hz1:keys.size≤sizeLine)(hz2:(arrOf st).size≤sizeLine)(hf:failedOf st=none)
 (h:∀s' c,kB X pins σ R [(a,seqObj "list" ((arrOf st).map (·.2)) c)] s'→P (.done (.ret .none)) s'):
 wpAny (model X.prog X.w) A (PyProof.Rows.ksk_tail a false e1 (.ref kS) st) P E s:=by
 obtain⟨H,I,r⟩:=vz J
 have k1:=(fE I).1
 have s1:=Heap.SameBut.update s.heap kS (Obj.mapSeq fun _=>(#[]:Array Value))
 have I1:=ly (t':=s.toks) I s1 (get?_update_seq k1 fun _=> #[]) (fun v z=>by cases z) hk.ge (wa hk hka.symm).ne
 have I2:Inv X (pins++[(a,seqObj "list" #[] e1)]) σ H {s with heap:=s.heap.update kS (Obj.mapSeq fun _=>(#[]:Array Value)),toks:=s.toks}:=I1.gS
 have a1:=(fE I2).1
 have s2:=Heap.SameBut.update (s.heap.update kS (Obj.mapSeq fun _=>(#[]:Array Value))) a (Obj.mapSeq fun _=>(arrOf st).map (·.2))
 have I3:=ly (t':=s.toks) I2 s2 (get?_update_seq a1 fun _=>(arrOf st).map (·.2)) (fun v z=>by cases z) ha.ge ha.ne
 unfold ksk_tail
 simp only[Bool.false_eq_true,if_false]
 refine wpAny_bind (listUpdate_at k1 rfl ?_ hz1 (Nat.zero_le _))
 refine wpAny_bind (wpAny_letGo ?_)
 refine wpAny_bind (seqEpoch_at a1 rfl ?_)
 refine wpAny_bind (listUpdate_at a1 rfl ?_ (Nat.zero_le _) (Nat.le_succ_of_le (by rw[Array.size_map];exact hz2)))
 rw[hf]
 simp only[bne_self_eq_false,Bool.false_eq_true,if_false]
 exact wpAny_pure (h _ _ ⟨H,I3,r⟩)
noncomputable def ye(kz:List Int)(vs out:List Value):Prop:=
 ∃ps:List (Int×Value),ps.Perm (kz.zip vs)∧out=ps.map Prod.snd∧ps.Pairwise fun p q=>p.1≤q.1
theorem xv{kz:List Int}{vs:List Value}(hk:IntsAre keys.toList kz){xs:Array Keyed}(hp:xs.Perm (keys.zip vs.toArray))(hs:SortedTo xs xs.size):ye kz vs (xs.map (·.2)).toList:=by
 obtain⟨ps,h1,h2,h3⟩:=ksk_out hk (b:=false) hp hs
 exact⟨ps,h1,h2,h3⟩
theorem Em{kz:List Int}{vs:List Value}(J:kB X pins σ R [(a,seqObj "list" #[] e1),(kS,seqObj "list" keys e)] s)(ha:Own X pins a)(hk:Own X pins kS)(hka:kS≠a)(hi:IntsAre keys.toList kz)(hl:kz.length=vs.length)(h64:vs.length<64)
 (h:∀s' out c,kB X pins σ R [(a,seqObj "list" out c)] s'→ye kz vs out.toList→P (.done (.ret .none)) s'):
 wpAny (model X.prog X.w) A (ksk_end a false vs.toArray e1 (.ref kS) keys) P E s:=by
 have hsz:keys.size=vs.length:=by have:=hi.length;rw[Array.length_toList]at this;(first|lia|omega)
 have hzs:(keys.zip vs.toArray).size=vs.length:=by rw[Array.size_zip,hsz,List.size_toArray,Nat.min_self]
 have hbig:vs.length≤sizeLine:=Nat.le_trans (Nat.le_of_lt h64) (by decide)
 unfold ksk_end
 simp only[Bool.false_eq_true,if_false]
 by_cases h2:vs.toArray.size<2
 · rw[if_pos h2,if_pos h2]
   refine wpAny_bind (wpAny_pure ?_)
   rw[StateT.run_pure]
   refine wpAny_bind (wpAny_pure ?_)
   refine vh (st:=SortSt.mk' general' (keys.zip vs.toArray) #[] 7 none) J ha hk hka (by(first|lia|omega)) (by show(keys.zip vs.toArray).size≤_;(first|lia|omega)) rfl fun s' c J'=>h s' _ c J' ?_
   refine xv hi (Array.Perm.refl _) fun i j hij hj=>?_
   have hj':j<(keys.zip vs.toArray).size:=hj
   rw[List.size_toArray]at h2
   have:i=j:=by(first|lia|omega)
   rw[this];exact Int.le_refl _
 · rw[if_neg h2,if_neg h2]
   rw[List.size_toArray]at h2
   rw[ksk_kind hi (by(first|lia|omega))]
   refine wpAny_bind (wpAny_pure ?_)
   refine wpAny_bind (wpAny_mono (wpS_sortRuns (a₀:=keys.zip vs.toArray) (st:=SortSt.mk' oneType' (keys.zip vs.toArray) #[] 7 none)
    (Q:=fun _ st'=>(arrOf st').Perm (keys.zip vs.toArray)∧failedOf st'=none∧SortedTo (arrOf st') (keys.zip vs.toArray).size)
    (ksk_intKeys hi) ⟨Array.Perm.refl _,rfl,rfl,rfl⟩ (by(first|lia|omega)) (by(first|lia|omega)) fun st' b1 b2 b3=>⟨b1,b2,b3⟩) ?_ fun _ _ z=>z)
   rintro⟨⟨⟩,st'⟩ s' ⟨rfl,hp,hf,hs⟩
   have hz2:=hp.size_eq
   refine vh (st:=st') J ha hk hka (by(first|lia|omega)) (by rw[hz2];(first|lia|omega)) hf fun s' c J'=>h s' _ c J' (xv hi hp (by rw[hz2];exact hs))
theorem BG{f:Value}{kz:List Int}{vs:List Value}(J:kB X pins σ R [(a,seqObj "list" #[] e1),(kS,seqObj "list" #[] 0)] s)(ha:Own X pins a)(hk:Own X pins kS)(hka:kS≠a)(hl:kz.length=vs.length)(h64:vs.length<64)
 (turn:∀(i:Nat) (v:Value) (k:Int),vs[i]?=some v→kz[i]?=some k→∀(own:List (Addr×Obj)) (s:Shared),kB X pins σ R own s→wpAny (model X.prog X.w) A (call f [v]) (fun u s'=>(∃t,u= .int k t)∧kB X pins σ R own s') (fun _ _=>False) s)
 (h:∀s' out c,kB X pins σ R [(a,seqObj "list" out c)] s'→ye kz vs out.toList→P (.done (.ret .none)) s'):
 wpAny (model X.prog X.w) A (ksk_rest a f false vs.toArray e1 (.ref kS)) P E s:=by
 have hbig:vs.length≤sizeLine:=Nat.le_trans (Nat.le_of_lt h64) (by decide)
 unfold ksk_rest
 refine wpAny_bind (wpAny_rule ?_)
 first
  |rw[List.forIn_toArray]
  |(rw[←Array.forIn_toList];simp only[List.toList_toArray])
  |rw[←Array.forIn_toList]
 refine wpAny_bind (ksk_fold (fun i s'=>∃kA e,kB X pins σ R [(a,seqObj "list" #[] e1),(kS,seqObj "list" kA e)] s'∧IntsAre kA.toList (kz.take i)) vs 0 s ⟨#[],0,J,by simpa using IntsAre.nil⟩ ?st ?en)
 case st=>
  rintro j x s' hx ⟨kA,e,J',hk'⟩
  simp only[Nat.zero_add]at hk'⊢
  have hj:j<vs.length:=(List.getElem?_eq_some_iff.mp hx).1
  have hkj:kz[j]?=some (kz[j]'(by omega)):=List.getElem?_eq_getElem _
  have hz:kA.size≤vs.length:=by
   have:=hk'.length
   rw[Array.length_toList,List.length_take]at this
   (first|lia|omega)
  refine wpAny_bind (wpAny_attempt (wpAny_mono (turn j x _ hx hkj _ s' J') (fun v s2 he=>?_) fun _ _ z=>z.elim))
  obtain⟨⟨t,rfl⟩,J2⟩:=he
  obtain⟨H,I,r⟩:=vz J2
  have k1:=(fE I).1
  have s1:=Heap.SameBut.update s2.heap kS (Obj.mapSeq (·.push (.int (kz[j]'(by omega)) t)))
  have I1:=ly (t':=s2.toks) I s1 (get?_update_seq k1 (·.push (.int (kz[j]'(by omega)) t))) (fun v z=>by cases z) hk.ge (wa hk hka.symm).ne
  refine wpAny_bind (listUpdate_at k1 rfl ?_ (by(first|lia|omega)) (Nat.le_trans (Nat.le_of_eq (Array.size_push ..)) (by(first|lia|omega))))
  refine wpAny_pure ⟨rfl,_,_,zY I1 r,?_⟩
  have ek:kz.take (j+1)=kz.take j++[kz[j]'(by omega)]:=by rw[List.take_add_one,hkj];simp
  rw[ek,Array.toList_push]
  exact ksk_snoc hk'
 case en=>
  rintro s' ⟨kA,e,J',hk'⟩
  rw[show kz.take (0+vs.length)=kz from List.take_of_length_le (by(first|lia|omega))]at hk'
  obtain⟨H,I,r⟩:=vz J'
  refine wpAny_bind (listItems_at (fE I).1 rfl ?_)
  exact Em J' ha hk hka hk' hl h64 h
theorem yz{f:Addr}{l:Addr}{kz:List Int}{vs:List Value}{H:Hp}{Q:Value→Shared→Prop}(I:Inv X pins σ H s)(r:R H)(hli:s.heap.IsList l vs.toArray)(hl:kz.length=vs.length)(h64:vs.length<64)
 (turn:∀(i:Nat) (v:Value) (k:Int),vs[i]?=some v→kz[i]?=some k→∀(own:List (Addr×Obj)) (s:Shared),kB X pins σ R own s→wpAny (model X.prog X.w) A.in1.in1 (call (.ref f) [v]) (fun u s'=>(∃t,u= .int k t)∧kB X pins σ R own s') (fun _ _=>False) s)
 (h:∀D s' out c,Own X pins D→kB X pins σ R [(D,seqObj "list" out c)] s'→ye kz vs out.toList→Q (.ref D) s'):
 wpAny (model X.prog X.w) A (call (.builtin "sorted") [.ref l] [(Str.ofString "key",.ref f)]) Q E s:=by
 have hbig:vs.length≤sizeLine:=Nat.le_trans (Nat.le_of_lt h64) (by decide)
 refine call_function_entry_kw kind_sorted plain_sorted entry_sorted (ksk_s1 _ _) ?_
 unfold Builtin.«sorted»
 refine wpAny_bind (m:=checkCount "sorted" 1 1 _) (wpAny_pure ?_)
 refine wpAny_bind (collect_list hli ?_ hbig)
 have I1:=jY (o:=seqObj "list" #[] 0) (t':=s.toks) I (fun v z=>by cases z)
 have s1:=Heap.SameBut.update (s.heap.push (seqObj "list" #[] 0)) s.heap.objs.size (Obj.mapSeq (· ++vs.toArray))
 have I2:=ly (t':=s.toks) I1 s1 (get?_update_seq (fE I1).1 (· ++vs.toArray)) (fun v z=>by cases z) (pw I).ge (pw I).ne
 have I3:Inv X pins σ H {s with heap:=(s.heap.push (seqObj "list" #[] 0)).update s.heap.objs.size (Obj.mapSeq (· ++vs.toArray)),toks:=s.toks}:=I2.gS
 refine wpAny_bind (wpAny_newList ?_ hbig)
 generalize hs3:({s with heap:=(s.heap.push (seqObj "list" #[] 0)).update s.heap.objs.size (Obj.mapSeq (· ++vs.toArray))}:Shared)=s3
 have I3':Inv X pins σ H s3:=by rw[←hs3];exact I3
 have oD:=pw I3'
 have I4:=jY (o:=seqObj "list" vs.toArray 0) (t':=s3.toks) I3' (fun v z=>by cases z)
 have hD:=(fE I4).1
 refine wpAny_bind (wpAny_holding (wpAny_call_entry_kw slot_list_sort ⟨_,hD,rfl⟩ entry_list_sort ?body (ksk_l1 _ _)))
 case body=>
  show wpAny (model X.prog X.w) A.in1.in1 (Builtin.«list.sort» ⟨[.ref s3.heap.objs.size],[(Str.ofString "key",.ref f)]⟩) _ _ _
  rw[ksk_t1]
  unfold ksk_tree
  refine wpAny_bind (listItems_at hD rfl ?_)
  have s5:=Heap.SameBut.update (s3.heap.push (seqObj "list" vs.toArray 0)) s3.heap.objs.size (Obj.mapSeq fun _=>(#[]:Array Value))
  have I5:=ly (t':=s3.toks) I4 s5 (get?_update_seq hD fun _=> #[]) (fun v z=>by cases z) oD.ge oD.ne
  have hD5:=(fE I5).1
  refine wpAny_bind (listUpdate_at hD rfl ?_ (by rw[List.size_toArray];exact hbig) (Nat.zero_le _))
  refine wpAny_bind (seqEpoch_at hD5 rfl ?_)
  refine wpAny_bind (wpAny_newTuple ?_ (by show vs.length≤_;exact hbig))
  have I6:=(jY (o:=seqObj "tuple" vs.toArray 0) (t':=s3.toks) I5 (fun v z=>by cases z)).gS
  refine wpAny_bind (wpAny_newList ?_ (Nat.zero_le _))
  have ok:=pw I6
  have I7:=jY (o:=seqObj "list" #[] 0) (t':=s3.toks) I6 (fun v z=>by cases z)
  refine wpAny_holding ?_
  have okp:Own X pins _:=⟨ok.ge,fun q hq=>ok.ne q (by
   rcases List.mem_append.mp hq with z|z
   · exact List.mem_append_left _ z
   · exact List.mem_append_right _ (List.mem_append_left _ z))⟩
  refine BG (zY I7 r) oD okp (fun z=>ok.ne (s3.heap.objs.size,_) (List.mem_append_right _ (List.mem_append_right _ (List.mem_singleton.mpr rfl))) z.symm) hl h64 turn fun s' out c J' so=>⟨_,rfl,?_⟩
  exact wpAny_pure ⟨_,rfl,h _ s' out c oD J' so⟩
end
end L3
namespace L3
open PySem PySem.Spec L2
open PyProof.Rows hiding St
structure kE(X:Cx)(scope:Scope)(Nc:List Str)(fr:List (Option Nat))(p:Str):Prop where
 sc:br X scope Nc fr
 zk:∀x∈scope.names,x.2≠ .cell
 co:scope.isCoroutine=false
 gen:scope.isGenerator=false
 p0:Nc[0]?=some p
 f0:fr[0]?=some none
 loc:scope.names.lookup p=some .local
noncomputable abbrev ym(X:Cx)(scope:Scope)(qual:Str)(f c:Addr)(s:Shared):Env:=PySem.W.envX qual scope s.heap.objs.size f (.ref c) (cY X.env.cells scope.names [])
noncomputable def Af(X:Cx)(scope:Scope)(Nc:List Str)(qual:Str)(f c:Addr)(s:Shared)(H:Hp):Cx:=
 {X with A:=X.A.in1.in1.deeper (ym X scope qual f c s),N:=Nc,s₀:=s,H₀:=H,env:=ym X scope qual f c s,outer:=X.stack,stack:=ym X scope qual f c s::X.stack,ex:=[],fn:=fun _=>false,calm:=true,pn:=[],xe:=fun _ _=>False}
section
variable {X:Cx}{scope:Scope}{Nc:List Str}{fr:List (Option Nat)}{p qual:Str}{f c:Addr}{pins:List (Addr×Obj)}{σ:L2.St}{H:Hp}{s:Shared}
theorem Gg(S:kE X scope Nc fr p)(I:Inv X pins σ H s)(hc:X.calm=true):(Af X scope Nc qual f c s H).Ok where
 mod:=I.ok.mod
 kind:=S.sc.kind
 glob:=rfl
 blt:=rfl
 above:=Nat.le_refl _
 inj:=fun x y a h1 h2=>I.ok.inj x y a (cN _ [] (fun _ _ e=>by cases e) x a h1) (cN _ [] (fun _ _ e=>by cases e) y a h2)
 has:=fun x hx=>by
  have hx':scope.names.lookup x=some .cell∨scope.names.lookup x=some .free:=hx
  rcases hx' with hx|hx
  · exact absurd rfl (S.zk _ (PySem.mem_of_lookup hx))
  · exact ip scope.names [] (I.ok.has x (S.sc.free _ (PySem.mem_of_lookup hx) rfl)) (.inl (PySem.mem_of_lookup hx))
 vg:=fun x a hf _=>by cases hf
 hd:=fun _=>I.ok.hd hc
 frames:=Around.frames_deeper (by show X.A.frames=_;exact I.ok.frames)
 xJ:= .inr ⟨rfl,rfl⟩
 Ac:=fun b hb=>by cases hb
 bs:=I.bs
 oo:=Nat.le_trans I.ok.oo I.sz
 qz:=fun b o e hb=>by cases hb
 qu:=fun b hb=>by cases hb
 jo:=I.stack
 qZ:=I.su
 gt:=I.ok.gt
theorem Ea{h':Heap}{t':Nat}{v:V}{u:Value}(S:kE X scope Nc fr p)(I:Inv X pins σ H s)(hc:X.calm=true)(r:RelV v u)(hn:h'.Ns s.heap.objs.size (fun x=>[(p,u)].reverse.lookup x))
 (k:∀b o,s.heap.get? b=some o→h'.get? b=some o):Inv (Af X scope Nc qual f c s H) [] ((σC fr σ).set 0 (some v)) H {s with heap:=h',toks:=t'} where
 ok:=Gg S I hc
 os:=rfl
 bare:=I.bare
 base:=Un.kept k
 loc:=⟨_,hn,fun i x w h1 h2 h3=>by
  by_cases hi:i=0
  · subst hi
    have hp:=S.p0
    have e:p=x:=Option.some.inj (hp.symm.trans h1)
    subst e
    have hl:0<(σC fr σ).length:=by
     have:=(List.getElem?_eq_some_iff.mp h2).1
     rw[List.length_set]at this;exact this
    rw[List.getElem?_set_self hl]at h2
    cases h2
    exact⟨u,r,.inl ⟨S.loc,by simp⟩⟩
  · rw[List.getElem?_set_ne (Ne.symm hi)]at h2
    obtain⟨j,q1,q2⟩:=xh h2
    obtain⟨n1,n2,n3⟩:=S.sc.map i j x h1 q1
    obtain⟨m,hm,hl⟩:=I.loc
    obtain⟨u',r',lk⟩:=hl j x w n1 q2 (n3.elim (fun z=> .inr (.inl z)) fun z=> .inr (.inr z))
    refine⟨u',r',?_⟩
    rcases lk with⟨z,_⟩|⟨_,a,e,ic⟩
    · rcases n3 with y|y<;>(rw[y]at z;cases z)
    · obtain⟨a',e'⟩:=ip scope.names [] ⟨a,e⟩ (.inl (PySem.mem_of_lookup n2))
      have e2:=cN _ [] (fun _ _ e=>by cases e) x a' e'
      rw[e]at e2;cases e2
      exact .inr ⟨.inr n2,a,e',ic.keeps k⟩⟩
 cell:=fun x a h=>by
  obtain⟨v,q⟩:=I.cell x a (cN _ [] (fun _ _ e=>by cases e) x a h)
  exact⟨v,q.keeps k⟩
 free:=I.aI.fresh (Nat.le_refl _)
 h9:=fun x a h=>I.h9 x a (cN _ [] (fun _ _ e=>by cases e) x a h)
 pin:=fun q hq=>by cases hq
 aI:=I.aI.kept k
 len:=by rw[List.length_set];unfold σC;rw[List.length_map];exact S.sc.len
theorem AY{R:Hp→Prop}{params:Arguments}{body:Expr}{tb:TE}{own:List (Addr×Obj)}{k:Int}{v:V}{u pm ctv:Value}(S:kE X scope Nc fr p)(hc:X.calm=true)(hr:X.A.depth<recursionLimit)
 (hb:∀(s:Shared) (H:Hp),PE (Af X scope Nc qual f c s H) body tb)
 (hbind:∀(cl:List (Str×Addr)) (pm cd ct v:Value),bindArgs (PySem.W.kla_fn "<lambda>" qual params body scope cl pm cd ct) ⟨[v],[]⟩=pure [(p,v)])
 (r:RelV v u) (hf:(f,PySem.W.kla_obj "<lambda>" qual params body scope (cY X.env.cells scope.names []) pm c ctv)∈pins)
 (hcr:∀(H:Hp) (s:Shared),Inv X (pins++own) σ H s→R H→s.heap.CodeRec (.ref c) qual)
 (hq:∀H,R H→tb ((σC fr σ).set 0 (some v)) H fun x H'=>x= .int k∧R H') (J:kB X pins σ R own s):
 wpAny (model X.prog X.w) X.A.in1.in1 (call (.ref f) [u]) (fun u' s'=>(∃t,u'= .int k t)∧kB X pins σ R own s') (fun _ _=>False) s:=by
 obtain⟨H,I,rH⟩:=J
 have ho:=(I.pin _ (List.mem_append_right _ (List.mem_append_left _ hf))).1
 refine wpAny_call (PySem.W.kla_callFunE (fd:=PySem.W.kla_fn "<lambda>" qual params body scope (cY X.env.cells scope.names []) pm (.ref c) ctv) (by show X.A.depth<_;exact hr) ho rfl S.co S.gen rfl (hcr H s I rH) ?_)
 rw[hbind]
 refine wpAny_pure (wpAny_newFunctionEnv S.zk (fun y hy=>by
  have e:y=(p,u):=by simpa using hy
  rw[e];exact S.loc) (fun h₁ hns hsb=>?_) S.sc.kind)
 have hk:∀b o,s.heap.get? b=some o→h₁.get? b=some o:=fun b o e=>hsb.extBut b o (Nat.ne_of_lt (Heap.lt_size e)) (Heap.get?_push_of_some _ e)
 refine⟨I.nolimit.keeps hk,?_⟩
 show codeAny _ X.A.in1.in1 (.expr body (ym X scope qual f c s)) _ _
 refine PySem.W.kla_codeExpr (wpAny_mono (hb s H [] _ _ H _ (Ea S I hc r hns hk) (hq H rH)) (fun w s' he=>?_) fun e s' z=>False.elim z)
 obtain⟨x,H',I',rx,rfl,rH'⟩:=he
 exact⟨rx,H',I.yh (s':=s') (ch:=[]) I'.os I'.base I'.aI I'.bare (fun b z=>absurd z (by simp)),rH'⟩
theorem set_same{α:Type}:∀ {l:List α} {n:Nat} {x:α},l[n]?=some x→l.set n x=l
 | [],n,x,h=>by simp at h
 |a::l,0,x,h=>by simp at h;subst h;rfl
 |a::l,n+1,x,h=>by
  rw[List.set_cons_succ,set_same (n:=n) (by simpa using h)]
theorem BY{params:Arguments}{body:Expr}{lpos:Pos}{c0 T:Addr}{α:List (Option Addr)}{G F:Hp}{st:ag}{n0:Nat}{b:Bool}{E:Value→Shared→Prop}{Q:Value→Shared→Prop}(S:kE X scope Nc fr p)(hcode:X.env.code= .ref c0)(hC:PySem.W.codeHdIn X.K c0 T=true)
 (hdef:defaultsOf params X.env=([],[])) (hql:X.env.qual++"<lambda>"=qual) (I:Inv X pins σ H s) (Sp:bT G F H) (SR:aT α st G) (hn0:st[n0]?=some (.tab T lpos qual b))
 (h:∀(f c:Addr) (ctv pm:Value) (G2 H2:Hp) (s2:Shared),Inv X (pins++[(f,PySem.W.kla_obj "<lambda>" qual params body scope (cY X.env.cells scope.names []) pm c ctv)]) σ H2 s2→Step α G α G2→bT G2 F H2→aT α (st.set n0 (.tab T lpos qual true)) G2→
   (some c∉α∧∃o vs t,G2 c=some (.gj o (.own c))∧o.data= .fields vs∧vs[1]?=some (.str qual t))→Q (.ref f) s2):
 wpAny (model X.prog X.w) X.A (eval (.Lambda params body scope lpos) X.env) Q E s:=by
 refine PySem.W.kla_eval hdef ?_
 rw[hql]
 rcases SR.at' n0 _ hn0 with⟨z,_⟩|⟨a,ha,rfl,ps,gP,tr,cs⟩
 · cases z
 have hP:=I.aI a _ (Sp.get gP)
 have hP:s.heap.get? a=some (PySem.W.tabObj ps):=hP
 have hg:s.heap.Ns mainGlobals X.mg:=I.mod.glob.keeps I.bk
 obtain⟨bm,ob,b1,b2,b3,b4,b5,b6⟩:=I.mod.bmain
 have b3':=I.bk _ _ b3
 have hgP:mainGlobals≠a:=fun q=>by
  obtain⟨o,es,ep,e,hd,_⟩:=hg
  rw[q,hP]at e;cases e;cases hd
 have n1:bm≠mainGlobals:=fun q=>by
  obtain⟨o,es,ep,e,hd,_⟩:=hg
  rw[q,e]at b3';cases b3';rw[hd]at b6;cases b6
 have n2:bm≠a:=fun q=>by rw[q,hP]at b3';cases b3';cases b4
 have hB:s.heap.BuiltinsAt X.mg a:=⟨bm,ob,b1,b2,n1,n2,b3',b4,b5,b6⟩
 have hcl:closureFor scope X.env=pure (cY X.env.cells scope.names []):=ku fun x hx hk=>I.ok.has x.1 (S.sc.free x hx hk)
 have C:PySem.W.CodeHd s.heap c0 a:=PySem.W.codeHd_of_K I.gN hC
 rcases cs with⟨rfl,hnf⟩|⟨rfl,c,o,vs,t,q1,q2,q3,q4,q5⟩
 · refine PySem.W.kla_makeFunction hcl I.ok.glob hg hcode C hP tr hnf hgP hB fun c' ctv h' tk hx hge hlt hrec htb=>?_
   obtain⟨c2,oc,vs,t,e2,hoc,hd,hv⟩:=hrec
   cases e2
   have hHc:H c'=none:=I.aI.fresh hge
   have hGc:G c'=none:=(Sp.none hHc).1
   have hHa:H a=some (.jd ps):=Sp.get gP
   have hac:a≠c':=dv hHa hHc
   let ps':=ps++ #[rawInt lpos.line,rawInt lpos.col,.ref c']
   have nb:∀ {b:Addr},H b=none→b≠a:=fun e z=>by rw[z,hHa]at e;cases e
   have I1:Inv X pins σ (upd (upd H c' (.gj oc (.own c'))) a (.jd ps')) {s with heap:=h',gens:=s.gens,drawn:=s.drawn,toks:=tk}:=by
    have old:∀ {b:Addr} {u:HO},H b=some u→b≠a→upd (upd H c' (.gj oc (.own c'))) a (.jd ps') b=some u:=fun e n=>by rw[aL n,aL (dv e hHc)];exact e
    refine I.step (ch:=[]) (fun _ z=>nomatch z) (fun b o _ _ _ e n=>hx b o (nb n) e) (fun b o _ _ _ e n=>⟨o.slots,hx b o (nb n) e⟩) (fun b o _ e n=>?_) (fun b o _ e=>?_) (fun b xs e=>?_) (fun b o u e=>?_) (fun b qs e=>?_) (fun m hm=>?_) (fun b u e=>?_) I.bare
    · rw[aL (nb n),aL (Nat.ne_of_lt (Nat.lt_of_lt_of_le (Heap.lt_size e) hge))];exact n
    · by_cases hb:b=a
      · exact⟨_,by rw[hb];exact htb⟩
      · exact⟨o,hx b o hb e⟩
    · exact old e fun z=>by rw[z,hHa]at e;cases e
    · exact old e fun z=>by rw[z,hHa]at e;cases e
    · by_cases hb:b=a
      · subst hb
        rw[hHa]at e;cases e
        exact⟨_,aV⟩
      · exact⟨#[],by rw[old e hb];simp⟩
    · obtain⟨o,es,ep,ho,r⟩:=hm
      exact⟨o,es,ep,hx _ o (nb I.free) ho,r⟩
    · by_cases hb:b=a
      · subst hb;rw[aV]at e;cases e;exact htb
      · rw[aL hb]at e
        by_cases hbc:b=c'
        · subst hbc;rw[aV]at e;cases e;exact⟨hoc,_,hoc⟩
        · rw[aL hbc]at e
          refine(I.aI b u e).mD (fun d w hd q=>hx d w ?_ q) (fun d q=>old q fun z=>by rw[z,hHa]at q;cases q) fun d xs q=>old q fun z=>by rw[z,hHa]at q;cases q
          rcases hd with rfl|hd
          · exact hb
          · intro z;rw[z,hHa]at hd;cases hd
   have I2:=jY (o:=PySem.W.kla_obj "<lambda>" qual params body scope (cY X.env.cells scope.names []) ((X.mg "__name__").getD .none) c' ctv) (t':=tk) I1 (fun v z=>by cases z)
   have gP':upd G c' (.gj oc (.own c')) a=some (.jd ps):=by rw[aL hac];exact gP
   refine h _ c' ctv _ (upd (upd G c' (.gj oc (.own c'))) a (.jd ps')) _ _ I2 ((Step.laid hGc).trans (Step.write (List.mem_of_getElem? ha))) ((Sp.laid hHc).write gP') ((SR.laid hGc).write ha ⟨rfl,ps',aV,?_,.inr ⟨rfl,c',oc,vs,t,?_,SR.jz hGc,?_,hd,hv⟩⟩) ⟨SR.jz hGc,oc,vs,t,?_,hd,hv⟩
   · show TriplesOk (ps++ #[rawInt lpos.line,rawInt lpos.col,.ref c']).toList
     rw[Array.toList_append]
     exact TriplesOk_snoc _ _ _ _ tr
   · show codeAmong lpos (ps++ #[rawInt lpos.line,rawInt lpos.col,.ref c']).toList=_
     rw[Array.toList_append]
     exact codeAmong_snoc _ tr hnf
   · rw[aL hac.symm,aV]
   · rw[aL hac.symm,aV]
 · refine PySem.W.kla_makeFunctionHit hcl I.ok.glob hg hcode C hP tr q1 hB fun ctv h' tk hk hsz=>?_
   have I1:=I.kept (t':=tk) hk
   have I2:=jY (o:=PySem.W.kla_obj "<lambda>" qual params body scope (cY X.env.cells scope.names []) ((X.mg "__name__").getD .none) c ctv) (t':=tk) I1 (fun v z=>by cases z)
   refine h _ c ctv _ G H _ I2 Step.refl Sp (by rw[set_same hn0];exact SR) ⟨q2,o,vs,t,q3,q4,q5⟩
end
noncomputable def slt(p q:Int×Int):Prop:=p.1≤q.1
noncomputable def vp(n0:Nat)(T:Addr)(lpos:Pos)(qual:Str)(fr:List (Option Nat))(tb te:DE):DE:=fun σ st K=>te σ st fun d st1=>∃(ns ks:List Int) (b:Bool),d= .lst (ns.map .int)∧ns.length<64∧ns.Pairwise (· < ·)∧ks.length=ns.length∧
 st1[n0]?=some (.tab T lpos qual b)∧(∀(i:Nat) (n k:Int),ns[i]?=some n→ks[i]?=some k→tb ((gu fr σ).set 0 (some (.int n))) (st1.set n0 (.tab T lpos qual true)) fun v st2=>v= .int k∧st2=st1.set n0 (.tab T lpos qual true))∧
 ∀os:List (Int×Int),os.Perm (ks.zip ns)→os.Pairwise slt→K (.lst (os.map fun p=> .int p.2)) (st1.set n0 (.tab T lpos qual true))
theorem vY{α:List (Option Addr)}{H:Hp}:∀ {ns:List Int} {vs:List V},aN α H (ns.map D.int) vs→vs=ns.map V.int
 | [],vs,h=>by unfold aN at h;exact h
 |n::ns,vs,h=>by
  unfold aN at h
  obtain⟨v,r,rfl,h1,h2⟩:=h
  unfold Rep at h1
  rw[h1,vY h2];rfl
theorem uS{α:List (Option Addr)}{H:Hp}:∀(ns:List Int),aN α H (ns.map D.int) (ns.map V.int)
 | []=>by unfold aN;rfl
 |n::ns=>by unfold aN;exact⟨_,_,rfl,by unfold Rep;rfl,uS ns⟩
theorem vj:∀ {ns:List Int} {us:List Value},Vals (ns.map V.int) us→IntsAre us ns
 | [],_,.nil=> .nil
 |n::ns,_,.cons ⟨t,rfl⟩ h=> .cons n t (vj h)
section
variable {X:Cx}{scope:Scope}{Nc:List Str}{fr:List (Option Nat)}{p x qual:Str}{params:Arguments}{e body:Expr}{te tb:DE}{lpos kpos pos ppos:Pos}{c0 T:Addr}{n0:Nat}
theorem Et(S:kE X scope Nc fr p)(hc:X.calm=true)(hr:cK 2 X.A)(hcode:X.env.code= .ref c0)(hC:PySem.W.codeHdIn X.K c0 T=true)(hdef:defaultsOf params X.env=([],[]))(hql:X.env.qual++"<lambda>"=qual)
 (hbind:∀(cl:List (Str×Addr)) (pm cd ct v:Value),bindArgs (PySem.W.kla_fn "<lambda>" qual params body scope cl pm cd ct) ⟨[v],[]⟩=pure [(p,v)])
 (hb:∀(f c:Addr) (s:Shared) (H:Hp),PE (Af X scope Nc qual f c s H) body (LE tb)) (ha:PA X [e] (LA (ae te aj)))
 (hg:Gl X "sorted") (hm:X.mg "sorted"=none) (hv:bootBuiltins "sorted"=some (.builtin "sorted"))
 (he:backTo pos (starEach [e] X.env)=(false,eval e X.env)::backTo pos (starEach [] X.env):=by rfl) (hpl:(backTo pos (starEach [e] X.env)).any (·.1)=false:=by rfl):
 PE X (.Call (.Name "sorted" ppos) [e] [⟨some "key",.Lambda params body scope lpos,kpos⟩] pos) (LE (vp n0 T lpos qual fr tb te)):=by
 intro pins s σ H Q I h
 obtain⟨α,σd,st,K,G,F,Sp,RS,SR,t,k⟩:=h
 refine wpAny_Call_Name_kw (kg I hg hm hv ?_)
 refine callWith_kw ?_ he hpl
 let K1:DK:=fun d st1=>∃(ns ks:List Int) (b:Bool),d= .lst (ns.map .int)∧ns.length<64∧ns.Pairwise (· < ·)∧ks.length=ns.length∧
  st1[n0]?=some (.tab T lpos qual b)∧(∀(i:Nat) (n k:Int),ns[i]?=some n→ks[i]?=some k→tb ((gu fr σd).set 0 (some (.int n))) (st1.set n0 (.tab T lpos qual true)) fun v st2=>v= .int k∧st2=st1.set n0 (.tab T lpos qual true))∧
  ∀os:List (Int×Int),os.Perm (ks.zip ns)→os.Pairwise slt→K (.lst (os.map fun p=> .int p.2)) (st1.set n0 (.tab T lpos qual true))
 refine bR (ha pos pins s σ H (fun vs H1=>∃d v st1 α1 G1,vs=[v]∧K1 d st1∧Step α G α1 G1∧bT G1 F H1∧aT α1 st1 G1∧Rep α1 G1 d v) I
  ⟨α,σd,st,fun ds st1=>match ds with| [d]=>K1 d st1|_=>False,G,F,Sp,RS,SR,t,fun ds st1 q α1 G1 H1 vs s1 P1 S1 r1=>?_⟩) fun us s1 ⟨vs,H1,I1,rv,d,v,st1,α1,G1,hvs,kd,s1',P1,S1,r1⟩=>?_
 · match ds,q,r1 with
   | [d],q,r1=>
     unfold aN at r1
     obtain⟨v,r,rfl,h1,h2⟩:=r1
     unfold aN at h2
     subst h2
     exact⟨d,v,st1,α1,G1,rfl,q,s1,P1,S1,h1⟩
 subst hvs
 obtain⟨ns,ks,b,rfl,h64,hup,hlen,hn0,hkey,hK⟩:=kd
 show wpAny _ _ (evalAll ((do let v ←eval (.Lambda params body scope lpos) X.env;standAt pos;pure v)::[])) _ _ s1
 refine wpAny_evalAll_cons (wpAny_bind (BY S hcode hC hdef hql I1 P1 S1 hn0 fun f c ctv pm G2 H2 s2 I2 st2 P2 S2 ⟨hc1,o,vs,tq,hc2,hc3,hc4⟩=>wpAny_bind (wpAny_standAt (wpAny_pure (wpAny_evalAll_nil ?_)))))
 have r2:=r1.step st2
 unfold Rep at r2
 obtain⟨l,xs,rfl,hl1,hl2,hl3⟩:=r2
 have exs:=vY hl3
 subst exs
 cases rv with
 |cons ru rn=>
  cases rn
  cases ru
  have hrd:Rd H2 l (.lst (ns.map V.int)):=by
   rcases hl2 with z|⟨w,z⟩
   · exact .inl (P2.get z)
   · exact .inr ⟨w,P2.get z⟩
  obtain⟨_,its,nn,vv,hobj⟩:=hrd.ok I2.aI
  have hints:=vj vv
  have hlen2:=hints.length
  have key:∀(H':Hp),(∃α' G',Step α1 G2 α' G'∧bT G' F H'∧aT α' (st1.set n0 (.tab T lpos qual true)) G')→H' c=some (.gj o (.own c)):=fun H' ⟨α',G',q1,q2,q3⟩=>q2.get (q1.ext c _ hc1 hc2)
  show wpAny _ _ (call (.builtin "sorted") [.ref l] [(Str.ofString "key",.ref f)]) _ _ _
  refine yz (X:=X) (pins:=pins++[(f,PySem.W.kla_obj "<lambda>" qual params body scope (cY X.env.cells scope.names []) pm c ctv)]) (R:=fun H'=>∃α' G',Step α1 G2 α' G'∧bT G' F H'∧aT α' (st1.set n0 (.tab T lpos qual true)) G') (kz:=ks) (vs:=its)
   I2 ⟨α1,G2,Step.refl,P2,S2⟩ ⟨_,hobj,rfl,nn,rfl⟩ (by(first|lia|omega)) (by(first|lia|omega)) (fun i u kk hu hk own s' J=>?_) fun D s' out cc oD J so=>?_
  · have hi:i<ns.length:=by
     have:=(List.getElem?_eq_some_iff.mp hu).1
     (first|lia|omega)
    obtain⟨tt,ht⟩:=hints.get i ns[i] (List.getElem?_eq_getElem hi)
    have ht:some u=some (Value.int ns[i] tt):=by rw[←hu];exact ht
    cases ht
    refine AY (v:= .int ns[i]) (u:= .int ns[i] tt) S hc (by have:=hr.dp;(first|lia|omega)) (hb f c) hbind ⟨tt,rfl⟩ (List.mem_append_right _ (List.mem_singleton.mpr rfl)) (fun H' s'' J' r'=>?_) (fun H' r'=>?_) J
    · have q:=J'.aI c _ (key H' r')
      exact⟨c,o,vs,tq,rfl,q.1,hc3,hc4⟩
    · obtain⟨α',G',q1,q2,q3⟩:=r'
      refine⟨α',(gu fr σd).set 0 (some (.int ns[i])),_,_,G',F,q2,?_,q3,hkey i ns[i] kk (List.getElem?_eq_getElem hi) hk,fun d' st' hd α'' G'' H'' v' s'' P'' S'' r''=>?_⟩
      · exact((RS.step ((s1'.trans st2).trans q1)).comp).set 0 (by unfold Rep;rfl)
      · obtain⟨rfl,rfl⟩:=hd
        unfold Rep at r''
        exact⟨r'',α'',G'',q1.trans s'',P'',S''⟩
  · obtain⟨H',I',α',G',q1,q2,q3⟩:=J
    obtain⟨ps,hp,ho,hs⟩:=so
    have hps:∀q∈ps,∃t,q.2= .int (numOf q.2) t:=fun q hq=>by
     have h1:=hp.mem_iff.mp hq
     have h2:q.2∈its:=(List.of_mem_zip (show(q.1,q.2)∈ks.zip its from h1)).2
     obtain⟨n,t,e⟩:=hints.all _ h2
     exact⟨t,by rw[e];rfl⟩
    have hos:(ps.map fun q=>(q.1,numOf q.2)).Perm (ks.zip ns):=by
     have h1:=hp.map fun q:Int×Value=>(q.1,numOf q.2)
     have e:(ks.zip its).map (fun q:Int×Value=>(q.1,numOf q.2))=ks.zip ns:=by
      rw[←hints.nums,List.zip_map_right]
      exact List.map_congr_left fun⟨a,b⟩ _=>rfl
     rw[e]at h1;exact h1
    have hpw:(ps.map fun q=>(q.1,numOf q.2)).Pairwise slt:=by rw[List.pairwise_map];exact hs
    have kk:=hK _ hos hpw
    rw[List.map_map]at kk
    have hD0:=fE I'
    have vout:Vals ((ps.map fun q=>numOf q.2).map V.int) out.toList:=by
     rw[ho]
     clear hos hpw kk hs hp ho
     induction ps with
     |nil=>exact .nil
     |cons q r ih=>
      obtain⟨t,e⟩:=hps q (List.mem_cons_self ..)
      exact .cons ⟨t,e⟩ (ih fun z hz=>hps z (List.mem_cons_of_mem _ hz))
    have hlo:(ps.map fun q=>numOf q.2).length≤sizeLine:=by
     rw[List.length_map,hp.length_eq,List.length_zip]
     exact Nat.le_trans (Nat.min_le_left _ _) (Nat.le_trans (show ks.length≤64 by(first|lia|omega)) (by decide))
    have I3:=zy (u:= .lst ((ps.map fun q=>numOf q.2).map V.int)) I' oD.ge oD.ne ⟨by rw[List.length_map];exact hlo,out.toList,cc,vout,hD0.1⟩
    have hG:=(q2.none hD0.2.1).1
    refine⟨.ref D,_,I3.gS,rfl,k _ _ kk α' _ _ _ ((s1'.trans st2).trans (q1.trans (Step.laid hG))) (q2.laid hD0.2.1) (q3.laid hG) ?_⟩
    unfold Rep
    refine⟨D,_,rfl,q3.jz hG,.inl aV,?_⟩
    have e:List.map ((fun p:Int×Int=>L3.D.int p.snd)∘fun q:Int×Value=>(q.fst,numOf q.snd)) ps=(ps.map fun q=>numOf q.2).map L3.D.int:=by rw[List.map_map];rfl
    rw[e]
    exact uS _
end
end L3
namespace L3
open PySem L2
open PySem.Spec hiding items?
open PyProof.Rows hiding St
noncomputable def Bu(sc:Scope)(N gl:List Str):Bool:=
 N.all (fun x=>(sc.names.lookup x==some .local||sc.names.lookup x==some .cell)&&x != "__debug__"&&x != "__classdict__")&&gl.all (fun x=>sc.names.lookup x==some .globalImplicit&&x != "__debug__")
structure VS(sc:Scope)(N gl:List Str):Prop where
 ok:Bu sc N gl=true
theorem VS.at_{sc:Scope}{N gl:List Str}(V:VS sc N gl){i:Nat}{x:Str}(h:N[i]?=some x):Loc sc x∧(x==("__debug__":Str))=false∧(x==("__classdict__":Str))=false:=by
 have o:=V.ok
 unfold Bu at o
 have:=List.all_eq_true.mp (Bool.and_eq_true_iff.mp o).1 x (List.mem_of_getElem? h)
 simp only[Bool.and_eq_true,Bool.or_eq_true,beq_iff_eq,bne_iff_ne,ne_eq]at this
 exact⟨this.1.1,beq_false_of_ne this.1.2,beq_false_of_ne this.2⟩
theorem VS.JF{sc:Scope}{N gl:List Str}(V:VS sc N gl){i:Nat}{x:Str}(h:gl[i]?=some x):sc.names.lookup x=some .globalImplicit∧(x==("__debug__":Str))=false:=by
 have o:=V.ok
 unfold Bu at o
 have:=List.all_eq_true.mp (Bool.and_eq_true_iff.mp o).2 x (List.mem_of_getElem? h)
 simp only[Bool.and_eq_true,beq_iff_eq,bne_iff_ne,ne_eq]at this
 exact⟨this.1,beq_false_of_ne this.2⟩
section
variable {X:Cx}{sc:Scope}{N gl:List Str}{x:Str}{pos:Pos}
theorem VS.nm(V:VS X.env.scope X.N gl)(i:Nat)(h:X.N[i]?=some x:=by rfl):JE X (.Name x pos) (ab i):=
 let q:=V.at_ h
 zh q.2.1 q.2.2 (q.1.elim .inl fun z=> .inr (.inl z)) h
theorem VS.l(V:VS sc N gl)(i:Nat)(h:N[i]?=some x:=by rfl):Loc sc x:=(V.at_ h).1
theorem VS.g(V:VS sc N gl)(i:Nat)(h:gl[i]?=some x:=by rfl):sc.names.lookup x=some .globalImplicit:=(V.JF h).1
theorem VS.d(V:VS sc N gl)(i:Nat)(h:gl[i]?=some x:=by rfl):(x==("__debug__":Str))=false:=(V.JF h).2
theorem cP{n:Nat}(hN:X.N[n]?=some x:=by rfl)(hd:((x==("__debug__":Str))||(x==("__classdict__":Str)))=false:=by decide+kernel)
 (hv:vc X.env.scope x:=by first|exact Or.inl rfl|exact Or.inr (Or.inl rfl)|exact Or.inr (Or.inr rfl)):JE X (.Name x pos) (ab n):=
 zh (Bool.or_eq_false_iff.mp hd).1 (Bool.or_eq_false_iff.mp hd).2 hv hN
@[irreducible] noncomputable def mM:dh:=qP (fun _ j=>j≠0) fun i j=> .int (i.fdiv j)
theorem wR{k:Nat}(hr:cK k X.A)(hs:X.stack=X.env::X.outer)(hgen:X.env.scope.isGenerator=false)(hco:X.env.scope.isCoroutine=false):bW X (binaryOp .FloorDiv) (LR mM):=by
 unfold mM
 refine ka (g':=fun i j=> .int (i.fdiv j)) (fun _ _ _ _=>by unfold Rep;rfl) ?_
 intro pins s σ H x y v u Q I rx ry h
 obtain⟨i,j,rfl,rfl,hc,q⟩:=h
 obtain⟨t,rfl⟩:=rx
 obtain⟨t',rfl⟩:=ry
 refine floordiv_int hc ⟨.int (i.fdiv j),H,I.tok _,⟨_,rfl⟩,q⟩ (.inr (PySem.PylongRoom.of I.nolimit ?_ ?_))
 · have:=hr.dp
   show X.A.depth+100<_
   (first|lia|omega)
 · exact PySem.SeerAt.of (env:=X.env) (l:=X.outer) (I.mod.seer.keeps I.bk) I.ok.gt (by rw[I.ok.frames,hs]) hgen hco I.ok.blt I.ok.glob
theorem vK{st:ag}{K:DK}{i j:Int}(h0:j≠0)(k:K (.int (i.fdiv j)) st):mM (.int i) (.int j) st K:=by unfold mM;exact⟨h0,k⟩
theorem kE.look{scope:Scope}{Nc:List Str}{fr:List (Option Nat)}{p:Str}(S:br X scope Nc fr)(h:(scope.names.all (fun x=>x.2 != .cell)&&(!scope.isCoroutine&& !scope.isGenerator)&&(scope.names.lookup p==some .local))=true:=by decide+kernel)
 (p0:Nc[0]?=some p:=by rfl) (f0:fr[0]?=some none:=by rfl):kE X scope Nc fr p:=by
 simp only[Bool.and_eq_true,Bool.not_eq_true',beq_iff_eq]at h
 exact⟨S,fun x hx=>by simpa using List.all_eq_true.mp h.1.1 x hx,h.1.2.1,h.1.2.2,p0,f0,h.2⟩
theorem EU{scope:Scope}{Nc:List Str}{fr:List (Option Nat)}{p qual:Str}{params:Arguments}{e body:Expr}{te tb:DE}{lpos kpos pos ppos:Pos}{c0 T:Addr}{n0 k:Nat}(S:kE X scope Nc fr p)(hc:X.calm=true)(hr:cK k X.A)(hcode:X.env.code= .ref c0)(hC:PySem.W.codeHdIn X.K c0 T=true)
 (hb:∀(f c:Addr) (s:Shared) (H:Hp),JE (Af X scope Nc qual f c s H) body tb) (he:JE X e te) (hg:X.env.kindOf "sorted"=some .globalImplicit) (hm:X.mg "sorted"=none)
 (hdef:defaultsOf params X.env=([],[]):=by rfl) (hql:X.env.qual++"<lambda>"=qual:=by rfl)
 (hbind:∀(cl:List (Str×Addr)) (pm cd ct v:Value),bindArgs (PySem.W.kla_fn "<lambda>" qual params body scope cl pm cd ct) ⟨[v],[]⟩=pure [(p,v)]:=by(intros;rfl)) (hk:2≤k:=by decide)
 (he1:starEach [e] X.env=(false,eval e X.env)::starEach [] X.env:=by rfl):
 JE X (.Call (.Name "sorted" ppos) [e] [⟨some "key",.Lambda params body scope lpos,kpos⟩] pos) (vp n0 T lpos qual fr tb te):=by
 unfold JE at he hb⊢
 refine Et S hc (hr.mono hk) hcode hC hdef hql hbind hb (o_ he rO he1) hg hm rfl ?_ ?_
 · rw[he1];rfl
 · rw[he1];rfl
end
structure Hd(K:PySem.W.Frag)(x qual:Str)(st:Stmt)(f:Addr)(fd:FuncData)(c:Addr):Prop where
 ex:∃(oc:Value) (od:Option Addr) (kV doc pm:Value) (an:Option Addr) (ct:Value) (osl:Array (Option Value)),
  fd=PySem.W.fnOf x qual (bh st) (aY st) (af st) .none kV doc pm an (.ref c) ct∧K.lookup f=some ⟨oc,od,.func fd,osl⟩∧PySem.W.codeIn K (.ref c) qual=true
theorem GS{P:Program}{w:World}{K:PySem.W.Frag}{mg:Str→Option Value}{base:Heap}{x qual:Str}{st:Stmt}{f c:Addr}{fd:FuncData}{N ps:List Str}{k:Nat}{sp:cO}{t:DS}(F:Hd K x qual st f fd c)(S:bo N ps (af st))
 (hbody:∀(A:Around) (outer:List Env) (s:Shared) (H:Hp) (E:XK),cK k (A.deeper (envOfC qual (af st) s.heap.objs.size f (.ref c)))→JB (nh aJ P w K mg base N qual (af st) f (.ref c) A outer s H E).tw (aY st) t)
 (hsp:∀ds st K,sp ds st K→ds.length=ps.length∧t {nx:=fun _ st'=>K .aC st',rt:=K} (bw N ds) st):aw P w K mg base aJ (k+1) f fd ps (aO sp):=by
 obtain⟨oc,od,kV,doc,pm,an,ct,osl,rfl,lk,hcd⟩:=F.ex
 unfold JB at hbody
 refine CW lk hcd S (fun vs H Q E h=>?_) fun A outer s H vs Q E hr h=>?_
 · obtain⟨α,ds,st,K,G,F,P,R,S,q,k⟩:=h
   rw[←R.length];exact(hsp ds st K q).1
 · obtain⟨α,ds,st,K,G,F',P,R,SR,q,k⟩:=h
   refine⟨_,(hbody A outer s H E hr).tw,α,bw N ds,st,_,G,F',P,dN.start R,SR,(hsp ds st K q).2,?_,k,?_,?_⟩
   · intro σd' st' kk α' G' H' σ' s' P' R' S'
     exact k .aC st' kk α' G' H' .aC s' P' S' (by unfold Rep;rfl)
   · intro σd' st' kk
     exact kk.elim
   · intro σd' st' kk
     exact kk.elim
noncomputable def zc(tl:List (Addr×Pos×Str)):cO:=fun ds st K=>∃ns:List Int,ds=[.lst (ns.map .int)]∧ns.length≤63∧st=tl.map (fun q=> .tab q.1 q.2.1 q.2.2 false)∧∀st',K (.bl true) st'
noncomputable def qT(K:PySem.W.Frag)(ts:List (Addr×Addr)):Sp:=fun vs H Q _=>∃(a:Addr) (ns:List Int),vs=[.ref a]∧Entry K ts a ns H∧ns.length≤63∧∀H',Q (.bl true) H'
theorem zp{K:PySem.W.Frag}{ts:List (Addr×Addr)}{tl:List (Addr×Pos×Str)}(nl:vn K=true)(hts:ts.map (·.2)=tl.map (·.1))(nd:(tl.map (·.1)).Nodup){vs:List V}{H:Hp}{Q:VK}{E:XK}(h:qT K ts vs H Q E):aO (zc tl) vs H Q E:=by
 obtain⟨a,ns,rfl,hE,hl,q⟩:=h
 have tabs:∀q∈tl,H q.1=some (.jd #[])∧q.1≠a:=fun q hq=>by
  have h1:q.1∈ts.map (·.2):=by rw[hts];exact List.mem_map_of_mem hq
  obtain⟨t,ht,e⟩:=List.mem_map.mp h1
  rw[←e];exact hE.tab t ht
 have at_:∀(i:Nat) (x:Addr),(tl.map fun q=>some q.1)[i]?=some (some x)→∃q,tl[i]?=some q∧q.1=x:=fun i x e=>by
  rw[List.getElem?_map]at e
  cases z:tl[i]? with
  |none=>rw[z]at e;cases e
  |some w=>rw[z]at e;simp at e;exact⟨w,rfl,e⟩
 have nota:some a∉tl.map fun q=>some q.1:=fun z=>by
  obtain⟨w,hw,e⟩:=List.mem_map.mp z
  exact(tabs w hw).2 (Option.some.inj e)
 rcases hE.lst with hS|⟨o,its,n,e,hc,_⟩
 · refine⟨tl.map fun q=>some q.1,[.lst (ns.map .int)],tl.map (fun q=> .tab q.1 q.2.1 q.2.2 false),fun d _=>d= .bl true,H,fun _=>none,⟨fun b=>by cases H b<;>rfl,fun _ _ _=>rfl⟩,?_,⟨by simp,fun i j x e1 e2=>?_,fun n c e=>?_⟩,⟨ns,rfl,hl,rfl,fun _=>rfl⟩,?_⟩
   · unfold aN
     refine⟨.ref a,[],rfl,?_,by unfold aN;rfl⟩
     unfold Rep
     exact⟨a,ns.map V.int,rfl,nota,hS,tJ ns⟩
   · obtain⟨p,hp,e3⟩:=at_ i x e1
     obtain⟨r,hr,e4⟩:=at_ j x e2
     have k1:(tl.map (·.1))[i]?=some x:=by rw[List.getElem?_map,hp,←e3];rfl
     have k2:(tl.map (·.1))[j]?=some x:=by rw[List.getElem?_map,hr,←e4];rfl
     have hi:=(List.getElem?_eq_some_iff.mp k1).1
     exact(List.getElem?_inj hi nd).mp (k1.trans k2.symm)
   · rw[List.getElem?_map]at e
     cases z:tl[n]? with
     |none=>rw[z]at e;cases e
     |some w=>
      rw[z]at e
      have e':Cell.tab w.1 w.2.1 w.2.2 false=c:=Option.some.inj e
      subst e'
      refine .inr ⟨w.1,by rw[List.getElem?_map,z];rfl,rfl,#[],(tabs w (List.mem_of_getElem? z)).1,trivial,.inl ⟨rfl,rfl⟩⟩
   · rintro d st' rfl α' G' H' v _ _ _ r
     unfold Rep at r
     subst r
     exact q H'
 · exact absurd hc (t_ nl e)
end L3
namespace L3
open PySem L2
open PySem.Spec hiding items?
open PyProof.Rows hiding St
section
variable {K:PySem.W.Frag}{x qual p1 p2 p3 p4 p5:Str}{st:Stmt}{f:Addr}{fd:FuncData}
noncomputable abbrev CO(x qual:Str)(st:Stmt)(kV doc pm:Value)(an:Option Addr)(cdv ct:Value):FuncData:=PySem.W.fnOf x qual (bh st) (aY st) (af st) .none kV doc pm an cdv ct
theorem gh{α:Type}{n:Nat}{us:List α}(h:us.length=n+1):∃a r,us=a::r∧r.length=n:=by
 cases us with
 |nil=>cases h
 |cons a r=>exact⟨a,r,rfl,Nat.succ.inj h⟩
theorem pk{α:Type}{us:List α}(h:us.length=0):us=[]:=List.length_eq_zero_iff.mp h
theorem pY(F:mX K x qual st f fd)(h:∀kV doc pm an cdv ct a,bindArgs (CO x qual st kV doc pm an cdv ct) ⟨[a],[]⟩=pure [(p1,a)]):Binds K fd [p1] []:=
 F.binds fun kV doc pm an cdv ct us hl=>by
  obtain⟨a,r1,rfl,h1⟩:=gh hl
  cases pk h1
  exact h kV doc pm an cdv ct a
theorem jF(F:mX K x qual st f fd)(h:∀kV doc pm an cdv ct a b,bindArgs (CO x qual st kV doc pm an cdv ct) ⟨[a,b],[]⟩=pure [(p1,a),(p2,b)]):Binds K fd [p1,p2] []:=
 F.binds fun kV doc pm an cdv ct us hl=>by
  obtain⟨a,r1,rfl,h1⟩:=gh hl
  obtain⟨b,r2,rfl,h2⟩:=gh h1
  cases pk h2
  exact h kV doc pm an cdv ct a b
theorem xG(F:mX K x qual st f fd)(h:∀kV doc pm an cdv ct a b c,bindArgs (CO x qual st kV doc pm an cdv ct) ⟨[a,b,c],[]⟩=pure [(p1,a),(p2,b),(p3,c)]):Binds K fd [p1,p2,p3] []:=
 F.binds fun kV doc pm an cdv ct us hl=>by
  obtain⟨a,r1,rfl,h1⟩:=gh hl
  obtain⟨b,r2,rfl,h2⟩:=gh h1
  obtain⟨c,r3,rfl,h3⟩:=gh h2
  cases pk h3
  exact h kV doc pm an cdv ct a b c
theorem KL(F:mX K x qual st f fd)(h:∀kV doc pm an cdv ct a b c d,bindArgs (CO x qual st kV doc pm an cdv ct) ⟨[a,b,c,d],[]⟩=pure [(p1,a),(p2,b),(p3,c),(p4,d)]):Binds K fd [p1,p2,p3,p4] []:=
 F.binds fun kV doc pm an cdv ct us hl=>by
  obtain⟨a,r1,rfl,h1⟩:=gh hl
  obtain⟨b,r2,rfl,h2⟩:=gh h1
  obtain⟨c,r3,rfl,h3⟩:=gh h2
  obtain⟨d,r4,rfl,h4⟩:=gh h3
  cases pk h4
  exact h kV doc pm an cdv ct a b c d
end
end L3
namespace L3
open PySem L2
open PySem.Spec hiding items?
open PyProof.Rows hiding St
section
variable {X:Cx}
end
end L3
namespace L3
open PySem L2
open PySem.Spec hiding items?
open PyProof.Rows hiding St
section
variable {X:Cx}
theorem El(n:Int):(n != 0)=decide (n≠0):=by
 by_cases h:n=0
 · subst h;rfl
 · rw[decide_eq_true h];simpa using h
noncomputable def ug:fm:=fun ds st K=>match ds with| [.tup xs]=>(match kF xs with|some ns=>K (.bl (ns.any fun n=>decide (n≠0))) st|none=>False)|_=>False
theorem GJ(hc:X.calm=true):bJ X (.builtin "any") (gz ug):=fun pins s σ H xs us Q I rs ⟨α,ds,st,K,G,F',P,r,S,q,k⟩=>by
 unfold ug at q
 split at q
 · rename_i ys
   split at q
   · rename_i ns e
     obtain⟨v,rfl,r1⟩:=ie r rfl
     unfold Rep at r1
     obtain⟨a,vs,rfl,na,h1,h2⟩:=r1
     obtain⟨u,rfl,ru⟩:=vals1 rs
     cases ru
     have hv:=sU h2 e
     subst hv
     obtain⟨its,rv,p,hl⟩:=I.tuple (.of (P.get h1))
     have isT:s.heap.IsTuple a its.toArray:=p
     obtain⟨o,eo,_⟩:=id isT
     refine call_any_walk (wpAny_pyIter_tuple isT ?_)
     have hne:a≠s.heap.objs.size:=Nat.ne_of_lt (Heap.lt_size eo)
     have hn:its.length=ns.length:=by rw[←rv.length,List.length_map]
     have hval:∀(i:Nat) (w:Value),its.toArray[i]?=some w→∃t,w=Value.int (ns.getD i 0) t:=fun i w hw=>mh rv i w (by simpa using hw)
     refine⟨s.heap.objs.size,_,_,_,_,_,fun i=>decide (ns.getD i 0≠0),rfl,Walks.tuple (A:=X.A.in1) (I.ok.hd hc) _ a hne its.toArray,⟨⟨_,Heap.get?_push_size _ rfl,rfl,rfl⟩,jM.push (k:= .t) isT _⟩,?_,?_⟩
     · intro i w s' Q' E' hP hQ
       obtain⟨t,rfl⟩:=hval i w hP
       refine PyProof.Rows.truthy_int ?_
       rw[El]
       exact hQ
     · intro h' tk hk
       have kp:∀b o,s.heap.get? b=some o→h'.get? b=some o:=fun b o q=>hk b o (by
        intro hb
        have:b=s.heap.objs.size:=by simpa using hb
        exact absurd (Heap.lt_size q) (by rw[this];exact Nat.lt_irrefl _)) (Heap.get?_push_of_some _ q)
       have ea:(List.range its.toArray.size).any (fun i=>decide (ns.getD i 0≠0))=ns.any fun n=>decide (n≠0):=by
        rw[List.size_toArray,hn]
        exact range_any ns _ _ fun i x e=>by rw[List.getD_eq_getElem?_getD,e];rfl
       rw[ea]
       exact⟨.bl (ns.any fun n=>decide (n≠0)),H,I.kept (t':=tk) kp,rfl,k.here P q S (by unfold Rep;rfl)⟩
   · exact q.elim
 · exact q.elim
@[irreducible] noncomputable def nc:fm:=ug
theorem Aq(hc:X.calm=true):bJ X (.builtin "any") (gz nc):=by unfold nc;exact GJ hc
end
theorem wX{st:ag}{K:DK}{xs:List D}{ns:List Int}(h:kF xs=some ns)(k:K (.bl (ns.any fun n=>decide (n≠0))) st):nc [.tup xs] st K:=by unfold nc ug;simp only[h];exact k
end L3
namespace L2
open PySem PySem.Spec PyProof.Rows
noncomputable def gw(t:Addr)(K:PySem.W.Frag):PySem.W.Frag:=K.filter fun p=> !(p.1==t)
theorem uP(t:Addr):∀K:PySem.W.Frag,List.lookup t (gw t K)=none
 | []=>rfl
 |(b,x)::K=>by
  have ih:=uP t K
  unfold gw at ih⊢
  rw[List.filter_cons]
  split
  · rename_i h
    have hb:(t==b)=false:=by
     have:b≠t:=by simpa using h
     simpa using fun z:t=b=>this z.symm
    rw[List.lookup_cons,hb]
    exact ih
  · exact ih
theorem g4{t a:Addr}(h:a≠t):∀K:PySem.W.Frag,List.lookup a (gw t K)=List.lookup a K
 | []=>rfl
 |(b,x)::K=>by
  have ih:=g4 h K
  unfold gw at ih⊢
  rw[List.filter_cons,List.lookup_cons]
  split
  · rw[List.lookup_cons]
    cases a==b with
    |true=>rfl
    |false=>exact ih
  · rename_i hb
    have hb:b=t:=by simpa using hb
    have e:(a==b)=false:=by
     rw[hb]
     simpa using h
    rw[e]
    exact ih
theorem GF{t:Addr}{K:PySem.W.Frag}{h:Heap}(X:K.In h):(gw t K).In h:=fun a o e=>X a o (by
 by_cases z:a=t
 · rw[z,uP]at e;cases e
 · rwa [g4 z]at e)
structure Tb(K:PySem.W.Frag)(t:Addr):Prop where
 ob:List.lookup t K=some (PySem.W.tabObj #[])
section
variable {K:PySem.W.Frag}{t:Addr}
theorem Tb.lk(T:Tb K t){a:Addr}{o:Obj}(h:List.lookup a K=some o)(hd:o.data≠ .fields #[]):List.lookup a (gw t K)=some o:=by
 rw[g4 _ K];exact h
 rintro rfl
 rw[T.ob]at h
 cases h
 exact hd rfl
theorem Tb.ns(T:Tb K t){ns:Addr}{x:Str}{v:Option Value}(h:PySem.W.nsIn K ns x=some v):PySem.W.nsIn (gw t K) ns x=some v:=by
 have z:ns≠t:=by
  rintro rfl
  unfold PySem.W.nsIn at h
  rw[T.ob]at h
  cases h
 unfold PySem.W.nsIn at h⊢
 rw[g4 z];exact h
theorem Tb.code(T:Tb K t){cd:Value}{q:Str}(h:PySem.W.codeIn K cd q=true):PySem.W.codeIn (gw t K) cd q=true:=by
 cases cd with
 |ref c=>
  have z:c≠t:=by
   rintro rfl
   unfold PySem.W.codeIn at h
   simp only[T.ob]at h
   cases h
  unfold PySem.W.codeIn at h⊢
  simp only[g4 z];exact h
 |_=>cases h
theorem Tb.hd(T:Tb K t){c p:Addr}(h:PySem.W.codeHdIn K c p=true):PySem.W.codeHdIn (gw t K) c p=true:=by
 have z:c≠t:=by
  rintro rfl
  unfold PySem.W.codeHdIn at h
  rw[T.ob]at h
  cases h
 unfold PySem.W.codeHdIn at h⊢
 rw[g4 z];exact h
theorem Tb.type(T:Tb K t){v x:Value}(h:PySem.W.typeIn K v=some x)(hx:x≠ .none):PySem.W.typeIn (gw t K) v=some x:=by
 cases v with
 |ref a=>
  have z:a≠t:=by
   rintro rfl
   unfold PySem.W.typeIn at h
   simp only[T.ob]at h
   cases h
   exact hx rfl
  unfold PySem.W.typeIn at h⊢
  simp only[g4 z];exact h
 |_=>exact h
theorem Tb.cls(T:Tb K t){C:Addr}{cd:ClassData}(h:PySem.W.clsIn K C=some cd):PySem.W.clsIn (gw t K) C=some cd:=by
 have z:C≠t:=by
  rintro rfl
  unfold PySem.W.clsIn at h
  rw[T.ob]at h
  cases h
 unfold PySem.W.clsIn at h⊢
 rw[g4 z];exact h
theorem Tb.own(T:Tb K t){x:Str}{c:Value}{v:Option Value}(h:PySem.W.ownIn K x c=some v):PySem.W.ownIn (gw t K) x c=some v:=by
 cases c with
 |ref a=>
  have z:a≠t:=by
   rintro rfl
   unfold PySem.W.ownIn at h
   simp only[T.ob]at h
   cases h
  unfold PySem.W.ownIn at h⊢
  simp only[g4 z]
  cases e:List.lookup a K with
  |none=>simp[e]at h
  |some o=>
   obtain⟨c1,d1,da,s1⟩:=o
   cases da with
   |cls cd=>simp only[e]at h;exact T.ns h
   |_=>simp[e]at h
 |_=>exact h
theorem Tb.along(T:Tb K t){x:Str}:∀ {cs:List Value} {v:Option Value},PySem.W.alongIn K x cs=some v→PySem.W.alongIn (gw t K) x cs=some v
 | [],_,h=>by rw[PySem.W.alongIn.eq_1]at h⊢;exact h
 |c::cs,v,h=>by
  rw[PySem.W.alongIn.eq_2]at h⊢
  cases e:PySem.W.ownIn K x c with
  |none=>rw[e]at h;cases h
  |some u=>
   rw[e]at h
   rw[T.own e]
   cases u with
   |some y=>exact h
   |none=>exact T.along h
theorem Tb.find(T:Tb K t){c:Value}{x:Str}{v:Option Value}(h:PySem.W.findIn K c x=some v):PySem.W.findIn (gw t K) c x=some v:=by
 cases c with
 |ref a=>
  have z:a≠t:=by
   rintro rfl
   unfold PySem.W.findIn at h
   simp only[T.ob]at h
   cases h
  unfold PySem.W.findIn at h⊢
  simp only[g4 z]
  cases e:List.lookup a K with
  |none=>simp[e]at h
  |some o=>
   obtain⟨c1,d1,da,s1⟩:=o
   cases da with
   |cls cd=>simp only[e]at h;exact T.along h
   |_=>simp[e]at h
 |_=>exact h
theorem find_none{K:PySem.W.Frag}{x:Str}:PySem.W.findIn K .none x=none:=rfl
theorem Tb.special(T:Tb K t){c:Value}{x:Str}{v:Option Value}(h:PySem.W.specialIn K c x=some v):PySem.W.specialIn (gw t K) c x=some v:=by
 unfold PySem.W.specialIn at h⊢
 cases e:PySem.W.typeIn K c with
 |none=>rw[e]at h;cases h
 |some y=>
  rw[e]at h
  have h':PySem.W.findIn K y x=some v:=h
  rw[T.type e (fun z=>by rw[z,find_none]at h';cases h')]
  exact T.find h'
theorem Tb.mro(T:Tb K t){C:Addr}{b:Value}{v:Bool}(h:PySem.W.mroIn K C b=some v):PySem.W.mroIn (gw t K) C b=some v:=by
 unfold PySem.W.mroIn at h⊢
 cases e:PySem.W.clsIn K C with
 |none=>rw[e]at h;cases h
 |some cd=>rw[T.cls e];rw[e]at h;exact h
theorem Tb.inst(T:Tb K t){c b:Value}{v:Bool}(h:PySem.W.instIn K c b=some v):PySem.W.instIn (gw t K) c b=some v:=by
 unfold PySem.W.instIn at h⊢
 cases e:PySem.W.typeIn K c with
 |none=>rw[e]at h;cases h
 |some y=>
  rw[e]at h
  have h':PySem.W.subIn K y b=some v:=h
  rw[T.type e (fun z=>by rw[z]at h';cases h')]
  show PySem.W.subIn (gw t K) y b=some v
  cases y with
  |ref C=>exact T.mro h'
  |_=>exact h'
theorem Tb.keep(T:Tb K t){f:Value}(h:PySem.W.keepIn K f=true):PySem.W.keepIn (gw t K) f=true:=by
 cases f with
 |ref a=>
  have z:a≠t:=by
   rintro rfl
   unfold PySem.W.keepIn at h
   simp only[T.ob]at h
   cases h
  unfold PySem.W.keepIn at h⊢
  simp only[g4 z]
  cases e:List.lookup a K with
  |none=>simp[e]at h
  |some o=>
   obtain⟨c1,d1,da,s1⟩:=o
   cases da with
   |func f=>rfl
   |cls cd=>
    simp only[e]at h
    have h2:(PySem.W.specialIn K (.ref a) (Str.ofString "__call__")==some (some (Value.builtin "type.__call__")))=true:=h
    show(PySem.W.specialIn (gw t K) (.ref a) (Str.ofString "__call__")==some (some (Value.builtin "type.__call__")))=true
    rw[T.special (eq_of_beq h2)]
    exact beq_self_eq_true _
   |_=>simp[e]at h
 |_=>cases h
theorem Tb.fn(T:Tb K t){v:Value}(h:PySem.W.isFn K v=true):PySem.W.isFn (gw t K) v=true:=by
 unfold PySem.W.isFn at h⊢
 rw[T.type (eq_of_beq h) (by intro z;cases z)]
 exact beq_self_eq_true _
theorem Tb.get(T:Tb K t){C:Addr}{x:Str}(h:PySem.W.plainGet K C x=true):PySem.W.plainGet (gw t K) C x=true:=by
 unfold PySem.W.plainGet at h⊢
 rw[Bool.and_eq_true]at h
 rw[T.find (eq_of_beq h.1),T.find (eq_of_beq h.2)]
 rfl
theorem Tb.dict(T:Tb K t){C:Addr}(h:PySem.W.hasDictIn K C=true):PySem.W.hasDictIn (gw t K) C=true:=by
 unfold PySem.W.hasDictIn at h⊢
 cases e:PySem.W.clsIn K C with
 |none=>rw[e]at h;cases h
 |some cd=>rw[T.cls e];rw[e]at h;exact h
theorem Tb.over(T:Tb K t){C:Addr}(h:PySem.W.plainOver K C=true):PySem.W.plainOver (gw t K) C=true:=by
 unfold PySem.W.plainOver at h⊢
 cases e:PySem.W.clsIn K C with
 |none=>rw[e]at h;cases h
 |some cd=>rw[T.cls e];rw[e]at h;exact h
theorem Tb.makes(T:Tb K t){C:Addr}(h:PySem.W.makesIn K C=true):PySem.W.makesIn (gw t K) C=true:=by
 have z:C≠t:=by
  rintro rfl
  unfold PySem.W.makesIn at h
  rw[T.ob]at h
  cases h
 unfold PySem.W.makesIn at h⊢
 rw[g4 z]
 split at h
 · simp only[Bool.and_eq_true]at h⊢
   exact⟨⟨h.1.1,by rw[T.special (eq_of_beq h.1.2)];exact beq_self_eq_true _⟩,by rw[T.inst (eq_of_beq h.2)];exact beq_self_eq_true _⟩
 · cases h
theorem HB{f:Addr×Obj→Bool}(h:K.all f=true):(gw t K).all f=true:=by
 rw[List.all_eq_true]at h⊢
 exact fun p hp=>h p (List.mem_filter.mp hp).1
end
theorem BO{q:Program}{loose:List Str}{XP:(Str→Option Value)→Heap→Prop}{α:Type}{Yf:Shared→α}{Ya:World→α}{r:PySem.W.RowW}{d:DefRec}{kwd:List (Str×Expr)}{run:Value→List Value→Sem Value}{K0:Params→PySem.W.Frag}
 (h:PySem.W.WalkO q loose XP (fun w hp=>(K0 w.params).In hp) r d kwd run) (hy:∀(w:World) (s₀ s₁:Shared) (args:List PySem.W.WData) (vals:List Value) (as:List Addr),Yf s₀=Ya w→PySem.W.Laid r.records w s₀ s₁ args vals as→(K0 w.params).In s₁.heap):PySem.W.WalkX q loose XP Yf Ya r d kwd run:=
 fun w s₀ s₁ mg mb G y a o pm cd doc dV kV ho hd hcd hD hmg hg args vals as L hpre hlay hrd hwl hlo=>h w s₀ s₁ mg mb G (hy w s₀ s₁ args vals as y L) a o pm cd doc dV kV ho hd hcd hD hmg hg args vals as hpre hlay hrd hwl hlo
end L2
namespace Mx
noncomputable def S:Nat→(Nat→Int)→Int
 |0,_=>0
 |n+1,f=>S n f+f n
theorem bZ{n:Nat}{f g:Nat→Int}(h:∀i,i<n→f i=g i):S n f=S n g:=by
 induction n with
 |zero=>rfl
 |succ n ih=>unfold S;rw[ih fun i hi=>h i (by(first|lia|omega)),h n (by(first|lia|omega))]
theorem oP{n:Nat}{f:Nat→Int}(h:∀i,i<n→f i=0):S n f=0:=by
 induction n with
 |zero=>rfl
 |succ n ih=>unfold S;rw[ih fun i hi=>h i (by(first|lia|omega)),h n (by(first|lia|omega))];rfl
theorem nL(n:Nat)(f g:Nat→Int):S n (fun i=>f i+g i)=S n f+S n g:=by
 induction n with
 |zero=>rfl
 |succ n ih=>unfold S;rw[ih];dsimp only;(first|lia|omega)
theorem o5(n:Nat)(c:Int)(f:Nat→Int):S n (fun i=>c*f i)=c*S n f:=by
 induction n with
 |zero=>unfold S;rw[Int.mul_zero]
 |succ n ih=>unfold S;rw[ih,Int.mul_add]
theorem zl(n:Nat)(c:Int)(f:Nat→Int):S n (fun i=>f i*c)=S n f*c:=by
 induction n with
 |zero=>unfold S;rw[Int.zero_mul]
 |succ n ih=>unfold S;rw[ih,Int.add_mul]
theorem CA(n:Nat)(f:Nat→Int):S n (fun i=> -f i)= -S n f:=by
 induction n with
 |zero=>rfl
 |succ n ih=>unfold S;rw[ih];dsimp only;(first|lia|omega)
theorem zS(m n:Nat)(f:Nat→Nat→Int):S m (fun i=>S n fun j=>f i j)=S n fun j=>S m fun i=>f i j:=by
 induction m with
 |zero=>exact(oP (n:=n) (fun i _=>rfl)).symm
 |succ m ih=>
  have:S n (fun j=>S (m+1) fun i=>f i j)=S n fun j=>(S m fun i=>f i j)+f m j:=bZ fun j _=>rfl
  rw[this,nL,←ih]
  rfl
theorem kU{n:Nat}{k:Nat}(hk:k<n){f:Nat→Int}(h:∀i,i<n→i≠k→f i=0):S n f=f k:=by
 induction n with
 |zero=>(first|lia|omega)
 |succ n ih=>
  unfold S
  by_cases e:k=n
  · subst e
    rw[oP fun i hi=>h i (by(first|lia|omega)) (by(first|lia|omega)),Int.zero_add]
  · rw[ih (by(first|lia|omega)) fun i hi hn=>h i (by(first|lia|omega)) hn,h n (by(first|lia|omega)) (by(first|lia|omega)),Int.add_zero]
noncomputable def dl(i j:Nat):Int:=if i=j then 1 else 0
theorem fu(i:Nat):dl i i=1:=if_pos rfl
theorem fH{i j:Nat}(h:i≠j):dl i j=0:=if_neg h
theorem rq{n k:Nat}(hk:k<n)(f:Nat→Int):S n (fun i=>dl k i*f i)=f k:=by
 rw[kU hk (fun i _ h=>by rw[fH (Ne.symm h),Int.zero_mul]),fu,Int.one_mul]
theorem vm{n k:Nat}(hk:k<n)(f:Nat→Int):S n (fun i=>f i*dl i k)=f k:=by
 rw[kU hk (fun i _ h=>by rw[fH h,Int.mul_zero]),fu,Int.mul_one]
noncomputable abbrev Row:=List Int
noncomputable abbrev Rows:=List (List Int)
noncomputable def E7(r:Row)(j:Nat):Int:=r.getD j 0
noncomputable def g(A:Rows)(i j:Nat):Int:=(A.getD i []).getD j 0
structure cE(m n:Nat)(A:Rows):Prop where
 len:A.length=m
 rj:∀r∈A,r.length=n
theorem bc{α:Type}{l:List α}{i:Nat}{d:α}(h:i<l.length):l.getD i d=l[i]:=by
 rw[List.getD_eq_getElem?_getD,List.getElem?_eq_getElem h];rfl
theorem jP{α:Type}{l:List α}{i:Nat}{d:α}(h:l.length≤i):l.getD i d=d:=by
 rw[List.getD_eq_getElem?_getD,List.getElem?_eq_none h];rfl
theorem Eo{a b:Row}{n:Nat}(ha:a.length=n)(hb:b.length=n)(h:∀j,j<n→a.getD j 0=b.getD j 0):a=b:=by
 refine List.ext_getElem (by(first|lia|omega)) fun i h1 h2=>?_
 have:=h i (by(first|lia|omega))
 rwa [bc h1,bc h2]at this
theorem cE.row{m n:Nat}{A:Rows}(h:cE m n A){i:Nat}(hi:i<m):(A.getD i []).length=n:=by
 have hl:=h.len
 rw[bc (by(first|lia|omega))]
 exact h.rj _ (List.getElem_mem _)
theorem cE.ext{m n:Nat}{A B:Rows}(ha:cE m n A)(hb:cE m n B)(h:∀i j,i<m→j<n→g A i j=g B i j):A=B:=by
 have h1:=ha.len
 have h2:=hb.len
 refine List.ext_getElem (by(first|lia|omega)) fun i hi hj=>?_
 have e1:=ha.row (i:=i) (by(first|lia|omega))
 have e2:=hb.row (i:=i) (by(first|lia|omega))
 have:=Eo e1 e2 fun j hj=>h i j (by(first|lia|omega)) hj
 rwa [bc hi,bc hj]at this
noncomputable def dR(r:Row)(t:Int)(s:Row):Row:=List.zipWith (fun a b=>a+t*b) r s
theorem lD{r s:Row}{t:Int}(h:r.length=s.length):(dR r t s).length=r.length:=by unfold dR;simp[h]
theorem mG{r s:Row}{t:Int}(h:r.length=s.length)(j:Nat):(dR r t s).getD j 0=r.getD j 0+t*s.getD j 0:=by
 unfold dR
 by_cases hj:j<r.length
 · rw[bc (by simp;(first|lia|omega)),bc hj,bc (by(first|lia|omega))];simp
 · rw[jP (by simp;(first|lia|omega)),jP (by(first|lia|omega)),jP (by(first|lia|omega))];simp
theorem dQ(n j:Nat):(List.replicate n (0:Int)).getD j 0=0:=by
 by_cases h:j<n
 · rw[bc (by simpa using h)];simp
 · rw[jP (by simp;(first|lia|omega))]
noncomputable def ja(n i:Nat):Row:=(List.range n).map fun k=>dl k i
noncomputable def units(n:Nat):Rows:=(List.range n).map fun i=>ja n i
theorem range_getD{α:Type}{f:Nat→α}{n i:Nat}{d:α}(h:i<n):((List.range n).map f).getD i d=f i:=by
 rw[bc (by simpa using h)];simp
theorem qk(n:Nat):cE n n (units n):=⟨by simp[units],fun r hr=>by unfold units at hr;obtain⟨i,_,rfl⟩:=List.mem_map.mp hr;simp[ja]⟩
theorem jQ{n i j:Nat}(hi:i<n)(hj:j<n):g (units n) i j=dl i j:=by
 unfold g units ja
 rw[range_getD hi,range_getD hj]
 unfold dl
 by_cases h:i=j
 · subst h;rfl
 · rw[if_neg (Ne.symm h),if_neg h]
noncomputable def se(A:Rows)(j:Nat):Row:=A.map fun r=>r.getD j 0
noncomputable def C8(A:Rows)(n:Nat):Rows:=(List.range n).map fun j=>se A j
noncomputable def HG:Row→Row→Int
 |a::as,b::bs=>a*b+HG as bs
 |_,_=>0
end Mx
namespace Mx
structure TB(n:Nat)(T B:Rows):Prop where
 t:cE n n T
 b:cE n n B
 tb:∀i j,i<n→j<n→S n (fun k=>g T i k*g B k j)=dl i j
 bt:∀i j,i<n→j<n→S n (fun k=>g B i k*g T k j)=dl i j
theorem w_(i j:Nat):dl i j=dl j i:=by
 unfold dl
 by_cases h:i=j
 · rw[if_pos h,if_pos h.symm]
 · rw[if_neg h,if_neg (Ne.symm h)]
noncomputable def sw(i j k:Nat):Nat:=if k=i then j else if k=j then i else k
theorem KD{n i j:Nat}(hi:i<n)(hj:j<n)(hij:i≠j)(f:Nat→Int):S n (fun k=>f (sw i j k))=S n f:=by
 have:S n (fun k=>f (sw i j k))=S n fun k=>f k+(f j-f i)*dl k i+(f i-f j)*dl k j:=bZ fun k _=>by
  unfold sw
  by_cases h1:k=i
  · subst h1;rw[if_pos rfl,fu,fH hij];(first|lia|omega)
  · rw[if_neg h1,fH h1]
    by_cases h2:k=j
    · subst h2;rw[if_pos rfl,fu];(first|lia|omega)
    · rw[if_neg h2,fH h2];(first|lia|omega)
 rw[this,nL,nL,vm (f:=fun _=>f j-f i) hi,vm (f:=fun _=>f i-f j) hj]
 (first|lia|omega)
theorem mP{A:Rows}{i:Nat}{r:Row}(hi:i<A.length)(a k:Nat):g (A.set i r) a k=if a=i then r.getD k 0 else g A a k:=by
 have e:(A.set i r).getD a []=if a=i then r else A.getD a []:=by
  rw[List.getD_eq_getElem?_getD,List.getD_eq_getElem?_getD]
  by_cases h:a=i
  · subst h
    rw[if_pos rfl,List.getElem?_set_self hi];rfl
  · rw[if_neg h,List.getElem?_set_ne (Ne.symm h)]
 unfold g
 rw[e]
 by_cases h:a=i
 · rw[if_pos h,if_pos h]
 · rw[if_neg h,if_neg h]
theorem uI{m n i:Nat}{A:Rows}{r:Row}(h:cE m n A)(hr:r.length=n):cE m n (A.set i r):=⟨by rw[List.length_set];exact h.len,fun q hq=>by
 rcases List.mem_or_eq_of_mem_set hq with z|rfl
 · exact h.rj q z
 · exact hr⟩
end Mx
namespace Mx
noncomputable abbrev Fn:=Nat→Nat→Int
noncomputable def sk(j c:Nat):Nat:=if c<j then c else c+1
noncomputable def sg(j:Nat):Int:=if j%2=0 then 1 else-1
noncomputable def D:Nat→Fn→Int
 |0,_=>1
 |n+1,M=>S (n+1) fun j=>sg j*M 0 j*D n fun r c=>M (r+1) (sk j c)
noncomputable def upd(M:Fn)(i:Nat)(x:Nat→Int):Fn:=fun r c=>if r=i then x c else M r c
theorem aL{M:Fn}{i r:Nat}{x:Nat→Int}(h:r≠i)(c:Nat):upd M i x r c=M r c:=if_neg h
noncomputable def un(j c:Nat):Nat:=if c<j then c else c-1
noncomputable def tr(M:Fn):Fn:=fun r c=>M c r
end Mx
namespace Mx
noncomputable def gx(R:Fn)(p:Nat)(x:Nat→Int)(j:Nat):Int:=D (p+1) fun r c=>if r<p then R r (if c<p then c else j)else x (if c<p then c else j)
noncomputable def bt(R:Fn)(p:Nat)(x:Nat→Int)(k:Nat):Int:=D (p+1) (upd (fun c r=>if r<p then R r c else x c) p (dl k))
noncomputable def cl(p j1 j2 c:Nat):Nat:=if c<p then c else if c=p then j1 else j2
end Mx
namespace Mx
end Mx
namespace Mx
noncomputable def lam(G:Fn)(i j:Nat):Int:=gx G j (G i) j
noncomputable def KC(A:Rows):Fn:=fun i j=>HG (A.getD i []) (A.getD j [])
end Mx
namespace Mx
noncomputable def Jc(G:Fn)(i:Nat):Row:=(List.range (i+1)).map fun j=>lam G i j
noncomputable def Gk(G:Fn)(n:Nat):Rows:=(List.range n).map (Jc G)
end Mx
namespace Mx
noncomputable def RA(A:Rows)(N:Nat):Fn:=fun i j=>if j<N then KC A i j else(A.getD i []).getD (j-N) 0
noncomputable def ev(A:Rows)(N i k c:Nat):Int:=gx (RA A N) k (RA A N i) (N+c)
theorem xN(n:Nat)(a b:Int)(f g:Nat→Int):S n (fun c=>a*f c-b*g c)=a*S n f-b*S n g:=by
 induction n with
 |zero=>show(0:Int)=a*0-b*0;(first|lia|omega)
 |succ n ih=>
  show S n (fun c=>a*f c-b*g c)+(a*f n-b*g n)=a*(S n f+f n)-b*(S n g+g n)
  rw[ih,Int.mul_add,Int.mul_add];(first|lia|omega)
section
variable {A:Rows}{N w:Nat}
end
end Mx
namespace Mx
end Mx
namespace Mx
noncomputable def K5(M:Fn)(k j:Nat)(q:Int):Fn:=fun a b=>if a=k then M a b-q*M j b else M a b
noncomputable def KO(M:Fn)(k j:Nat)(q:Int):Fn:=fun a b=>if b=k then M a b-q*M a j else M a b
noncomputable def tk(G:Fn)(k j:Nat)(q:Int):Fn:=KO (K5 G k j q) k j q
end Mx
namespace Mx
section
variable {G:Fn}{t:Nat}(sym:∀i j,G i j=G j i)
include sym
end
end Mx
namespace Mx
section
variable {A:Rows}{N w:Nat}
theorem cH(hA:cE N w A){i:Nat}(hi:i<N):(A.getD i []).length=w:=hA.rj _ (by have:=hA.len;rw[bc (by(first|lia|omega))];exact List.getElem_mem _)
end
end Mx
namespace Mx
noncomputable def bI(A:Rows)(k:Nat)(q:Int)(j:Nat):Rows:=A.set k (dR (A.getD k []) (-q) (A.getD j []))
noncomputable def bF(A:Rows)(k o:Nat):Rows:=(A.set k (A.getD o [])).set o (A.getD k [])
theorem jO{A:Rows}{k i:Nat}{r:Row}(hk:k<A.length):(A.set k r).getD i []=if i=k then r else A.getD i []:=by
 rw[List.getD_eq_getElem?_getD,List.getElem?_set]
 by_cases h:k=i
 · rw[if_pos h,if_pos (by(first|lia|omega)),if_pos h.symm];rfl
 · rw[if_neg h,if_neg (Ne.symm h),List.getD_eq_getElem?_getD]
theorem Ad{A:Rows}{k j:Nat}{q:Int}:(bI A k q j).length=A.length:=by unfold bI;rw[List.length_set]
theorem qv{A:Rows}{N w k j:Nat}{q:Int}(hA:cE N w A)(hk:k<N)(hj:j<N):cE N w (bI A k q j):=by
 refine⟨Ad.trans hA.len,fun r hr=>?_⟩
 unfold bI at hr
 rcases List.mem_or_eq_of_mem_set hr with h|rfl
 · exact hA.rj r h
 · rw[lD (by rw[cH hA hk,cH hA hj]),cH hA hk]
end Mx
namespace Mx
structure Tn(A0 A U C:Rows)(N w:Nat):Prop where
 isA:cE N w A
 fP:cE N N U
 gD:cE N N C
 ua:∀i c,i<N→c<w→g A i c=S N fun k=>g U i k*g A0 k c
 ub:∀i j,i<N→j<N→S N (fun k=>g U i k*g C j k)=dl i j
 bu:∀i j,i<N→j<N→S N (fun k=>g C k i*g U k j)=dl i j
theorem fg{A:Rows}{N w k j:Nat}{q:Int}(hA:cE N w A)(hk:k<N)(hj:j<N)(i c:Nat):g (bI A k q j) i c=if i=k then g A k c-q*g A j c else g A i c:=by
 unfold g bI
 have hl:=hA.len
 rw[jO (by(first|lia|omega))]
 by_cases h:i=k
 · rw[if_pos h,if_pos h,mG (by rw[cH hA hk,cH hA hj]),Int.neg_mul];(first|lia|omega)
 · rw[if_neg h,if_neg h]
theorem qO(n:Nat)(a b:Int)(f h:Nat→Int):S n (fun c=>a*f c+b*h c)=a*S n f+b*S n h:=by
 rw[nL,o5,o5]
theorem Tn.take{A0 A U C:Rows}{N w k j:Nat}{q:Int}(T:Tn A0 A U C N w)(hk:k<N)(hj:j<N)(hkj:j≠k):Tn A0 (bI A k q j) (bI U k q j) (bI C j (-q) k) N w where
 isA:=qv T.isA hk hj
 fP:=qv T.fP hk hj
 gD:=qv T.gD hj hk
 ua:=fun i c hi hc=>by
  rw[fg T.isA hk hj]
  have e:S N (fun m=>g (bI U k q j) i m*g A0 m c)=S N fun m=>(if i=k then g U k m-q*g U j m else g U i m)*g A0 m c:=bZ fun m _=>by rw[fg T.fP hk hj]
  rw[e]
  by_cases h:i=k
  · simp only[if_pos h]
    rw[T.ua k c hk hc,T.ua j c hj hc]
    have e2:S N (fun m=>(g U k m-q*g U j m)*g A0 m c)=S N fun m=>1*(g U k m*g A0 m c)-q*(g U j m*g A0 m c):=bZ fun m _=>by grind
    rw[e2,xN];(first|lia|omega)
  · simp only[if_neg h]
    exact T.ua i c hi hc
 ub:=fun i l hi hl=>by
  have e:S N (fun m=>g (bI U k q j) i m*g (bI C j (-q) k) l m)=S N fun m=>(if i=k then g U k m-q*g U j m else g U i m)*(if l=j then g C j m- -q*g C k m else g C l m):=bZ fun m _=>by rw[fg T.fP hk hj,fg T.gD hj hk]
  rw[e]
  have djk:dl j k=0:=fH hkj
  by_cases h:i=k
  · by_cases h2:l=j
    · simp only[if_pos h,if_pos h2]
      have e2:S N (fun m=>(g U k m-q*g U j m)*(g C j m- -q*g C k m))=S N fun m=>1*(1*(g U k m*g C j m)+q*(g U k m*g C k m))-q*(1*(g U j m*g C j m)+q*(g U j m*g C k m)):=bZ fun m _=>by grind
      rw[e2,xN,qO,qO,T.ub k j hk hj,T.ub k k hk hk,T.ub j j hj hj,T.ub j k hj hk,h,h2,fu,fu,djk,w_ k j,djk]
      (first|lia|omega)
    · simp only[if_pos h,if_neg h2]
      have e2:S N (fun m=>(g U k m-q*g U j m)*g C l m)=S N fun m=>1*(g U k m*g C l m)-q*(g U j m*g C l m):=bZ fun m _=>by grind
      rw[e2,xN,T.ub k l hk hl,T.ub j l hj hl,h,fH (Ne.symm h2)]
      (first|lia|omega)
  · by_cases h2:l=j
    · simp only[if_neg h,if_pos h2]
      have e2:S N (fun m=>g U i m*(g C j m- -q*g C k m))=S N fun m=>1*(g U i m*g C j m)+q*(g U i m*g C k m):=bZ fun m _=>by grind
      rw[e2,qO,T.ub i j hi hj,T.ub i k hi hk,h2,fH h]
      (first|lia|omega)
    · simp only[if_neg h,if_neg h2]
      exact T.ub i l hi hl
 bu:=fun i l hi hl=>by
  have e:S N (fun m=>g (bI C j (-q) k) m i*g (bI U k q j) m l)=S N fun m=>g C m i*g U m l+((q*(g C k i*g U j l))*dl m j+(-(q*(g C k i*g U j l)))*dl m k):=bZ fun m _=>by
   rw[fg T.fP hk hj,fg T.gD hj hk]
   by_cases h1:m=j
   · have h2:m≠k:=by(first|lia|omega)
     rw[if_pos h1,if_neg h2,h1,fu,fH hkj];grind
   · rw[if_neg h1,fH h1]
     by_cases h2:m=k
     · rw[if_pos h2,h2,fu];grind
     · rw[if_neg h2,fH h2];grind
  rw[e,nL,qO,T.bu i l hi hl]
  have e1:S N (fun c=>dl c j)=1:=by
   rw[kU hj fun i _ h=>fH h,fu]
  have e2:S N (fun c=>dl c k)=1:=by
   rw[kU hk fun i _ h=>fH h,fu]
  rw[e1,e2];(first|lia|omega)
end Mx
namespace Mx
theorem uC{A:Rows}{k o i:Nat}(hk:k<A.length)(ho:o<A.length):(bF A k o).getD i []=A.getD (sw k o i) []:=by
 unfold bF
 rw[jO (by rw[List.length_set];exact ho),jO hk]
 unfold sw
 by_cases h1:i=k
 · rw[if_pos h1,if_pos h1]
   by_cases h2:i=o
   · rw[if_pos h2,←h1,←h2]
   · rw[if_neg h2]
 · rw[if_neg h1,if_neg h1]
   by_cases h2:i=o
   · rw[if_pos h2,if_pos h2]
   · rw[if_neg h2,if_neg h2]
theorem qt{A:Rows}{N w k o:Nat}(hA:cE N w A)(hk:k<N)(ho:o<N):cE N w (bF A k o):=by
 refine⟨by unfold bF;rw[List.length_set,List.length_set];exact hA.len,fun r hr=>?_⟩
 unfold bF at hr
 rcases List.mem_or_eq_of_mem_set hr with h|rfl
 · rcases List.mem_or_eq_of_mem_set h with h|rfl
   · exact hA.rj r h
   · exact cH hA ho
 · exact cH hA hk
theorem i8{A:Rows}{N w k o:Nat}(hA:cE N w A)(hk:k<N)(ho:o<N)(i c:Nat):g (bF A k o) i c=g A (sw k o i) c:=by
 unfold g
 rw[uC (by have:=hA.len;(first|lia|omega)) (by have:=hA.len;(first|lia|omega))]
theorem oQ{k o N i:Nat}(hk:k<N)(ho:o<N)(hi:i<N):sw k o i<N:=by unfold sw;split<;>(try split)<;>assumption
theorem Az(k o x:Nat):sw k o (sw k o x)=x:=by
 unfold sw
 by_cases h1:x=k
 · subst h1
   rw[if_pos rfl]
   by_cases h2:o=x
   · rw[if_pos h2];exact h2
   · rw[if_neg h2,if_pos rfl]
 · rw[if_neg h1]
   by_cases h2:x=o
   · subst h2;rw[if_pos rfl,if_pos rfl]
   · rw[if_neg h2,if_neg h1,if_neg h2]
theorem IG{k o a b:Nat}:dl (sw k o a) (sw k o b)=dl a b:=by
 by_cases h:a=b
 · rw[h,fu,fu]
 · rw[fH h,fH fun z=>h (by rw[←Az k o a,←Az k o b,z])]
theorem Dp(k x:Nat):sw k k x=x:=by
 unfold sw
 by_cases h:x=k
 · rw[if_pos h,h]
 · rw[if_neg h,if_neg h]
theorem Iy{n i j:Nat}(hi:i<n)(hj:j<n)(f:Nat→Int):S n (fun k=>f (sw i j k))=S n f:=by
 by_cases h:i=j
 · subst h;exact bZ fun k _=>by rw[Dp]
 · exact KD hi hj h f
theorem Tn.Cn{A0 A U C:Rows}{N w k o:Nat}(T:Tn A0 A U C N w)(hk:k<N)(ho:o<N):Tn A0 (bF A k o) (bF U k o) (bF C k o) N w where
 isA:=qt T.isA hk ho
 fP:=qt T.fP hk ho
 gD:=qt T.gD hk ho
 ua:=fun i c hi hc=>by
  rw[i8 T.isA hk ho,T.ua _ c (oQ hk ho hi) hc]
  exact bZ fun m _=>by rw[i8 T.fP hk ho]
 ub:=fun i j hi hj=>by
  rw[←IG (k:=k) (o:=o),←T.ub _ _ (oQ hk ho hi) (oQ hk ho hj)]
  exact bZ fun m _=>by rw[i8 T.fP hk ho,i8 T.gD hk ho]
 bu:=fun i j hi hj=>by
  rw[←T.bu i j hi hj,←Iy hk ho fun m=>g C m i*g U m j]
  exact bZ fun m _=>by rw[i8 T.fP hk ho,i8 T.gD hk ho]
noncomputable def gy(A:Rows)(k:Nat):Rows:=A.set k ((A.getD k []).map fun x=> -x)
theorem vN{A:Rows}{N w k:Nat}(hA:cE N w A)(hk:k<N):cE N w (gy A k):=by
 refine⟨by unfold gy;rw[List.length_set];exact hA.len,fun r hr=>?_⟩
 unfold gy at hr
 rcases List.mem_or_eq_of_mem_set hr with h|rfl
 · exact hA.rj r h
 · rw[List.length_map];exact cH hA hk
theorem A6(r:Row)(c:Nat):(r.map fun x=> -x).getD c 0= -r.getD c 0:=by
 rw[List.getD_eq_getElem?_getD,List.getD_eq_getElem?_getD,List.getElem?_map]
 cases r[c]?<;>rfl
theorem jG{A:Rows}{N w k:Nat}(hA:cE N w A)(hk:k<N)(i c:Nat):g (gy A k) i c=if i=k then-g A k c else g A i c:=by
 unfold g gy
 rw[jO (by have:=hA.len;omega)]
 by_cases h:i=k
 · rw[if_pos h,if_pos h,A6]
 · rw[if_neg h,if_neg h]
theorem Tn.neg{A0 A U C:Rows}{N w k:Nat}(T:Tn A0 A U C N w)(hk:k<N):Tn A0 (gy A k) (gy U k) (gy C k) N w where
 isA:=vN T.isA hk
 fP:=vN T.fP hk
 gD:=vN T.gD hk
 ua:=fun i c hi hc=>by
  rw[jG T.isA hk]
  by_cases h:i=k
  · rw[if_pos h,T.ua k c hk hc,←CA]
    exact bZ fun m _=>by rw[jG T.fP hk,if_pos h,Int.neg_mul]
  · rw[if_neg h,T.ua i c hi hc]
    exact bZ fun m _=>by rw[jG T.fP hk,if_neg h]
 ub:=fun i j hi hj=>by
  have e:S N (fun m=>g (gy U k) i m*g (gy C k) j m)=S N fun m=>(if i=k then-1 else 1)*(if j=k then-1 else 1)*(g U i m*g C j m):=bZ fun m _=>by
   rw[jG T.fP hk,jG T.gD hk]
   by_cases h1:i=k<;>by_cases h2:j=k<;>simp only[h1,h2,if_true,if_false]<;>grind
  rw[e,o5,T.ub i j hi hj]
  by_cases h1:i=k
  · by_cases h2:j=k
    · simp[h1,h2]
    · rw[fH (by(first|lia|omega))];simp
  · by_cases h2:j=k
    · rw[fH (by(first|lia|omega))];simp
    · simp[h1,h2]
 bu:=fun i j hi hj=>by
  rw[←T.bu i j hi hj]
  exact bZ fun m _=>by
   rw[jG T.fP hk,jG T.gD hk]
   by_cases h:m=k
   · subst h;rw[if_pos rfl,if_pos rfl];grind
   · rw[if_neg h,if_neg h]
structure i3(A:Rows)(N top p:Nat)(L:List Nat):Prop where
 mem:∀k,k∈L↔top≤k∧k<N∧g A k p≠0
 ord:L.Pairwise fun i j=>(g A i p).natAbs≤(g A j p).natAbs
 nd:L.Nodup
structure B3 where
 A:Rows
 U:Rows
 C:Rows
noncomputable def qn(x y:Int):Int:=(2*x+y).fdiv (2*y)
noncomputable def jB(b:B3)(p k j:Nat):B3:=⟨bI b.A k (qn (g b.A k p) (g b.A j p)) j,bI b.U k (qn (g b.A k p) (g b.A j p)) j,bI b.C j (-(qn (g b.A k p) (g b.A j p))) k⟩
noncomputable def C2(N top p:Nat)(b c:B3):Prop:=∃(L:List Nat) (k j:Nat),i3 b.A N top p (L++[j,k])∧c=jB b p k j
inductive fe(N top p:Nat):B3→B3→Prop
 |refl (b:B3):fe N top p b b
 |head {b c d:B3} (h:C2 N top p b c) (t:fe N top p c d):fe N top p b d
theorem fe.tail{N top p:Nat}{b c d:B3}(h:fe N top p b c)(t:C2 N top p c d):fe N top p b d:=by
 induction h with
 |refl b=>exact .head t (.refl _)
 |head x _ ih=>exact .head x (ih t)
noncomputable def iA(X:Rows)(N top m:Nat):Prop:=∀i c,top≤i→i<N→(g X i c).natAbs≤m
noncomputable def PR(f:Nat→Nat):Nat→Nat
 |0=>1
 |n+1=>PR f n*f n
theorem AD{f:Nat→Nat}(h:∀i,1≤f i):∀n,1≤PR f n
 |0=>Nat.le_refl _
 |n+1=>Nat.mul_le_mul (AD h n) (h n)
theorem u5{f f':Nat→Nat}:∀ {n:Nat},(∀i,i<n→f i=f' i)→PR f n=PR f' n
 |0,_=>rfl
 |n+1,h=>by
  show PR f n*f n=PR f' n*f' n
  rw[u5 fun i hi=>h i (Nat.lt_succ_of_lt hi),h n (Nat.lt_succ_self n)]
theorem zO{f f':Nat→Nat}{k:Nat}:∀ {n:Nat},k<n→(∀i,i≠k→f i=f' i)→PR f n*f' k=PR f' n*f k
 |0,hk,_=>absurd hk (Nat.not_lt_zero _)
 |n+1,hk,h=>by
  show PR f n*f n*f' k=PR f' n*f' n*f k
  by_cases e:k=n
  · subst e
    rw[u5 (n:=k) fun i hi=>h i (Nat.ne_of_lt hi),Nat.mul_assoc,Nat.mul_comm (f k),Nat.mul_assoc]
  · have:=zO (n:=n) (by(first|lia|omega)) h
    rw[h n (Ne.symm e),Nat.mul_right_comm,this,Nat.mul_right_comm]
theorem CZ{f:Nat→Nat}{m top:Nat}(hm:1≤m):∀ {n:Nat},(∀i,i<n→i<top→f i≤1)→(∀i,i<n→f i≤m)→PR f n≤m^(n-top)
 |0,_,_=>by simp[PR]
 |n+1,h1,h2=>by
  have ih:=CZ hm (n:=n) (fun i hi=>h1 i (Nat.lt_succ_of_lt hi)) fun i hi=>h2 i (Nat.lt_succ_of_lt hi)
  show PR f n*f n≤_
  by_cases ht:n<top
  · have z:n+1-top=n-top:=by(first|lia|omega)
    rw[z]
    exact Nat.le_trans (Nat.mul_le_mul ih (h1 n (Nat.lt_succ_self n) ht)) (by rw[Nat.mul_one];exact Nat.le_refl _)
  · have z:n+1-top=(n-top)+1:=by(first|lia|omega)
    rw[z,Nat.pow_succ]
    exact Nat.mul_le_mul ih (h2 n (Nat.lt_succ_self n))
noncomputable def wt(A:Rows)(top p i:Nat):Nat:=if top≤i∧g A i p≠0 then 2*(g A i p).natAbs else 1
theorem zj(A:Rows)(top p i:Nat):1≤wt A top p i:=by
 unfold wt
 split<;>(first|lia|omega)
theorem sx{x y:Int}(hy:y≠0):2*(x-qn x y*y).natAbs≤y.natAbs:=by
 unfold qn
 have h1:=Int.mul_fdiv_add_fmod (2*x+y) (2*y)
 have h2:(2*x+y).fmod (2*y)=2*x+y-2*y*(2*x+y).fdiv (2*y):=by omega
 generalize(2*x+y).fdiv (2*y)=q at*
 have e:2*(x-q*y)=(2*x+y).fmod (2*y)-y:=by rw[h2];grind
 rcases Int.lt_or_gt_of_ne hy with h|h
 · have a0:=Int.neg_fmod_neg (2*x+y) (2*y)
   have a1:=Int.fmod_nonneg_of_pos (-(2*x+y)) (show 0< -(2*y) by omega)
   have a2:=Int.fmod_lt_of_pos (-(2*x+y)) (show 0< -(2*y) by omega)
   omega
 · have a1:=Int.fmod_nonneg_of_pos (2*x+y) (show 0<2*y by omega)
   have a2:=Int.fmod_lt_of_pos (2*x+y) (show 0<2*y by omega)
   omega
theorem Ei{x y:Int}(hy:y≠0)(hxy:y.natAbs≤x.natAbs):(1+(qn x y).natAbs)*(if x-qn x y*y≠0 then 2*(x-qn x y*y).natAbs else 1)≤2*x.natAbs:=by
 have h2:=sx (x:=x) hy
 generalize qn x y=q at*
 generalize hr:x-q*y=r at*
 have hx:x=q*y+r:=by omega
 have hq:(q*y).natAbs=q.natAbs*y.natAbs:=Int.natAbs_mul ..
 by_cases h0:r=0
 · rw[if_neg (fun z=>z h0),Nat.mul_one]
   subst h0
   have hxa:x.natAbs=q.natAbs*y.natAbs:=by rw[←hq,hx];simp
   have hy1:1≤y.natAbs:=by omega
   have hq1:1≤q.natAbs:=by
    rcases Nat.eq_zero_or_pos q.natAbs with z|z
    · rw[z,Nat.zero_mul]at hxa;omega
    · exact z
   have:q.natAbs≤q.natAbs*y.natAbs:=Nat.le_mul_of_pos_right _ hy1
   omega
 · rw[if_pos h0]
   have hr1:1≤r.natAbs:=by omega
   have key:(1+q.natAbs)*r.natAbs≤x.natAbs:=by
    rcases Nat.lt_or_ge q.natAbs 2 with hlt|hge
    · rcases Nat.lt_or_ge q.natAbs 1 with h|h
      · have zq:q=0:=Int.natAbs_eq_zero.mp (Nat.le_zero.mp (Nat.le_of_lt_succ h))
        subst zq
        simp at hx
        subst hx
        simp
      · have z:q.natAbs=1:=Nat.le_antisymm (Nat.le_of_lt_succ hlt) h
        rw[z]
        exact Nat.le_trans h2 hxy
    · have h3:(q*y).natAbs≤x.natAbs+r.natAbs:=by omega
      rw[hq]at h3
      have h4:q.natAbs*(2*r.natAbs)≤q.natAbs*y.natAbs:=Nat.mul_le_mul_left _ h2
      have h5:2*r.natAbs≤q.natAbs*r.natAbs:=Nat.mul_le_mul_right _ hge
      have h6:q.natAbs*(2*r.natAbs)=q.natAbs*r.natAbs+q.natAbs*r.natAbs:=by rw[Nat.mul_left_comm];omega
      rw[Nat.add_mul,Nat.one_mul]
      omega
   have:(1+q.natAbs)*(2*r.natAbs)=2*((1+q.natAbs)*r.natAbs):=by rw[Nat.mul_left_comm]
   omega
structure nR(A0:Rows)(N w top p m:Nat)(b0 b:B3)(gr:Nat):Prop where
 tn:Tn A0 b.A b.U b.C N w
 up:∀i,i<top→b.A.getD i []=b0.A.getD i []∧b.U.getD i []=b0.U.getD i []∧b.C.getD i []=b0.C.getD i []
 lA:iA b.A N top (m*gr)
 lU:iA b.U N top (m*gr)
 lC:iA b.C N top (m*gr)
 zs:∀i c,top≤i→i<N→c<p→g b.A i c=0
 JM:gr*PR (wt b.A top p) N≤PR (wt b0.A top p) N
 pos:1≤gr
 Ik:b=b0∨∃j,top≤j∧j<N∧g b.A j p≠0
theorem qx{X:Rows}{N w top k j m gr:Nat}{q:Int}(hX:cE N w X)(hk:k<N)(hj:j<N)(hkt:top≤k)(hjt:top≤j)(h:iA X N top (m*gr)):iA (bI X k q j) N top (m*(gr*(1+q.natAbs))):=fun i c hi hN=>by
 rw[fg hX hk hj]
 have e:m*(gr*(1+q.natAbs))=m*gr+q.natAbs*(m*gr):=by rw[←Nat.mul_assoc,Nat.mul_add,Nat.mul_one,Nat.mul_comm (m*gr) q.natAbs]
 rw[e]
 by_cases hik:i=k
 · rw[if_pos hik]
   have h1:=h k c hkt hk
   have h2:=h j c hjt hj
   have h3:(q*g X j c).natAbs≤q.natAbs*(m*gr):=by rw[Int.natAbs_mul];exact Nat.mul_le_mul_left _ h2
   exact Nat.le_trans (Int.natAbs_sub_le _ _) (Nat.add_le_add h1 h3)
 · rw[if_neg hik]
   exact Nat.le_trans (h i c hi hN) (Nat.le_add_right _ _)
theorem i9{X:Rows}{k j i:Nat}{q:Int}(hk:k<X.length)(h:i≠k):(bI X k q j).getD i []=X.getD i []:=by
 unfold bI
 rw[jO hk,if_neg h]
theorem half_lt{r y x:Nat}(h:2*r≤y)(h2:y≤x)(h3:0<x):r<x:=by omega
theorem nR.step{A0:Rows}{N w top p m gr:Nat}{b0 b:B3}{L:List Nat}{k j:Nat}(G:nR A0 N w top p m b0 b gr)(hp:p<w)(hL:i3 b.A N top p (L++[j,k])):
 nR A0 N w top p m b0 (jB b p k j) (gr*(1+(qn (g b.A k p) (g b.A j p)).natAbs))∧(g (jB b p k j).A k p).natAbs<(g b.A k p).natAbs∧(∀i,i≠k→g (jB b p k j).A i p=g b.A i p)∧top≤k∧k<N∧top≤j∧j<N∧j≠k∧g b.A j p≠0:=by
 obtain⟨hk1,hk2,hk3⟩:=(hL.mem k).mp (by simp)
 obtain⟨hj1,hj2,hj3⟩:=(hL.mem j).mp (by simp)
 have hord:=hL.ord
 rw[List.pairwise_append]at hord
 have hle:=(List.pairwise_cons.mp hord.2.1).1 k (by simp)
 have hnd:=hL.nd
 rw[List.nodup_append]at hnd
 have hjk:j≠k:=fun z=>(List.nodup_cons.mp hnd.2.1).1 (by rw[z];exact List.mem_singleton.mpr rfl)
 have gk:g (jB b p k j).A k p=g b.A k p-qn (g b.A k p) (g b.A j p)*g b.A j p:=by
  show g (bI b.A k _ j) k p=_
  rw[fg G.tn.isA hk2 hj2,if_pos rfl]
 have gi:∀i,i≠k→g (jB b p k j).A i p=g b.A i p:=fun i hi=>by
  show g (bI b.A k _ j) i p=_
  rw[fg G.tn.isA hk2 hj2,if_neg hi]
 have hrest:=sx (x:=g b.A k p) hj3
 have hgrow:=Ei (x:=g b.A k p) hj3 hle
 refine⟨⟨G.tn.take hk2 hj2 hjk,fun i hi=>?_,qx G.tn.isA hk2 hj2 hk1 hj1 G.lA,qx G.tn.fP hk2 hj2 hk1 hj1 G.lU,?_,fun i c hi hN hc=>?_,?_,?_,.inr ⟨j,hj1,hj2,by rw[gi j hjk];exact hj3⟩⟩,?_,gi,hk1,hk2,hj1,hj2,hjk,hj3⟩
 · obtain⟨a1,a2,a3⟩:=G.up i hi
   refine⟨(i9 (by rw[G.tn.isA.len];exact hk2) (by(first|lia|omega))).trans a1,(i9 (by rw[G.tn.fP.len];exact hk2) (by(first|lia|omega))).trans a2,(i9 (by rw[G.tn.gD.len];exact hj2) (by(first|lia|omega))).trans a3⟩
 · have:=qx (q:= -(qn (g b.A k p) (g b.A j p))) G.tn.gD hj2 hk2 hj1 hk1 G.lC
   rw[Int.natAbs_neg]at this
   exact this
 · show g (bI b.A k _ j) i c=0
   rw[fg G.tn.isA hk2 hj2]
   by_cases h:i=k
   · rw[if_pos h,G.zs k c hk1 hk2 hc,G.zs j c hj1 hj2 hc,Int.mul_zero];rfl
   · rw[if_neg h];exact G.zs i c hi hN hc
 · have e:=zO (f:=wt (jB b p k j).A top p) (f':=wt b.A top p) (k:=k) hk2 fun i hi=>by unfold wt;rw[gi i hi]
   have w1:wt b.A top p k=2*(g b.A k p).natAbs:=by unfold wt;rw[if_pos ⟨hk1,hk3⟩]
   have w2:(1+(qn (g b.A k p) (g b.A j p)).natAbs)*wt (jB b p k j).A top p k≤wt b.A top p k:=by
    rw[w1]
    unfold wt
    rw[gk]
    by_cases h0:g b.A k p-qn (g b.A k p) (g b.A j p)*g b.A j p=0
    · rw[if_neg (fun z=>z.2 h0)]
      rw[if_neg (fun z=>z h0)]at hgrow
      exact hgrow
    · rw[if_pos ⟨hk1,h0⟩]
      rw[if_pos h0]at hgrow
      exact hgrow
   have hw:0<wt b.A top p k:=zj _ _ _ _
   refine Nat.le_of_mul_le_mul_right (c:=wt b.A top p k) ?_ hw
   have s1:gr*(1+(qn (g b.A k p) (g b.A j p)).natAbs)*PR (wt (jB b p k j).A top p) N*wt b.A top p k=gr*PR (wt b.A top p) N*((1+(qn (g b.A k p) (g b.A j p)).natAbs)*wt (jB b p k j).A top p k):=by
    rw[Nat.mul_assoc _ (PR _ N),e]
    simp only[Nat.mul_assoc,Nat.mul_left_comm]
   rw[s1]
   exact Nat.mul_le_mul G.JM w2
 · exact Nat.mul_pos G.pos (by(first|lia|omega))
 · rw[gk];exact half_lt hrest hle (Int.natAbs_pos.mpr hk3)
end Mx
namespace Mx
theorem nR.low{A0:Rows}{N w top p e gr:Nat}{b0 b:B3}(G:nR A0 N w top p (2^e) b0 b gr)(h0:iA b0.A N top (2^e)):2^e*gr≤2^((N-top+1)*(e+1)):=by
 have h1:gr≤PR (wt b0.A top p) N:=Nat.le_trans (Nat.le_mul_of_pos_right _ (AD (zj _ _ _) N)) G.JM
 have h2:PR (wt b0.A top p) N≤(2^(e+1))^(N-top):=CZ Nat.one_le_two_pow (fun i _ ht=>by unfold wt;rw[if_neg (by(first|lia|omega))];exact Nat.le_refl _) fun i hi=>by
  unfold wt
  split
  · rename_i h
    have:=h0 i p h.1 hi
    rw[Nat.pow_succ];(first|lia|omega)
  · exact Nat.one_le_two_pow
 refine Nat.le_trans (Nat.mul_le_mul_left _ (Nat.le_trans h1 h2)) ?_
 rw[←Nat.pow_mul,←Nat.pow_add]
 refine Nat.pow_le_pow_right (by decide) ?_
 have e1:(N-top+1)*(e+1)=(e+1)*(N-top)+(e+1):=by rw[Nat.add_mul,Nat.one_mul,Nat.mul_comm]
 rw[e1]
 (first|lia|omega)
structure h_(A0:Rows)(N w:Nat)(b:B3)(top p:Nat)(ld:Nat→Nat)(e u:Nat):Prop where
 tn:Tn A0 b.A b.U b.C N w
 le:top≤N
 lo:iA b.A N top (2^e)∧iA b.U N top (2^e)∧iA b.C N top (2^e)
 hi:∀i c,i<top→(g b.A i c).natAbs≤2^u∧(g b.U i c).natAbs≤2^u∧(g b.C i c).natAbs≤2^u
 zs:∀i c,top≤i→i<N→c<p→g b.A i c=0
 lead:∀i,i<top→ld i<p∧0<g b.A i (ld i)∧∀c,c<ld i→g b.A i c=0
 mono:∀i j,i<j→j<top→ld i<ld j
 red:∀i j,i<j→j<top→0≤g b.A i (ld j)∧g b.A i (ld j)<g b.A j (ld j)
theorem h_.wZ{A0:Rows}{N w top p e u:Nat}{b:B3}{ld:Nat→Nat}(S:h_ A0 N w b top p ld e u):nR A0 N w top p (2^e) b b 1:=
 ⟨S.tn,fun _ _=>⟨rfl,rfl,rfl⟩,by rw[Nat.mul_one];exact S.lo.1,by rw[Nat.mul_one];exact S.lo.2.1,by rw[Nat.mul_one];exact S.lo.2.2,S.zs,by rw[Nat.one_mul];exact Nat.le_refl _,Nat.le_refl _,.inl rfl⟩
theorem h_.skip{A0:Rows}{N w top p e u:Nat}{b:B3}{ld:Nat→Nat}(S:h_ A0 N w b top p ld e u)(h:i3 b.A N top p []):h_ A0 N w b top (p+1) ld e u:=
 ⟨S.tn,S.le,S.lo,S.hi,fun i c h1 h2 h3=>by
  by_cases hc:c=p
  · subst hc
    exact Classical.byContradiction fun z=>absurd ((h.mem i).mpr ⟨h1,h2,z⟩) (by simp)
  · exact S.zs i c h1 h2 (by omega),fun i hi=>⟨Nat.lt_succ_of_lt (S.lead i hi).1,(S.lead i hi).2⟩,S.mono,S.red⟩
noncomputable def setB(b:B3)(p top r:Nat):B3:=
 if g (bF b.A top r) top p<0 then⟨gy (bF b.A top r) top,gy (bF b.U top r) top,gy (bF b.C top r) top⟩else⟨bF b.A top r,bF b.U top r,bF b.C top r⟩
theorem qA{X:Rows}{N w top r m:Nat}(hX:cE N w X)(ht:top<N)(hr:r<N)(hrt:top≤r)(h:iA X N top m):iA (bF X top r) N top m:=fun i c hi hN=>by
 rw[i8 hX ht hr]
 refine h _ c ?_ (oQ ht hr hN)
 unfold sw
 split
 · exact hrt
 · split
   · exact Nat.le_refl _
   · exact hi
theorem uY{X:Rows}{N w top m:Nat}(hX:cE N w X)(ht:top<N)(h:iA X N top m):iA (gy X top) N top m:=fun i c hi hN=>by
 rw[jG hX ht]
 split
 · rw[Int.natAbs_neg];exact h top c (Nat.le_refl _) ht
 · exact h i c hi hN
theorem qD{X:Rows}{N w top r i:Nat}(hX:cE N w X)(ht:top<N)(hr:r<N)(hrt:top≤r)(hi:i<top):(bF X top r).getD i []=X.getD i []:=by
 rw[uC (by have:=hX.len;(first|lia|omega)) (by have:=hX.len;(first|lia|omega))]
 unfold sw
 rw[if_neg (by(first|lia|omega)),if_neg (by(first|lia|omega))]
theorem uM{X:Rows}{N w top i:Nat}(hX:cE N w X)(ht:top<N)(hi:i<top):(gy X top).getD i []=X.getD i []:=by
 unfold gy
 rw[jO (by have:=hX.len;omega),if_neg (by omega)]
structure mv(A0:Rows)(N w top p m:Nat)(b0 b:B3):Prop where
 tn:Tn A0 b.A b.U b.C N w
 up:∀i,i<top→b.A.getD i []=b0.A.getD i []∧b.U.getD i []=b0.U.getD i []∧b.C.getD i []=b0.C.getD i []
 lo:iA b.A N top m∧iA b.U N top m∧iA b.C N top m
 zs:∀i c,top≤i→i<N→c<p→g b.A i c=0
 tp:0<g b.A top p
 z1:∀i,top<i→i<N→g b.A i p=0
theorem nR.set{A0:Rows}{N w top p m gr r:Nat}{b0 b:B3}(G:nR A0 N w top p m b0 b gr)(hL:i3 b.A N top p [r]):mv A0 N w top p (m*gr) b0 (setB b p top r)∧top≤r∧r<N:=by
 obtain⟨hr1,hr2,hr3⟩:=(hL.mem r).mp (by simp)
 have ht:top<N:=by(first|lia|omega)
 have z:∀i,top≤i→i<N→i≠r→g b.A i p=0:=fun i h1 h2 h3=>Classical.byContradiction fun y=>h3 (by simpa using(hL.mem i).mpr ⟨h1,h2,y⟩)
 have swg:∀i c,g (bF b.A top r) i c=g b.A (sw top r i) c:=fun i c=>i8 G.tn.isA ht hr2 i c
 have gt:g (bF b.A top r) top p=g b.A r p:=by rw[swg];unfold sw;rw[if_pos rfl]
 have T1:=G.tn.Cn ht hr2
 have z1:∀i,top<i→i<N→g (bF b.A top r) i p=0:=fun i h1 h2=>by
  rw[swg]
  unfold sw
  rw[if_neg (by(first|lia|omega))]
  by_cases h:i=r
  · rw[if_pos h];exact z top (Nat.le_refl _) ht (by(first|lia|omega))
  · rw[if_neg h];exact z i (by(first|lia|omega)) h2 h
 have zs:∀i c,top≤i→i<N→c<p→g (bF b.A top r) i c=0:=fun i c h1 h2 h3=>by
  rw[swg]
  refine G.zs _ c ?_ (oQ ht hr2 h2) h3
  unfold sw
  split
  · exact hr1
  · split
    · exact Nat.le_refl _
    · exact h1
 have up:∀i,i<top→(bF b.A top r).getD i []=b0.A.getD i []∧(bF b.U top r).getD i []=b0.U.getD i []∧(bF b.C top r).getD i []=b0.C.getD i []:=fun i hi=>by
  obtain⟨a1,a2,a3⟩:=G.up i hi
  exact⟨(qD G.tn.isA ht hr2 hr1 hi).trans a1,(qD G.tn.fP ht hr2 hr1 hi).trans a2,(qD G.tn.gD ht hr2 hr1 hi).trans a3⟩
 have lo:=And.intro (qA G.tn.isA ht hr2 hr1 G.lA) (And.intro (qA G.tn.fP ht hr2 hr1 G.lU) (qA G.tn.gD ht hr2 hr1 G.lC))
 refine⟨?_,hr1,hr2⟩
 unfold setB
 by_cases hs:g (bF b.A top r) top p<0
 · rw[if_pos hs]
   refine⟨T1.neg ht,fun i hi=>?_,⟨uY T1.isA ht lo.1,uY T1.fP ht lo.2.1,uY T1.gD ht lo.2.2⟩,fun i c h1 h2 h3=>?_,?_,fun i h1 h2=>?_⟩
   · obtain⟨a1,a2,a3⟩:=up i hi
     exact⟨(uM T1.isA ht hi).trans a1,(uM T1.fP ht hi).trans a2,(uM T1.gD ht hi).trans a3⟩
   · show g (gy (bF b.A top r) top) i c=0
     rw[jG T1.isA ht]
     split
     · rw[zs top c (Nat.le_refl _) ht h3];rfl
     · exact zs i c h1 h2 h3
   · show 0<g (gy (bF b.A top r) top) top p
     rw[jG T1.isA ht,if_pos rfl];(first|lia|omega)
   · show g (gy (bF b.A top r) top) i p=0
     rw[jG T1.isA ht,if_neg (by(first|lia|omega))];exact z1 i h1 h2
 · rw[if_neg hs]
   exact⟨T1,up,lo,zs,by show 0<g (bF b.A top r) top p;rw[gt]at hs⊢;(first|lia|omega),z1⟩
noncomputable def iN(p top:Nat):Nat→B3→B3
 |0,b=>b
 |k+1,b=>
  let c:=iN p top k b
  ⟨bI c.A k ((g c.A k p).fdiv (g c.A top p)) top,bI c.U k ((g c.A k p).fdiv (g c.A top p)) top,bI c.C top (-((g c.A k p).fdiv (g c.A top p))) k⟩
structure mB(A0:Rows)(N w top p e u:Nat)(b:B3)(k:Nat)(c:B3):Prop where
 tn:Tn A0 c.A c.U c.C N w
 rA:∀i,k≤i→c.A.getD i []=b.A.getD i []∧c.U.getD i []=b.U.getD i []
 rC:∀i,i≠top→c.C.getD i []=b.C.getD i []
 ah:∀i q,i<k→q<p→g c.A i q=g b.A i q
 rd:∀i,i<k→0≤g c.A i p∧g c.A i p<g c.A top p
 sz:∀i q,i<k→(g c.A i q).natAbs≤2^(u+e+1)∧(g c.U i q).natAbs≤2^(u+e+1)
 sC:∀q,(g c.C top q).natAbs≤2^e+k*2^(u+u)
theorem vP(a:Int){b:Int}(hb:0<b):(a.fdiv b).natAbs≤a.natAbs:=by
 rw[Int.fdiv_eq_ediv_of_nonneg _ (Int.le_of_lt hb)]
 exact Int.natAbs_ediv_le_natAbs a b
theorem wj{a b c:Nat}(h1:a≤2^c)(h2:b≤2^c):a+b≤2^(c+1):=by rw[Nat.pow_succ];omega
theorem rZ{x y:Int}{a b:Nat}(hx:x.natAbs≤a)(hy:y.natAbs≤b):(x-y).natAbs≤a+b:=Nat.le_trans (Int.natAbs_sub_le x y) (Nat.add_le_add hx hy)
theorem mB.step{A0:Rows}{N w top p e u k:Nat}{b c:B3}(I:mB A0 N w top p e u b k c)(hk:k<top)(ht:top<N)(hp:p<w)(htp:0<g b.A top p)(hz:∀q,q<p→g b.A top q=0)
 (hlo:∀q,(g b.A top q).natAbs≤2^e∧(g b.U top q).natAbs≤2^e) (hhi:∀i q,i<top→(g b.A i q).natAbs≤2^u∧(g b.U i q).natAbs≤2^u∧(g b.C i q).natAbs≤2^u):
 mB A0 N w top p e u b (k+1) ⟨bI c.A k ((g c.A k p).fdiv (g c.A top p)) top,bI c.U k ((g c.A k p).fdiv (g c.A top p)) top,bI c.C top (-((g c.A k p).fdiv (g c.A top p))) k⟩:=by
 have hkN:k<N:=by(first|lia|omega)
 have gA:∀i q,k≤i→g c.A i q=g b.A i q:=fun i q hi=>by unfold g;rw[(I.rA i hi).1]
 have gU:∀i q,k≤i→g c.U i q=g b.U i q:=fun i q hi=>by unfold g;rw[(I.rA i hi).2]
 have gC:∀i q,i≠top→g c.C i q=g b.C i q:=fun i q hi=>by unfold g;rw[I.rC i hi]
 have qe:((g c.A k p).fdiv (g c.A top p)).natAbs≤2^u:=by
  rw[gA k p (Nat.le_refl _),gA top p (by(first|lia|omega))]
  exact Nat.le_trans (vP _ htp) (hhi k p hk).1
 have hq:∀x:Int,x.natAbs≤2^e→((g c.A k p).fdiv (g c.A top p)*x).natAbs≤2^(u+e):=fun x hx=>by
  rw[Int.natAbs_mul,Nat.pow_add];exact Nat.mul_le_mul qe hx
 have le1:2^u≤2^(u+e):=Nat.pow_le_pow_right (by decide) (by(first|lia|omega))
 refine⟨I.tn.take hkN ht (by(first|lia|omega)),fun i hi=>?_,fun i hi=>?_,fun i q hi hqp=>?_,fun i hi=>?_,fun i q hi=>?_,fun q=>?_⟩
 · exact⟨(i9 (by rw[I.tn.isA.len];exact hkN) (by(first|lia|omega))).trans (I.rA i (by(first|lia|omega))).1,(i9 (by rw[I.tn.fP.len];exact hkN) (by(first|lia|omega))).trans (I.rA i (by(first|lia|omega))).2⟩
 · exact(i9 (by rw[I.tn.gD.len];exact ht) hi).trans (I.rC i hi)
 · show g (bI c.A k _ top) i q=_
   rw[fg I.tn.isA hkN ht]
   split
   · rename_i h
     rw[gA top q (by(first|lia|omega)),hz q hqp,Int.mul_zero,gA k q (Nat.le_refl _),h];(first|lia|omega)
   · exact I.ah i q (by(first|lia|omega)) hqp
 · show 0≤g (bI c.A k _ top) i p∧g (bI c.A k _ top) i p<g (bI c.A k _ top) top p
   rw[fg I.tn.isA hkN ht,fg I.tn.isA hkN ht,if_neg (show¬top=k by(first|lia|omega))]
   split
   · have h1:=Int.mul_fdiv_add_fmod (g c.A k p) (g c.A top p)
     have htp':0<g c.A top p:=by rw[gA top p (by(first|lia|omega))];exact htp
     have h2:=Int.fmod_nonneg_of_pos (g c.A k p) htp'
     have h3:=Int.fmod_lt_of_pos (g c.A k p) htp'
     rw[Int.mul_comm]at h1
     (first|lia|omega)
   · exact I.rd i (by(first|lia|omega))
 · show(g (bI c.A k _ top) i q).natAbs≤_∧(g (bI c.U k _ top) i q).natAbs≤_
   rw[fg I.tn.isA hkN ht,fg I.tn.fP hkN ht]
   split
   · have a1:=hq (g c.A top q) (by rw[gA top q (by(first|lia|omega))];exact(hlo q).1)
     have a2:=hq (g c.U top q) (by rw[gU top q (by(first|lia|omega))];exact(hlo q).2)
     rw[gA k q (Nat.le_refl _),gU k q (Nat.le_refl _)]
     rw[Nat.pow_succ,Nat.mul_two]
     exact⟨rZ (Nat.le_trans (hhi k q hk).1 le1) a1,rZ (Nat.le_trans (hhi k q hk).2.1 le1) a2⟩
   · exact I.sz i q (by(first|lia|omega))
 · show(g (bI c.C top _ k) top q).natAbs≤_
   rw[fg I.tn.gD ht hkN,if_pos rfl,gC k q (by(first|lia|omega)),Int.neg_mul]
   have a1:=I.sC q
   have a2:((g c.A k p).fdiv (g c.A top p)*g b.C k q).natAbs≤2^(u+u):=by
    rw[Int.natAbs_mul,Nat.pow_add];exact Nat.mul_le_mul qe (hhi k q hk).2.2
   rw[Nat.add_mul,Nat.one_mul,←Nat.add_assoc]
   exact rZ a1 (by rw[Int.natAbs_neg];exact a2)
theorem mB.start{A0:Rows}{N w top p e u:Nat}{b:B3}(T:Tn A0 b.A b.U b.C N w)(h:∀q,(g b.C top q).natAbs≤2^e):mB A0 N w top p e u b 0 b:=
 ⟨T,fun _ _=>⟨rfl,rfl⟩,fun _ _=>rfl,fun _ _ h=>absurd h (Nat.not_lt_zero _),fun _ h=>absurd h (Nat.not_lt_zero _),fun _ _ h=>absurd h (Nat.not_lt_zero _),fun q=>by rw[Nat.zero_mul];exact h q⟩
theorem mv.next{A0:Rows}{N w top p e u e' u':Nat}{b0 b c:B3}{ld:Nat→Nat}(S:h_ A0 N w b0 top p ld e u)(s:mv A0 N w top p (2^e') b0 b)(ht:top<N)(I:mB A0 N w top p e' u b top c)(hN:N≤8)
 (h1:u+e'+1≤u') (h2:u+u+4≤u'):h_ A0 N w c (top+1) (p+1) (fun i=>if i=top then p else ld i) e' u':=by
 have hup:∀i q,i<top→g b.A i q=g b0.A i q:=fun i q hi=>by unfold g;rw[(s.up i hi).1]
 have hA:∀i q,top≤i→g c.A i q=g b.A i q:=fun i q hi=>by unfold g;rw[(I.rA i hi).1]
 have hU:∀i q,top≤i→g c.U i q=g b.U i q:=fun i q hi=>by unfold g;rw[(I.rA i hi).2]
 have hC:∀i q,i≠top→g c.C i q=g b.C i q:=fun i q hi=>by unfold g;rw[I.rC i hi]
 have le:∀ {a x:Nat},a≤2^x→x≤u'→a≤2^u':=fun h hx=>Nat.le_trans h (Nat.pow_le_pow_right (by decide) hx)
 refine⟨I.tn,ht,⟨fun i q hi hN=>?_,fun i q hi hN=>?_,fun i q hi hN=>?_⟩,fun i q hi=>?_,fun i q hi hN hq=>?_,fun i hi=>?_,fun i j hij hj=>?_,fun i j hij hj=>?_⟩
 · rw[hA i q (by(first|lia|omega))];exact s.lo.1 i q (by(first|lia|omega)) hN
 · rw[hU i q (by(first|lia|omega))];exact s.lo.2.1 i q (by(first|lia|omega)) hN
 · rw[hC i q (by(first|lia|omega))];exact s.lo.2.2 i q (by(first|lia|omega)) hN
 · by_cases h:i=top
   · subst h
     refine⟨?_,?_,?_⟩
     · rw[hA i q (Nat.le_refl _)];exact le (s.lo.1 i q (Nat.le_refl _) ht) (by(first|lia|omega))
     · rw[hU i q (Nat.le_refl _)];exact le (s.lo.2.1 i q (Nat.le_refl _) ht) (by(first|lia|omega))
     · have h3:=I.sC q
       have h4:i*2^(u+u)≤2^(u+u+3):=by rw[Nat.pow_add _ _ 3,Nat.mul_comm];exact Nat.mul_le_mul_left _ (by(first|lia|omega))
       have h5:2^(u+u+3)*2≤2^u':=by rw[←Nat.pow_succ];exact Nat.pow_le_pow_right (by decide) h2
       have h6:2^e'*2≤2^u':=by rw[←Nat.pow_succ];exact Nat.pow_le_pow_right (by decide) (by(first|lia|omega))
       (first|lia|omega)
   · have hi':i<top:=by(first|lia|omega)
     refine⟨le (I.sz i q hi').1 h1,le (I.sz i q hi').2 h1,?_⟩
     rw[hC i q h]
     have:g b.C i q=g b0.C i q:=by unfold g;rw[(s.up i hi').2.2]
     rw[this]
     exact le (S.hi i q hi').2.2 (by(first|lia|omega))
 · rw[hA i q (by(first|lia|omega))]
   by_cases h:q=p
   · rw[h];exact s.z1 i (by(first|lia|omega)) hN
   · exact s.zs i q (by(first|lia|omega)) hN (by(first|lia|omega))
 · by_cases h:i=top
   · subst h
     rw[if_pos rfl]
     refine⟨Nat.lt_succ_self p,?_,fun q hq=>?_⟩
     · rw[hA i p (Nat.le_refl _)];exact s.tp
     · rw[hA i q (Nat.le_refl _)];exact s.zs i q (Nat.le_refl _) ht hq
   · have hi':i<top:=by(first|lia|omega)
     rw[if_neg h]
     obtain⟨a1,a2,a3⟩:=S.lead i hi'
     refine⟨Nat.lt_succ_of_lt a1,?_,fun q hq=>?_⟩
     · rw[I.ah i _ hi' a1,hup i _ hi'];exact a2
     · rw[I.ah i _ hi' (Nat.lt_trans hq a1),hup i _ hi'];exact a3 q hq
 · by_cases h:j=top
   · rw[if_pos h,if_neg (by(first|lia|omega))];exact(S.lead i (by(first|lia|omega))).1
   · rw[if_neg h,if_neg (by(first|lia|omega))];exact S.mono i j hij (by(first|lia|omega))
 · by_cases h:j=top
   · subst h
     rw[if_pos rfl]
     exact I.rd i hij
   · have hj':j<top:=by(first|lia|omega)
     rw[if_neg h]
     have:=S.red i j hij hj'
     have hl:=(S.lead j hj').1
     rw[I.ah i _ (by(first|lia|omega)) hl,I.ah j _ hj' hl,hup i _ (by(first|lia|omega)),hup j _ hj']
     exact this
theorem Tn.start{A:Rows}{N w:Nat}(hA:cE N w A):Tn A A (units N) (units N) N w where
 isA:=hA
 fP:=qk N
 gD:=qk N
 ua:=fun i c hi hc=>by
  rw[←rq hi fun k=>g A k c]
  exact bZ fun m hm=>by rw[jQ hi hm]
 ub:=fun i j hi hj=>by
  rw[w_ i j,←rq hi fun k=>dl j k]
  · exact bZ fun m hm=>by rw[jQ hi hm,jQ hj hm]
 bu:=fun i j hi hj=>by
  rw[←vm hi fun k=>dl k j]
  exact bZ fun m hm=>by rw[jQ hm hi,jQ hm hj,Int.mul_comm]
theorem h_.start{A:Rows}{N w e:Nat}(hA:cE N w A)(h:iA A N 0 (2^e)):h_ A N w ⟨A,units N,units N⟩ 0 0 (fun _=>0) e 0:=by
 have hu:iA (units N) N 0 (2^e):=fun i c _ hi=>by
  by_cases hc:c<N
  · rw[jQ hi hc]
    unfold dl
    split
    · exact Nat.one_le_two_pow
    · exact Nat.zero_le _
  · unfold g
    rw[jP (l:=(units N).getD i []) (by rw[cH (qk N) hi];omega)]
    exact Nat.zero_le _
 exact⟨Tn.start hA,Nat.zero_le _,⟨h,hu,hu⟩,fun _ _ h=>absurd h (Nat.not_lt_zero _),fun _ _ _ _ h=>absurd h (Nat.not_lt_zero _),fun _ h=>absurd h (Nat.not_lt_zero _),fun _ _ _ h=>absurd h (Nat.not_lt_zero _),fun _ _ _ h=>absurd h (Nat.not_lt_zero _)⟩
end Mx
namespace Mx
noncomputable def SU(f:Nat→Nat):Nat→Nat
 |0=>0
 |n+1=>SU f n+f n
theorem CI{f f':Nat→Nat}:∀ {n:Nat},(∀i,i<n→f' i≤f i)→SU f' n≤SU f n
 |0,_=>Nat.le_refl _
 |n+1,h=>Nat.add_le_add (CI fun i hi=>h i (Nat.lt_succ_of_lt hi)) (h n (Nat.lt_succ_self n))
theorem Dc{f f':Nat→Nat}{k:Nat}(hlt:f' k<f k):∀ {n:Nat},k<n→(∀i,i<n→f' i≤f i)→SU f' n<SU f n
 |0,hk,_=>absurd hk (Nat.not_lt_zero _)
 |n+1,hk,h=>by
  by_cases e:k=n
  · subst e
    exact Nat.add_lt_add_of_le_of_lt (CI fun i hi=>h i (Nat.lt_succ_of_lt hi)) hlt
  · exact Nat.add_lt_add_of_lt_of_le (Dc hlt (by(first|lia|omega)) fun i hi=>h i (Nat.lt_succ_of_lt hi)) (h n (Nat.lt_succ_self n))
noncomputable def mu(A:Rows)(N p:Nat):Nat:=SU (fun i=>(g A i p).natAbs) N
inductive Fi(N p:Nat):Nat→B3→Nat→B3→Prop
 |none {top:Nat} {b:B3} (h:i3 b.A N top p []):Fi N p top b top b
 |one {top r:Nat} {b c:B3} (h:fe N top p b c) (l:i3 c.A N top p [r]):Fi N p top b (top+1) (iN p top top (setB c p top r))
inductive kr(A:Rows)(N:Nat):Nat→Nat→B3→Prop
 |start:kr A N 0 0 ⟨A,units N,units N⟩
 |next {p t t':Nat} {b b':B3} (h:kr A N p t b) (c:Fi N p t b t' b'):kr A N (p+1) t' b'
noncomputable def Ez(N e0:Nat):Nat→Nat
 |0=>e0
 |t+1=>(N-t+1)*(Ez N e0 t+1)
noncomputable def Vz(N e0:Nat):Nat→Nat
 |0=>0
 |t+1=>Vz N e0 t+Vz N e0 t+Ez N e0 (t+1)+5
end Mx
namespace Mx
noncomputable def bq(X:Rows)(n w:Nat)(v:Nat→Int):Prop:=∃z:Nat→Int,∀c,c<w→v c=S n fun k=>z k*g X k c
theorem bq.row{X:Rows}{n w k:Nat}(hk:k<n):bq X n w (g X k):=⟨fun i=>dl k i,fun c _=>(rq hk fun i=>g X i c).symm⟩
theorem bq.sub{X:Rows}{n w:Nat}{u v:Nat→Int}(hu:bq X n w u)(hv:bq X n w v):bq X n w fun c=>u c-v c:=by
 obtain⟨y,hy⟩:=hu
 obtain⟨z,hz⟩:=hv
 refine⟨fun k=>y k-z k,fun c hc=>?_⟩
 show u c-v c=S n fun k=>(y k-z k)*g X k c
 rw[hy c hc,hz c hc,Int.sub_eq_add_neg,←CA,←nL]
 exact bZ fun k _=>by rw[Int.sub_mul,Int.sub_eq_add_neg]
theorem bq.trans{X Y:Rows}{m n w:Nat}{v:Nat→Int}(h:∀k,k<m→bq Y n w (g X k))(hv:bq X m w v):bq Y n w v:=by
 obtain⟨z,hz⟩:=hv
 have h':∀k,∃y:Nat→Int,k<m→∀c,c<w→g X k c=S n fun i=>y i*g Y i c:=fun k=>by
  by_cases hk:k<m
  · obtain⟨y,hy⟩:=h k hk
    exact⟨y,fun _=>hy⟩
  · exact⟨fun _=>0,fun h=>absurd h hk⟩
 refine⟨fun i=>S m fun k=>z k*Classical.choose (h' k) i,fun c hc=>?_⟩
 rw[hz c hc]
 have e1:S m (fun k=>z k*g X k c)=S m fun k=>S n fun i=>z k*Classical.choose (h' k) i*g Y i c:=bZ fun k hk=>by
  rw[Classical.choose_spec (h' k) hk c hc,←o5]
  exact bZ fun i _=>(Int.mul_assoc _ _ _).symm
 rw[e1,zS]
 exact bZ fun i _=>zl _ _ _
structure ck(X:Rows)(n w:Nat)(ld:Nat→Nat):Prop where
 lead:∀i,i<n→ld i<w∧0<g X i (ld i)∧∀c,c<ld i→g X i c=0
 mono:∀i j,i<j→j<n→ld i<ld j
theorem ck.inj{X:Rows}{n w:Nat}{ld:Nat→Nat}(s:ck X n w ld){i j:Nat}(hi:i<n)(hj:j<n)(h:ld i=ld j):i=j:=by
 rcases Nat.lt_trichotomy i j with q|q|q
 · exact absurd h (Nat.ne_of_lt (s.mono i j q hj))
 · exact q
 · exact absurd h.symm (Nat.ne_of_lt (s.mono j i q hi))
theorem ck.lt{X:Rows}{n w:Nat}{ld:Nat→Nat}(s:ck X n w ld){i j:Nat}(hi:i<n)(hj:j<n)(h:ld i<ld j):i<j:=by
 rcases Nat.lt_trichotomy i j with q|q|q
 · exact q
 · rw[q]at h;exact absurd h (Nat.lt_irrefl _)
 · exact absurd (Nat.lt_trans h (s.mono j i q hi)) (Nat.lt_irrefl _)
theorem ck.gone{X:Rows}{n w q:Nat}{ld:Nat→Nat}{v z:Nat→Int}(s:ck X n w ld)(hz:∀c,c<w→v c=S n fun k=>z k*g X k c)(h0:∀c,c<q→v c=0)(k:Nat):k<n→ld k<q→z k=0:=by
 induction k using Nat.strongRecOn with
 |ind k ih=>
  intro hk hq
  obtain⟨h1,h2,h3⟩:=s.lead k hk
  have e:=hz (ld k) h1
  rw[h0 _ hq,kU hk fun i hi ne=>?_]at e
  · exact(Int.mul_eq_zero.mp e.symm).resolve_right (Int.ne_of_gt h2)
  · rcases Nat.lt_or_gt_of_ne ne with l|l
    · rw[ih i l hi (Nat.lt_trans (s.mono i k l hk) hq),Int.zero_mul]
    · rw[(s.lead i hi).2.2 _ (s.mono k i l hi),Int.mul_zero]
theorem ck.at{X:Rows}{n w q:Nat}{ld:Nat→Nat}{v:Nat→Int}(s:ck X n w ld)(hv:bq X n w v)(hq:q<w)(h0:∀c,c<q→v c=0):(∃i,i<n∧ld i=q∧g X i q∣v q)∨v q=0:=by
 obtain⟨z,hz⟩:=hv
 have go:∀k,k<n→ld k≠q→z k*g X k q=0:=fun k hk ne=>by
  rcases Nat.lt_or_gt_of_ne ne with l|l
  · rw[s.gone hz h0 k hk l,Int.zero_mul]
  · rw[(s.lead k hk).2.2 _ l,Int.mul_zero]
 by_cases h:∃i,i<n∧ld i=q
 · obtain⟨i,hi,e⟩:=h
   refine .inl ⟨i,hi,e,z i,?_⟩
   rw[hz q hq,kU hi fun k hk ne=>go k hk fun z=>ne (s.inj hk hi (z.trans e.symm)),Int.mul_comm]
 · refine .inr ?_
   rw[hz q hq]
   exact oP fun k hk=>go k hk fun e=>h ⟨k,hk,e⟩
theorem ck.sees{X Y:Rows}{n m w:Nat}{ld ld':Nat→Nat}(sX:ck X n w ld)(sY:ck Y m w ld')(h:∀k,k<n→bq Y m w (g X k))(i:Nat)(hi:i<n):∃j,j<m∧ld' j=ld i∧g Y j (ld i)∣g X i (ld i):=by
 obtain⟨h1,h2,h3⟩:=sX.lead i hi
 rcases sY.at (h i hi) h1 h3 with q|q
 · exact q
 · rw[q]at h2;exact absurd h2 (by decide)
theorem ck.same{X Y:Rows}{n m w:Nat}{ld ld':Nat→Nat}(sX:ck X n w ld)(sY:ck Y m w ld')(h1:∀k,k<n→bq Y m w (g X k))(h2:∀k,k<m→bq X n w (g Y k))(i:Nat):i<n→i<m∧ld' i=ld i∧g Y i (ld i)=g X i (ld i):=by
 induction i using Nat.strongRecOn with
 |ind i ih=>
  intro hi
  obtain⟨j,hj,ej,dj⟩:=sX.sees sY h1 i hi
  have e:j=i:=by
   rcases Nat.lt_trichotomy j i with l|l|l
   · have:=(ih j l (Nat.lt_trans l hi)).2.1
     exact absurd (this.symm.trans ej) (Nat.ne_of_lt (sX.mono j i l hi))
   · exact l
   · obtain⟨k,hk,ek,_⟩:=sY.sees sX h2 i (Nat.lt_trans l hj)
     have lk:k<i:=sX.lt hk hi (by rw[ek,←ej];exact sY.mono i j l hj)
     have:=(ih k lk hk).2.1
     exact absurd (this.trans ek) (Nat.ne_of_lt (sY.mono k i lk (Nat.lt_trans l hj)))
  subst e
  refine⟨hj,ej,?_⟩
  obtain⟨k,hk,ek,dk⟩:=sY.sees sX h2 j hj
  have:=sX.inj hk hi (ek.trans ej)
  subst this
  rw[ej]at dk
  exact Int.dvd_antisymm (by rw[←ej];exact Int.le_of_lt (sY.lead k hj).2.1) (Int.le_of_lt (sX.lead k hi).2.1) dj dk
theorem ck.many{X Y:Rows}{n m w:Nat}{ld ld':Nat→Nat}(sX:ck X n w ld)(sY:ck Y m w ld')(h1:∀k,k<n→bq Y m w (g X k))(h2:∀k,k<m→bq X n w (g Y k)):n=m:=by
 refine Nat.le_antisymm ?_ ?_
 · cases n with
   |zero=>exact Nat.zero_le _
   |succ n=>exact(sX.same sY h1 h2 n (Nat.lt_succ_self n)).1
 · cases m with
   |zero=>exact Nat.zero_le _
   |succ m=>exact(sY.same sX h2 h1 m (Nat.lt_succ_self m)).1
noncomputable def oF(X:Rows)(n:Nat)(ld:Nat→Nat):Prop:=∀i j,i<j→j<n→0≤g X i (ld j)∧g X i (ld j)<g X j (ld j)
theorem ck.only{X Y:Rows}{n m w:Nat}{ld ld':Nat→Nat}(sX:ck X n w ld)(sY:ck Y m w ld')(h1:∀k,k<n→bq Y m w (g X k))(h2:∀k,k<m→bq X n w (g Y k))(rX:oF X n ld)(rY:oF Y m ld'){i:Nat}(hi:i<n)(c:Nat):c<w→g X i c=g Y i c:=by
 induction c using Nat.strongRecOn with
 |ind c ih=>
  intro hc
  obtain⟨im,il,ig⟩:=sX.same sY h1 h2 i hi
  have hv:bq X n w fun c=>g X i c-g Y i c:=(bq.row hi).sub (h2 i im)
  rcases sX.at hv hc fun d hd=>by rw[ih d hd (Nat.lt_trans hd hc),Int.sub_self]with⟨j,hj,rfl,d⟩|q
  · obtain⟨jm,jl,jg⟩:=sX.same sY h1 h2 j hj
    rcases Nat.lt_trichotomy i j with l|l|l
    · have a:=rX i j l hj
      have b:=rY i j l jm
      rw[jl,jg]at b
      exact Int.eq_of_sub_eq_zero (Int.eq_zero_of_dvd_of_natAbs_lt_natAbs d (by(first|lia|omega)))
    · subst l
      exact ig.symm
    · rw[(sX.lead i hi).2.2 _ (sX.mono j i l hi),(sY.lead i im).2.2 _ (by rw[il];exact sX.mono j i l hi)]
  · exact Int.eq_of_sub_eq_zero q
end Mx
namespace Mx
theorem fe.wZ{A0:Rows}{N w top p m:Nat}{b0 b c:B3}(hp:p<w)(h:fe N top p b c):∀ {gr:Nat},nR A0 N w top p m b0 b gr→∃gr',nR A0 N w top p m b0 c gr':=by
 induction h with
 |refl b=>exact fun G=>⟨_,G⟩
 |head s _ ih=>
  intro gr G
  obtain⟨L,k,j,hL,rfl⟩:=s
  exact ih (G.step hp hL).1
theorem mv.mono{A0:Rows}{N w top p m m':Nat}{b0 b:B3}(s:mv A0 N w top p m b0 b)(h:m≤m'):mv A0 N w top p m' b0 b:=
 ⟨s.tn,s.up,⟨fun i c h1 h2=>Nat.le_trans (s.lo.1 i c h1 h2) h,fun i c h1 h2=>Nat.le_trans (s.lo.2.1 i c h1 h2) h,fun i c h1 h2=>Nat.le_trans (s.lo.2.2 i c h1 h2) h⟩,s.zs,s.tp,s.z1⟩
theorem mv.CC{A0:Rows}{N w top p m:Nat}{b0 b:B3}(s:mv A0 N w top p m b0 b){i:Nat}(hi:i<top)(q:Nat):g b.A i q=g b0.A i q∧g b.U i q=g b0.U i q∧g b.C i q=g b0.C i q:=by
 obtain⟨a1,a2,a3⟩:=s.up i hi
 unfold g
 rw[a1,a2,a3]
 exact⟨rfl,rfl,rfl⟩
theorem h_.one{A0:Rows}{N w t p e u r:Nat}{b c:B3}{ld:Nat→Nat}(S:h_ A0 N w b t p ld e u)(hp:p<w)(h:fe N t p b c)(l:i3 c.A N t p [r]):
 mv A0 N w t p (2^((N-t+1)*(e+1))) b (setB c p t r)∧t<N∧∀k,k≤t→mB A0 N w t p ((N-t+1)*(e+1)) u (setB c p t r) k (iN p t k (setB c p t r)):=by
 obtain⟨gr,G⟩:=h.wZ hp S.wZ
 obtain⟨s,h1,h2⟩:=G.set l
 have s1:=s.mono (G.low S.lo.1)
 have ht:t<N:=Nat.lt_of_le_of_lt h1 h2
 refine⟨s1,ht,fun k=>?_⟩
 induction k with
 |zero=>exact fun _=>mB.start s1.tn fun q=>s1.lo.2.2 t q (Nat.le_refl _) ht
 |succ k ih=>
  intro hk
  refine(ih (Nat.le_of_lt hk)).step hk ht hp s1.tp (fun q hq=>s1.zs t q (Nat.le_refl _) ht hq) (fun q=>⟨s1.lo.1 t q (Nat.le_refl _) ht,s1.lo.2.1 t q (Nat.le_refl _) ht⟩) fun i q hi=>?_
  obtain⟨a1,a2,a3⟩:=s1.CC hi q
  rw[a1,a2,a3]
  exact S.hi i q hi
theorem kr.Cm{A:Rows}{N w e0:Nat}(hA:cE N w A)(hlo:iA A N 0 (2^e0))(hN:N≤8){p t:Nat}{b:B3}(h:kr A N p t b):p≤w→∃ld,h_ A N w b t p ld (Ez N e0 t) (Vz N e0 t):=by
 induction h with
 |start=>exact fun _=>⟨_,h_.start hA hlo⟩
 |next _ c ih=>
  intro hp
  obtain⟨ld,S⟩:=ih (Nat.le_of_lt hp)
  cases c with
  |none l=>exact⟨ld,S.skip l⟩
  |one g l=>
   obtain⟨s1,ht,I⟩:=S.one hp g l
   exact⟨_,mv.next (e':=Ez N e0 (_+1)) (u':=Vz N e0 (_+1)) S s1 ht (I _ (Nat.le_refl _)) hN (by show _≤Vz N e0 _+Vz N e0 _+Ez N e0 (_+1)+5;(first|lia|omega)) (by show _≤Vz N e0 _+Vz N e0 _+Ez N e0 (_+1)+5;(first|lia|omega))⟩
noncomputable def Sm(b:B3)(N m:Nat):Prop:=∀i c,i<N→(g b.A i c).natAbs≤m∧(g b.U i c).natAbs≤m∧(g b.C i c).natAbs≤m
structure y6(N p t z:Nat)(b:B3):Prop where
 ga:∀c,fe N t p b c→Sm c N (2^z)
 lo:∀c r k,fe N t p b c→i3 c.A N t p [r]→k≤t→Sm (iN p t k (setB c p t r)) N (2^z)
theorem h_.yZ{A0:Rows}{N w t p e u z:Nat}{b:B3}{ld:Nat→Nat}(S:h_ A0 N w b t p ld e u)(hp:p<w)(hN:N≤8)(hz:u+u+(N-t+1)*(e+1)+5≤z):y6 N p t z b:=by
 have p1:2^u≤2^z:=Nat.pow_le_pow_right (by decide) (by(first|lia|omega))
 have p2:2^((N-t+1)*(e+1))≤2^z:=Nat.pow_le_pow_right (by decide) (by(first|lia|omega))
 have p3:2^(u+(N-t+1)*(e+1)+1)≤2^z:=Nat.pow_le_pow_right (by decide) (by(first|lia|omega))
 refine⟨fun c h i q hi=>?_,fun c r k h l hk i q hi=>?_⟩
 · obtain⟨gr,G⟩:=h.wZ hp S.wZ
   by_cases ht:i<t
   · obtain⟨a1,a2,a3⟩:=G.up i ht
     have:=S.hi i q ht
     unfold g at this⊢
     rw[a1,a2,a3]
     exact⟨Nat.le_trans this.1 p1,Nat.le_trans this.2.1 p1,Nat.le_trans this.2.2 p1⟩
   · have ht':=Nat.le_of_not_lt ht
     have w1:=Nat.le_trans (G.low S.lo.1) p2
     exact⟨Nat.le_trans (G.lA i q ht' hi) w1,Nat.le_trans (G.lU i q ht' hi) w1,Nat.le_trans (G.lC i q ht' hi) w1⟩
 · obtain⟨s,ht,I'⟩:=S.one hp h l
   have I:=I' k hk
   have aA:(g (iN p t k (setB c p t r)).A i q).natAbs≤2^z∧(g (iN p t k (setB c p t r)).U i q).natAbs≤2^z:=by
    by_cases hik:i<k
    · exact⟨Nat.le_trans (I.sz i q hik).1 p3,Nat.le_trans (I.sz i q hik).2 p3⟩
    · obtain⟨b1,b2⟩:=I.rA i (Nat.le_of_not_lt hik)
      unfold g
      rw[b1,b2]
      by_cases hit:i<t
      · obtain⟨a1,a2,a3⟩:=s.CC hit q
        have:=S.hi i q hit
        rw[←a1,←a2]at this
        exact⟨Nat.le_trans this.1 p1,Nat.le_trans this.2.1 p1⟩
      · have hit':=Nat.le_of_not_lt hit
        exact⟨Nat.le_trans (s.lo.1 i q hit' hi) p2,Nat.le_trans (s.lo.2.1 i q hit' hi) p2⟩
   refine⟨aA.1,aA.2,?_⟩
   by_cases hit:i=t
   · subst hit
     refine Nat.le_trans (I.sC q) ?_
     have f1:2^((N-i+1)*(e+1))≤2^(u+u+(N-i+1)*(e+1)):=Nat.pow_le_pow_right (by decide) (by(first|lia|omega))
     have f2:k*2^(u+u)≤8*2^(u+u+(N-i+1)*(e+1)):=Nat.mul_le_mul (by(first|lia|omega)) (Nat.pow_le_pow_right (by decide) (by(first|lia|omega)))
     have f3:2^(u+u+(N-i+1)*(e+1)+5)≤2^z:=Nat.pow_le_pow_right (by decide) hz
     rw[Nat.pow_add _ _ 5]at f3
     (first|lia|omega)
   · have:=I.rC i hit
     unfold g
     rw[this]
     by_cases hlt:i<t
     · have a:=(s.CC hlt q).2.2
       have:=(S.hi i q hlt).2.2
       rw[←a]at this
       exact Nat.le_trans this p1
     · exact Nat.le_trans (s.lo.2.2 i q (Nat.le_of_not_lt hlt) hi) p2
theorem IE{x y:Int}(hy:y≠0):(qn x y).natAbs≤x.natAbs+y.natAbs:=by
 have h:=sx (x:=x) hy
 have h2:(qn x y*y).natAbs=(qn x y).natAbs*y.natAbs:=Int.natAbs_mul _ _
 have h3:(qn x y).natAbs≤(qn x y).natAbs*y.natAbs:=Nat.le_mul_of_pos_right _ (Int.natAbs_pos.mpr hy)
 generalize qn x y*y=t at h h2
 omega
end Mx
namespace Mx
theorem kr.yZ{A:Rows}{N w e0 z:Nat}(hA:cE N w A)(hlo:iA A N 0 (2^e0))(hN:N≤8)(hz:∀t,t≤N→Vz N e0 t≤z){p t:Nat}{b:B3}(hp:p<w)(h:kr A N p t b):y6 N p t z b:=by
 obtain⟨ld,S⟩:=h.Cm hA hlo hN (Nat.le_of_lt hp)
 by_cases ht:t<N
 · exact S.yZ hp hN (hz (t+1) ht)
 · have hle:=S.le
   have e:N=t:=by(first|lia|omega)
   have nolive:∀ {X:Rows} {L:List Nat} {k:Nat},i3 X N t p L→k∈L→False:=fun h hk=>by
    have:=(h.mem _).mp hk
    (first|lia|omega)
   refine⟨fun c g=>?_,fun c r k g l hk=>(nolive l (List.mem_singleton.mpr rfl)).elim⟩
   cases g with
   |refl=>
    have p1:2^Vz N e0 t≤2^z:=Nat.pow_le_pow_right (by decide) (hz t hle)
    exact fun i q hi=>⟨Nat.le_trans (S.hi i q (by(first|lia|omega))).1 p1,Nat.le_trans (S.hi i q (by(first|lia|omega))).2.1 p1,Nat.le_trans (S.hi i q (by(first|lia|omega))).2.2 p1⟩
   |head s _=>
    obtain⟨L,k,j,hL,_⟩:=s
    exact(nolive (k:=k) hL (by simp)).elim
end Mx
namespace Mx
theorem CJ{n:Nat}{f:Nat→Int}:∀ {N:Nat},n≤N→(∀i,n≤i→i<N→f i=0)→S N f=S n f
 |0,h,_=>by rw[Nat.le_zero.mp h]
 |N+1,h,z=>by
  by_cases e:n=N+1
  · rw[e]
  · have hn:n≤N:=by(first|lia|omega)
    show S N f+f N=_
    rw[z N hn (Nat.lt_succ_self N),Int.add_zero]
    exact CJ hn fun i h1 h2=>z i h1 (Nat.lt_succ_of_lt h2)
theorem h_.qY{A:Rows}{N w top e u:Nat}{c:B3}{ld:Nat→Nat}(s:h_ A N w c top w ld e u):ck c.A top w ld∧oF c.A top ld:=⟨⟨s.lead,s.mono⟩,s.red⟩
theorem h_.in{A:Rows}{N w top e u:Nat}{c:B3}{ld:Nat→Nat}(s:h_ A N w c top w ld e u)(k:Nat)(hk:k<top):bq A N w (g c.A k):=
 ⟨g c.U k,fun q hq=>s.tn.ua k q (Nat.lt_of_lt_of_le hk s.le) hq⟩
theorem h_.out{A:Rows}{N w top e u:Nat}{c:B3}{ld:Nat→Nat}(s:h_ A N w c top w ld e u)(k:Nat)(hk:k<N):bq c.A top w (g A k):=by
 refine⟨fun i=>g c.C i k,fun q hq=>?_⟩
 have e1:S N (fun i=>g c.C i k*g c.A i q)=g A k q:=by
  have:S N (fun i=>g c.C i k*g c.A i q)=S N fun i=>S N fun j=>g c.C i k*g c.U i j*g A j q:=bZ fun i hi=>by
   rw[s.tn.ua i q hi hq,←o5]
   exact bZ fun j _=>(Int.mul_assoc _ _ _).symm
  rw[this,zS]
  have e2:S N (fun j=>S N fun i=>g c.C i k*g c.U i j*g A j q)=S N fun j=>dl k j*g A j q:=bZ fun j hj=>by
   rw[zl,s.tn.bu k j hk hj]
  rw[e2,rq hk fun j=>g A j q]
 rw[←e1]
 exact CJ s.le fun i h1 h2=>by rw[s.zs i q h1 h2 hq,Int.mul_zero]
theorem Ew{X:Rows}{n i q:Nat}(h:i<n):g (X.take n) i q=g X i q:=by
 unfold g
 rw[List.getD_eq_getElem?_getD (l:=X.take n),List.getD_eq_getElem?_getD (l:=X),List.getElem?_take_of_lt h]
theorem A5{X:Rows}{N w n:Nat}(hX:cE N w X)(h:n≤N):cE n w (X.take n):=
 ⟨by rw[List.length_take,hX.len];(first|lia|omega),fun r hr=>hX.rj r (List.mem_of_mem_take hr)⟩
theorem h_.FA{A F:Rows}{N w n top e u:Nat}{c:B3}{ld ld':Nat→Nat}(s:h_ A N w c top w ld e u)(hF:cE n w F)(sF:ck F n w ld')(rF:oF F n ld')(h1:∀k,k<N→bq F n w (g A k))(h2:∀k,k<n→bq A N w (g F k)):c.A.take top=F:=by
 have l1:∀k,k<top→bq F n w (g c.A k):=fun k hk=>bq.trans h1 (s.in k hk)
 have l2:∀k,k<n→bq c.A top w (g F k):=fun k hk=>bq.trans s.out (h2 k hk)
 have e:=s.qY.1.many sF l1 l2
 subst e
 refine(A5 s.tn.isA s.le).ext hF fun i q hi hq=>?_
 rw[Ew hi]
 exact s.qY.1.only sF l1 l2 s.qY.2 rF hi q hq
end Mx
namespace Mx
theorem bq.oE{X:Rows}{n w:Nat}{u v:Nat→Int}(x:Int)(hu:bq X n w u)(hv:bq X n w v):bq X n w fun c=>u c+x*v c:=by
 obtain⟨y,hy⟩:=hu
 obtain⟨z,hz⟩:=hv
 refine⟨fun k=>y k+x*z k,fun c hc=>?_⟩
 show u c+x*v c=S n fun k=>(y k+x*z k)*g X k c
 rw[hy c hc,hz c hc,←o5,←nL]
 exact bZ fun k _=>by rw[Int.add_mul,Int.mul_assoc]
theorem bq.eq{X:Rows}{n w:Nat}{u v:Nat→Int}(hu:bq X n w u)(h:∀c,c<w→v c=u c):bq X n w v:=by
 obtain⟨y,hy⟩:=hu
 exact⟨y,fun c hc=>(h c hc).trans (hy c hc)⟩
structure d4(X:Rows)(n:Nat)(Y:Rows)(m w:Nat):Prop where
 to:∀k,k<n→bq Y m w (g X k)
 of:∀k,k<m→bq X n w (g Y k)
theorem d4.refl(X:Rows)(n w:Nat):d4 X n X n w:=⟨fun _ h=>bq.row h,fun _ h=>bq.row h⟩
theorem d4.symm{X Y:Rows}{n m w:Nat}(h:d4 X n Y m w):d4 Y m X n w:=⟨h.of,h.to⟩
theorem d4.trans{X Y Z:Rows}{n m l w:Nat}(h:d4 X n Y m w)(h':d4 Y m Z l w):d4 X n Z l w:=
 ⟨fun k hk=>bq.trans h'.to (h.to k hk),fun k hk=>bq.trans h.of (h'.of k hk)⟩
theorem d4.add{X Y:Rows}{n w k o:Nat}{x:Int}(hk:k<n)(ho:o<n)(hko:k≠o)(e:∀q,q<w→g Y k q=g X k q+x*g X o q)(h:∀i q,i<n→i≠k→q<w→g Y i q=g X i q):d4 X n Y n w:=by
 refine⟨fun i hi=>?_,fun i hi=>?_⟩
 · by_cases hik:i=k
   · subst hik
     refine((bq.row hk).oE (-x) (bq.row ho)).eq fun q hq=>?_
     rw[e q hq,h o q ho (Ne.symm hko) hq,Int.neg_mul]
     (first|lia|omega)
   · exact(bq.row hi).eq fun q hq=>(h i q hi hik hq).symm
 · by_cases hik:i=k
   · subst hik
     exact((bq.row hk).oE x (bq.row ho)).eq e
   · exact(bq.row hi).eq fun q hq=>h i q hi hik hq
theorem d4.perm{X Y:Rows}{n w:Nat}{f:Nat→Nat}(hf:∀i,i<n→f i<n)(hff:∀i,f (f i)=i)(e:∀i q,i<n→q<w→g Y i q=g X (f i) q):d4 X n Y n w:=
 ⟨fun i hi=>(bq.row (hf i hi)).eq fun q hq=>by rw[e (f i) q (hf i hi) hq,hff],fun i hi=>(bq.row (hf i hi)).eq fun q hq=>e i q hi hq⟩
theorem d4.neg{X Y:Rows}{n w k:Nat}(hk:k<n)(e:∀q,q<w→g Y k q= -g X k q)(h:∀i q,i<n→i≠k→q<w→g Y i q=g X i q):d4 X n Y n w:=by
 have ng:∀ {Z:Rows} {u:Nat→Int},bq Z n w u→bq Z n w fun q=> -u q:=fun{Z u} hu=>(hu.oE (-2) hu).eq fun q _=>by(first|lia|omega)
 refine⟨fun i hi=>?_,fun i hi=>?_⟩
 · by_cases hik:i=k
   · subst hik
     exact(ng (bq.row hk)).eq fun q hq=>by rw[e q hq,Int.neg_neg]
   · exact(bq.row hi).eq fun q hq=>(h i q hi hik hq).symm
 · by_cases hik:i=k
   · subst hik
     exact(ng (bq.row hk)).eq e
   · exact(bq.row hi).eq fun q hq=>h i q hi hik hq
theorem bq.zero{X:Rows}{n w:Nat}{v:Nat→Int}(h:∀c,c<w→v c=0):bq X n w v:=
 ⟨fun _=>0,fun c hc=>by rw[h c hc,oP fun k _=>Int.zero_mul _]⟩
end Mx
namespace Mx
structure iS(A:Rows)(N w M:Nat)(X:Rows)(m:Nat):Prop where
 is:cE m w X
 lo:1≤m
 hi:m≤8
 bd:∀r∈X,∀x∈r,x.natAbs≤M
 same:d4 A N X m w
theorem iS.more{A X:Rows}{N w M M' m:Nat}(h:iS A N w M X m)(l:M≤M'):iS A N w M' X m:=⟨h.is,h.lo,h.hi,fun r hr x hx=>Nat.le_trans (h.bd r hr x hx) l,h.same⟩
theorem iS.mem{A X:Rows}{N w M m k:Nat}(h:iS A N w M X m)(hk:k<m):X.getD k []∈X:=by
 rw[bc (by rw[h.is.len];exact hk)];exact List.getElem_mem _
theorem Bf{M:Nat}{r s:Row}{c:Int}(hr:∀x∈r,x.natAbs≤M)(hs:∀x∈s,x.natAbs≤M)(hc:c.natAbs≤7):∀x∈dR r c s,x.natAbs≤M*8:=fun x hx=>by
 unfold dR at hx
 obtain⟨k,hk,e⟩:=List.mem_iff_getElem.mp hx
 rw[List.getElem_zipWith]at e
 rw[List.length_zipWith]at hk
 have h1:=hr _ (List.getElem_mem (Nat.lt_of_lt_of_le hk (Nat.min_le_left _ _)))
 have h2:=hs _ (List.getElem_mem (Nat.lt_of_lt_of_le hk (Nat.min_le_right _ _)))
 rw[←e]
 refine Nat.le_trans (Int.natAbs_add_le _ _) ?_
 rw[Int.natAbs_mul]
 have:=Nat.mul_le_mul hc h2
 (first|lia|omega)
theorem iS.put{A X:Rows}{N w M M' m k:Nat}{r:Row}(h:iS A N w M X m)(l:M≤M')(hr:r.length=w)(hb:∀x∈r,x.natAbs≤M')(s:d4 X m (X.set k r) m w):iS A N w M' (X.set k r) m:=
 ⟨uI h.is hr,h.lo,h.hi,fun q hq x hx=>(List.mem_or_eq_of_mem_set hq).elim (fun z=>Nat.le_trans (h.bd q z x hx) l) (fun z=>hb x (z▸hx)),h.same.trans s⟩
theorem iS.add{A X:Rows}{N w M m k o:Nat}{c:Int}(h:iS A N w M X m)(hk:k<m)(ho:o<m)(hko:k≠o)(hc:c.natAbs≤7):iS A N w (M*8) (X.set k (dR (X.getD k []) c (X.getD o []))) m:=by
 have lX:k<X.length:=by rw[h.is.len];exact hk
 have e:(X.getD k []).length=(X.getD o []).length:=(h.is.row hk).trans (h.is.row ho).symm
 refine h.put (Nat.le_mul_of_pos_right _ (by decide)) (by rw[lD e];exact h.is.row hk) (Bf (h.bd _ (h.mem hk)) (h.bd _ (h.mem ho)) hc) (d4.add (x:=c) hk ho hko (fun q _=>?_) fun i q _ hi _=>?_)
 · rw[mP lX,if_pos rfl,mG e];rfl
 · rw[mP lX,if_neg hi]
theorem iS.neg{A X:Rows}{N w M m k:Nat}(h:iS A N w M X m)(hk:k<m):iS A N w M (X.set k ((X.getD k []).map fun x=> -x)) m:=by
 have lX:k<X.length:=by rw[h.is.len];exact hk
 refine h.put (Nat.le_refl _) (by rw[List.length_map];exact h.is.row hk) (fun x hx=>?_) (d4.neg hk (fun q _=>?_) fun i q _ hi _=>?_)
 · obtain⟨y,hy,rfl⟩:=List.mem_map.mp hx
   rw[Int.natAbs_neg]
   exact h.bd _ (h.mem hk) y hy
 · rw[mP lX,if_pos rfl]
   unfold g
   generalize X.getD k []=r
   rw[List.getD_eq_getElem?_getD,List.getElem?_map,List.getD_eq_getElem?_getD]
   cases r[q]?<;>rfl
 · rw[mP lX,if_neg hi]
theorem iS.swap{A X:Rows}{N w M m k o:Nat}(h:iS A N w M X m)(hk:k<m)(ho:o<m):iS A N w M ((X.set k (X.getD o [])).set o (X.getD k [])) m:=by
 have lX:k<X.length:=by rw[h.is.len];exact hk
 have lo:o<(X.set k (X.getD o [])).length:=by rw[List.length_set,h.is.len];exact ho
 refine⟨uI (uI h.is (h.is.row ho)) (h.is.row hk),h.lo,h.hi,fun q hq x hx=>?_,h.same.trans (d4.perm (f:=fun i=>if i=o then k else if i=k then o else i) (fun i hi=>?_) (fun i=>?_) fun i q _ _=>?_)⟩
 · rcases List.mem_or_eq_of_mem_set hq with z|z
   · rcases List.mem_or_eq_of_mem_set z with z|z
     · exact h.bd q z x hx
     · exact h.bd _ (h.mem ho) x (z▸hx)
   · exact h.bd _ (h.mem hk) x (z▸hx)
 · show(if i=o then k else if i=k then o else i)<m
   split
   · exact hk
   · split
     · exact ho
     · exact hi
 · show(if(if i=o then k else if i=k then o else i)=o then k else if(if i=o then k else if i=k then o else i)=k then o else(if i=o then k else if i=k then o else i))=i
   by_cases h1:i=o
   · rw[if_pos h1,if_pos rfl]
     split
     · rename_i z;rw[z,h1]
     · exact h1.symm
   · rw[if_neg h1]
     by_cases h2:i=k
     · rw[if_pos h2,if_pos rfl];exact h2.symm
     · rw[if_neg h2,if_neg h1,if_neg h2]
 · show _=g X (if i=o then k else if i=k then o else i) q
   rw[mP lo,mP lX]
   split
   · rfl
   · split<;>rfl
theorem m5{X:Rows}{r:Row}{k:Nat}(hk:k≤X.length)(i:Nat):(X.take k++r::X.drop k).getD i []=if i<k then X.getD i []else if i=k then r else X.getD (i-1) []:=by
 have lt:(X.take k).length=k:=by rw[List.length_take];(first|lia|omega)
 rw[List.getD_eq_getElem?_getD,List.getD_eq_getElem?_getD,List.getD_eq_getElem?_getD]
 by_cases h:i<k
 · rw[if_pos h,List.getElem?_append_left (by rw[lt];exact h),List.getElem?_take_of_lt h]
 · rw[if_neg h,List.getElem?_append_right (by rw[lt];(first|lia|omega)),lt]
   by_cases h2:i=k
   · rw[if_pos h2,h2,Nat.sub_self];rfl
   · rw[if_neg h2]
     have:i-k=(i-1-k)+1:=by(first|lia|omega)
     rw[this,List.getElem?_cons_succ,List.getElem?_drop]
     congr 2;(first|lia|omega)
end Mx
namespace Mx
theorem uV{r:Row}{x:Int}(q:Nat):(r.map fun y=>x*y).getD q 0=x*r.getD q 0:=by
 rw[List.getD_eq_getElem?_getD,List.getElem?_map,List.getD_eq_getElem?_getD]
 cases r[q]? with
 |none=>exact(Int.mul_zero x).symm
 |some y=>rfl
theorem JZ:∀N,N<9→∀t,t<N+1→Vz N 42 t≤60000000:=by decide+kernel
theorem rh{A:Rows}{N w M:Nat}(hA:cE N w A)(hb:∀r∈A,∀x∈r,x.natAbs≤M):iA A N 0 M:=fun i q _ hi=>by
 by_cases hq:q<w
 · have li:i<A.length:=by rw[hA.len];exact hi
   have lq:q<(A[i]).length:=by rw[hA.rj _ (List.getElem_mem li)];exact hq
   unfold g
   rw[bc li,bc lq]
   exact hb _ (List.getElem_mem li) _ (List.getElem_mem lq)
 · have:g A i q=0:=by
    unfold g
    rw[jP (by rw[cH hA hi];exact Nat.le_of_not_lt hq)]
   rw[this];exact Nat.zero_le _
end Mx
namespace Mx
theorem bq.smul{X:Rows}{n w:Nat}{v:Nat→Int}(x:Int)(h:bq X n w v):bq X n w fun c=>x*v c:=
 ((bq.zero (v:=fun _=>0) fun _ _=>rfl).oE x h).eq fun c _=>(Int.zero_add _).symm
theorem bq.more{X:Rows}{k n w:Nat}{v:Nat→Int}(h:bq X k w v)(l:k≤n):bq X n w v:=bq.trans (fun j hj=>bq.row (Nat.lt_of_lt_of_le hj l)) h
theorem bq.split{X:Rows}{i w:Nat}{v:Nat→Int}(h:bq X (i+1) w v):∃(u:Nat→Int) (t:Int),bq X i w u∧∀c,c<w→v c=u c+t*g X i c:=by
 obtain⟨z,hz⟩:=h
 exact⟨fun c=>S i fun k=>z k*g X k c,z i,⟨z,fun _ _=>rfl⟩,fun c hc=>hz c hc⟩
theorem ck.Dd{X:Rows}{n w i:Nat}{ld:Nat→Nat}{v:Nat→Int}(s:ck X n w ld)(hi:i≤n)(hv:bq X i w v)(h0:∀k,k<i→v (ld k)=0)(c:Nat)(hc:c<w):v c=0:=by
 obtain⟨z,hz⟩:=hv
 have zz:∀k,k<i→z k=0:=fun k=>by
  induction k using Nat.strongRecOn with
  |ind k ih=>
   intro hk
   obtain⟨h1,h2,_⟩:=s.lead k (Nat.lt_of_lt_of_le hk hi)
   have e:=hz (ld k) h1
   rw[h0 k hk,kU hk fun j hj ne=>?_]at e
   · exact(Int.mul_eq_zero.mp e.symm).resolve_right (Int.ne_of_gt h2)
   · rcases Nat.lt_or_gt_of_ne ne with l|l
     · rw[ih j l hj,Int.zero_mul]
     · have hj':=Nat.lt_of_lt_of_le hj hi
       rw[(s.lead j hj').2.2 _ (s.mono k j l hj'),Int.mul_zero]
 rw[hz c hc]
 exact oP fun k hk=>by rw[zz k hk,Int.zero_mul]
structure iz(F:Rows)(w:Nat)(ld:Nat→Nat)(row:Nat→Int)(i:Nat)(o:Int)(L:Nat→Int):Prop where
 pos:0<o
 sum:bq F i w fun c=>o*row c-L c
 off:∀k,k<i→L (ld k)=0
 least:∀(m:Int) (v:Nat→Int),bq F i w v→(∀k,k<i→m*row (ld k)=v (ld k))→o∣m
theorem iz.start{F:Rows}{w:Nat}{ld:Nat→Nat}{row:Nat→Int}:iz F w ld row 0 1 row:=
 ⟨by decide,bq.zero fun c _=>by rw[Int.one_mul,Int.sub_self],fun _ h=>absurd h (Nat.not_lt_zero _),fun m _ _ _=>Int.one_dvd m⟩
theorem iz.step{F:Rows}{n w i:Nat}{ld:Nat→Nat}{row L:Nat→Int}{o q t:Int}(s:ck F n w ld)(hi:i<n)(f:iz F w ld row i o L)(hq:0<q)(h1:q*L (ld i)=t*g F i (ld i))(h2:∀y,g F i (ld i)∣y*L (ld i)→q∣y):iz F w ld row (i+1) (o*q) fun c=>q*L c-t*g F i c:=by
 obtain⟨l1,l2,l3⟩:=s.lead i hi
 refine⟨Int.mul_pos f.pos hq,?_,fun k hk=>?_,fun m v hv he=>?_⟩
 · refine(((f.sum.smul q).more (Nat.le_succ i)).oE t (bq.row (Nat.lt_succ_self i))).eq fun c _=>?_
   rw[Int.mul_sub,Int.mul_comm o q,Int.mul_assoc]
   (first|lia|omega)
 · show q*L (ld k)-t*g F i (ld k)=0
   rcases Nat.lt_or_ge k i with h|h
   · rw[f.off k h,l3 _ (s.mono k i h hi)];(first|lia|omega)
   · have:k=i:=Nat.le_antisymm (Nat.le_of_lt_succ hk) h
     subst this
     rw[h1,Int.sub_self]
 · obtain⟨u,t',hu,hs⟩:=hv.split
   have hld:∀k,k<i→ld k<w:=fun k hk=>(s.lead k (Nat.lt_trans hk hi)).1
   have eu:∀k,k<i→m*row (ld k)=u (ld k):=fun k hk=>by
    rw[he k (Nat.lt_succ_of_lt hk),hs _ (hld k hk),l3 _ (s.mono k i hk hi),Int.mul_zero,Int.add_zero]
   obtain⟨y,rfl⟩:=f.least m u hu eu
   have z:=s.Dd (Nat.le_of_lt hi) (hu.sub (f.sum.smul y)) (fun k hk=>by
    show u (ld k)-y*(o*row (ld k)-L (ld k))=0
    rw[f.off k hk,←eu k hk,Int.sub_zero,Int.mul_comm o y,Int.mul_assoc,Int.sub_self]) (ld i) l1
   have e1:=he i (Nat.lt_succ_self i)
   rw[hs _ l1]at e1
   have z':u (ld i)-y*(o*row (ld i)-L (ld i))=0:=z
   rw[Int.mul_comm o y,Int.mul_assoc]at e1
   rw[Int.mul_sub]at z'
   have e2:y*L (ld i)=t'*g F i (ld i):=by(first|lia|omega)
   obtain⟨x,rfl⟩:=h2 y ⟨t',by rw[e2,Int.mul_comm]⟩
   exact⟨x,(Int.mul_assoc _ _ _).symm⟩
theorem iz.some{F:Rows}{n w:Nat}{ld:Nat→Nat}{row L:Nat→Int}{o:Int}(s:ck F n w ld)(f:iz F w ld row n o L)(h:∀c,c<w→L c=0)(m:Int):bq F n w (fun c=>m*row c)↔o∣m:=by
 constructor
 · exact fun hv=>f.least m _ hv fun k _=>rfl
 · rintro⟨y,rfl⟩
   refine(f.sum.smul y).eq fun c hc=>?_
   rw[h c hc,Int.sub_zero,Int.mul_comm o y,Int.mul_assoc]
theorem iz.no{F:Rows}{n w c:Nat}{ld:Nat→Nat}{row L:Nat→Int}{o:Int}(s:ck F n w ld)(f:iz F w ld row n o L)(hc:c<w)(h:L c≠0)(m:Int)(hm:m≠0):¬bq F n w fun c=>m*row c:=fun hv=>by
 obtain⟨y,rfl⟩:=f.least m _ hv fun k _=>rfl
 have z:=s.Dd (Nat.le_refl n) (hv.sub (f.sum.smul y)) (fun k hk=>by
  show o*y*row (ld k)-y*(o*row (ld k)-L (ld k))=0
  rw[f.off k hk,Int.sub_zero,Int.mul_comm o y,Int.mul_assoc,Int.sub_self]) c hc
 have z':o*y*row c-y*(o*row c-L c)=0:=z
 rw[Int.mul_sub,Int.mul_comm o y,Int.mul_assoc]at z'
 have e:y*L c=0:=by(first|lia|omega)
 rcases Int.mul_eq_zero.mp e with h'|h'
 · rw[h',Int.mul_zero]at hm;exact hm rfl
 · exact h h'
theorem oN{d:Nat}(hd:0<d)(x m:Int):(d:Int)∣m*x↔((d/Nat.gcd d x.natAbs:Nat):Int)∣m:=by
 rw[Int.ofNat_dvd_left,Int.ofNat_dvd_left,Int.natAbs_mul]
 generalize x.natAbs=y
 generalize m.natAbs=k
 have g0:0<Nat.gcd d y:=Nat.gcd_pos_of_pos_left _ hd
 have cp:=Nat.coprime_div_gcd_div_gcd g0
 have e1:=Nat.div_mul_cancel (Nat.gcd_dvd_left d y)
 have e2:=Nat.div_mul_cancel (Nat.gcd_dvd_right d y)
 generalize Nat.gcd d y=q at g0 cp e1 e2⊢
 have e3:k*y=k*(y/q)*q:=by rw[Nat.mul_assoc,e2]
 constructor
 · intro h
   refine cp.dvd_of_dvd_mul_right ?_
   rw[e3]at h
   rw[←e1]at h
   exact Nat.dvd_of_mul_dvd_mul_right g0 h
 · intro h
   rw[e3]
   conv=>lhs;rw[←e1]
   exact Nat.mul_dvd_mul_right (Nat.dvd_trans h (Nat.dvd_mul_right _ _)) q
theorem DF{a b:Nat}(m:Int):((a/Nat.gcd a b*b:Nat):Int)∣m↔(a:Int)∣m∧(b:Int)∣m:=by
 rw[Int.ofNat_dvd_left,Int.ofNat_dvd_left,Int.ofNat_dvd_left]
 have e:a/Nat.gcd a b*b=Nat.lcm a b:=by
  unfold Nat.lcm
  rw[Nat.mul_comm a b,Nat.mul_div_assoc _ (Nat.gcd_dvd_left a b),Nat.mul_comm]
 rw[e]
 exact Nat.lcm_dvd_iff
theorem ck.HQ{F:Rows}{n w:Nat}{ld:Nat→Nat}{v:Nat→Int}(s:ck F n w ld)(hv:bq F n w v)(h:∀k,k<n→0≤v (ld k)∧v (ld k)<g F k (ld k))(c:Nat):c<w→v c=0:=by
 induction c using Nat.strongRecOn with
 |ind c ih=>
  intro hc
  rcases s.at hv hc fun d hd=>ih d hd (Nat.lt_trans hd hc)with⟨k,hk,rfl,d⟩|q
  · have:=h k hk
    exact Int.eq_zero_of_dvd_of_natAbs_lt_natAbs d (by(first|lia|omega))
  · exact q
structure kD(F:Rows)(n w:Nat)(ld:Nat→Nat)(row:Nat→Int)(i:Nat)(L:Nat→Int):Prop where
 sum:bq F n w fun c=>row c-L c
 red:∀k,k<i→0≤L (ld k)∧L (ld k)<g F k (ld k)
theorem kD.start{F:Rows}{n w:Nat}{ld:Nat→Nat}{row:Nat→Int}:kD F n w ld row 0 row:=⟨bq.zero fun c _=>Int.sub_self _,fun _ h=>absurd h (Nat.not_lt_zero _)⟩
theorem kD.step{F:Rows}{n w i:Nat}{ld:Nat→Nat}{row L:Nat→Int}(s:ck F n w ld)(hi:i<n)(f:kD F n w ld row i L):kD F n w ld row (i+1) fun c=>L c-(L (ld i)).fdiv (g F i (ld i))*g F i c:=by
 obtain⟨l1,l2,l3⟩:=s.lead i hi
 refine⟨(f.sum.oE ((L (ld i)).fdiv (g F i (ld i))) (bq.row hi)).eq fun c _=>by(first|lia|omega),fun k hk=>?_⟩
 show 0≤L (ld k)-_*g F i (ld k)∧L (ld k)-_*g F i (ld k)<_
 rcases Nat.lt_or_ge k i with h|h
 · rw[l3 _ (s.mono k i h hi),Int.mul_zero,Int.sub_zero]
   exact f.red k h
 · have:k=i:=Nat.le_antisymm (Nat.le_of_lt_succ hk) h
   subst this
   have e:=Int.fmod_add_mul_fdiv (L (ld k)) (g F k (ld k))
   have a:=Int.fmod_nonneg_of_pos (L (ld k)) l2
   have b:=Int.fmod_lt_of_pos (L (ld k)) l2
   rw[Int.mul_comm]at e
   (first|lia|omega)
theorem kD.zero{F:Rows}{n w:Nat}{ld:Nat→Nat}{row L:Nat→Int}(s:ck F n w ld)(f:kD F n w ld row n L):(∀c,c<w→L c=0)↔bq F n w row:=by
 constructor
 · exact fun h=>f.sum.eq fun c hc=>by rw[h c hc,Int.sub_zero]
 · exact fun h=>s.HQ ((h.sub f.sum).eq fun c _=>by(first|lia|omega)) f.red
theorem kD.add{F:Rows}{n w:Nat}{ld:Nat→Nat}{row L R M:Nat→Int}{k:Int}(f:kD F n w ld (fun c=>k*row c) n L)(o:kD F n w ld row n R)(r:kD F n w ld (fun c=>L c+R c) n M):kD F n w ld (fun c=>(k+1)*row c) n M:=
 ⟨((f.sum.oE 1 o.sum).oE 1 r.sum).eq fun c _=>by
   rw[Int.add_mul];(first|lia|omega),r.red⟩
end Mx
namespace Mx
noncomputable def PN:List Int→Int
 | []=>1
 |x::xs=>x*PN xs
theorem qX:∀ {ls:List Int},(∀x∈ls,1≤x)→1≤PN ls
 | [],_=>Int.le_refl _
 |x::xs,h=>by
  have h1:=h x List.mem_cons_self
  have h2:=qX fun y hy=>h y (List.mem_cons_of_mem _ hy)
  have:=Int.mul_le_mul h1 h2 (by decide) (Int.le_trans (by decide) h1)
  exact this
theorem uZ:∀ {ls:List Int} {x:Int},(∀x∈ls,1≤x)→x∈ls→x≤PN ls
 |y::ys,x,h,hx=>by
  have h1:=h y List.mem_cons_self
  have h':∀z∈ys,1≤z:=fun z hz=>h z (List.mem_cons_of_mem _ hz)
  have h2:=qX h'
  rcases List.mem_cons.mp hx with rfl|hx
  · have:=Int.mul_le_mul_of_nonneg_left h2 (Int.le_trans (by decide) h1)
    rw[Int.mul_one]at this
    exact this
  · have h3:=uZ h' hx
    have:=Int.mul_le_mul_of_nonneg_right h1 (Int.le_trans (by decide) h2)
    rw[Int.one_mul]at this
    exact Int.le_trans h3 this
theorem AH:∀ {ls:List Int} {k:Nat} {f:Int},k<ls.length→PN (ls.set k (ls.getD k 0*f))=PN ls*f
 | [],_,_,h=>absurd h (Nat.not_lt_zero _)
 |x::xs,0,f,_=>by
  show x*f*PN xs=x*PN xs*f
  rw[Int.mul_assoc,Int.mul_assoc,Int.mul_comm f]
 |x::xs,k+1,f,h=>by
  show x*PN (xs.set k (xs.getD k 0*f))=x*PN xs*f
  rw[AH (Nat.lt_of_succ_lt_succ h),Int.mul_assoc]
theorem Fx{ls ms:List Int}(s:ls.Sublist ms)(h:∀x∈ms,1≤x):PN ls≤PN ms:=by
 induction s with
 |slnil=>exact Int.le_refl _
 | @cons l1 l2 a _ ih=>
   have h1:=h a List.mem_cons_self
   have h':∀z∈l2,1≤z:=fun z hz=>h z (List.mem_cons_of_mem _ hz)
   have:=Int.mul_le_mul_of_nonneg_right h1 (Int.le_trans (by decide) (qX h'))
   rw[Int.one_mul]at this
   exact Int.le_trans (ih h') this
 | @cons_cons l1 l2 a _ ih=>
   have h1:=h a List.mem_cons_self
   exact Int.mul_le_mul_of_nonneg_left (ih fun z hz=>h z (List.mem_cons_of_mem _ hz)) (Int.le_trans (by decide) h1)
theorem Ay:∀(ls ms:List Int),PN (ls++ms)=PN ls*PN ms
 | [],_=>(Int.one_mul _).symm
 |x::xs,ms=>by
  show x*PN (xs++ms)=x*PN xs*PN ms
  rw[Ay xs ms,Int.mul_assoc]
theorem AB:∀w:Nat,PN (List.replicate w 1)=1
 |0=>rfl
 |w+1=>by
  rw[List.replicate_succ]
  show 1*PN (List.replicate w 1)=1
  rw[AB w];rfl
structure UR(ls:List Int)(w k:Nat)(r:Row):Prop where
 len:r.length=w
 lo:∀c,c<k→r.getD c 0=0
 at':r.getD k 0=ls.getD k 0
 up:∀c,k<c→c<w→0≤r.getD c 0∧r.getD c 0<ls.getD c 0
noncomputable def nV(zs:List (Nat×Row))(i:Nat):Nat:=(zs.getD i (0,[])).1
theorem FF{zs:List (Nat×Row)}{i:Nat}(hi:i<zs.length):(zs.map (·.2)).getD i []=(zs.getD i (0,[])).2:=by
 rw[bc (by rw[List.length_map];exact hi),bc hi,List.getElem_map]
structure Zs(ls:List Int)(w:Nat)(zs:List (Nat×Row)):Prop where
 ur:∀z∈zs,z.1<w∧UR ls w z.1 z.2
 inc:zs.Pairwise fun a b=>a.1<b.1
 pos:∀x∈ls,1≤x
 len:ls.length=w
theorem Zs.mem{ls:List Int}{w i:Nat}{zs:List (Nat×Row)}(h:Zs ls w zs)(hi:i<zs.length):nV zs i<w∧UR ls w (nV zs i) ((zs.map (·.2)).getD i []):=by
 rw[FF hi]
 unfold nV
 rw[bc hi]
 exact h.ur _ (List.getElem_mem hi)
theorem Zs.mono{ls:List Int}{w:Nat}{zs:List (Nat×Row)}(h:Zs ls w zs)(i j:Nat)(hij:i<j)(hj:j<zs.length):nV zs i<nV zs j:=by
 unfold nV
 rw[bc hj,bc (Nat.lt_trans hij hj)]
 exact List.pairwise_iff_getElem.mp h.inc i j (Nat.lt_trans hij hj) hj hij
theorem Zs.GO{ls:List Int}{w c:Nat}{zs:List (Nat×Row)}(h:Zs ls w zs)(hc:c<w):1≤ls.getD c 0:=by
 rw[bc (by rw[h.len];exact hc)]
 exact h.pos _ (List.getElem_mem _)
theorem Zs.is{ls:List Int}{w:Nat}{zs:List (Nat×Row)}(h:Zs ls w zs):cE zs.length w (zs.map (·.2)):=⟨List.length_map _,fun r hr=>by
 obtain⟨z,hz,rfl⟩:=List.mem_map.mp hr
 exact(h.ur z hz).2.len⟩
theorem Zs.qY{ls:List Int}{w:Nat}{zs:List (Nat×Row)}(h:Zs ls w zs):ck (zs.map (·.2)) zs.length w (nV zs):=
 ⟨fun i hi=>by
  obtain⟨h1,h2⟩:=h.mem hi
  refine⟨h1,?_,h2.lo⟩
  unfold g
  rw[h2.at']
  exact Int.lt_of_lt_of_le (by decide) (h.GO h1),h.mono⟩
theorem Zs.red{ls:List Int}{w:Nat}{zs:List (Nat×Row)}(h:Zs ls w zs):oF (zs.map (·.2)) zs.length (nV zs):=fun i j hij hj=>by
 obtain⟨h1,h2⟩:=h.mem hj
 obtain⟨h3,h4⟩:=h.mem (Nat.lt_trans hij hj)
 unfold g
 rw[h2.at']
 exact h4.up _ (h.mono i j hij hj) h1
theorem Zs.small{ls:List Int}{w:Nat}{M:Int}{zs:List (Nat×Row)}(h:Zs ls w zs)(hM:∀x∈ls,x≤M)(hM0:0≤M)(r:Row)(hr:r∈zs.map (·.2))(x:Int)(hx:x∈r):0≤x∧x≤M:=by
 obtain⟨z,hz,rfl⟩:=List.mem_map.mp hr
 obtain⟨h1,u⟩:=h.ur z hz
 obtain⟨c,hc,rfl⟩:=List.mem_iff_getElem.mp hx
 have e:(z.2).getD c 0=z.2[c]:=bc hc
 rw[←e]
 have hcw:c<w:=by rw[←u.len];exact hc
 have big:∀k,k<w→ls.getD k 0≤M:=fun k hk=>by
  rw[bc (by rw[h.len];exact hk)]
  exact hM _ (List.getElem_mem _)
 rcases Nat.lt_trichotomy c z.1 with q|q|q
 · rw[u.lo c q];exact⟨Int.le_refl _,hM0⟩
 · rw[q,u.at']
   exact⟨Int.le_trans (by decide) (h.GO h1),big _ h1⟩
 · have:=u.up c q hcw
   exact⟨this.1,Int.le_trans (Int.le_of_lt this.2) (big c hcw)⟩
theorem Zs.erase{ls:List Int}{w k:Nat}{zs:List (Nat×Row)}(h:Zs ls w zs):Zs ls w (zs.eraseIdx k):=
 ⟨fun z hz=>h.ur z (List.mem_of_mem_eraseIdx hz),h.inc.sublist (List.eraseIdx_sublist _ _),h.pos,h.len⟩
theorem oX{α β:Type}(f:α→β):∀(l:List α) (k:Nat),(l.map f).eraseIdx k=(l.eraseIdx k).map f
 | [],_=>rfl
 |_::_,0=>rfl
 |x::l,k+1=>by
  show f x::(l.map f).eraseIdx k=f x::(l.eraseIdx k).map f
  rw[oX f l k]
end Mx
namespace Prog
open PySem L2 L3
open PySem.Spec hiding items?
open PyProof.Rows hiding St
theorem hV{i j:Int}(h1: -(2^64)<i)(h2:i<2^64):IntMulOk i j:= .of_left (intBits_le_64 h1 h2)
theorem fv{i j:Int}(h1: -(2^64)<j)(h2:j<2^64):IntMulOk i j:= .of_right (intBits_le_64 h1 h2)
noncomputable def isInt:D→Bool
 | .int _=>true
 |_=>false
noncomputable abbrev ay(r:List Int):List D:=r.map D.int
noncomputable abbrev bU(r:List Int):D:= .tup (ay r)
noncomputable abbrev ba(r:List Int):D:= .lst (ay r)
noncomputable abbrev gO(A:List (List Int)):D:= .tup (A.map bU)
noncomputable abbrev HP(A:List (List Int)):D:= .lst (A.map ba)
noncomputable def bN(st:ag):List D→List (List Int)→Prop
 | [],[]=>True
 |d::ds,r::rs=>items? st d=some (ay r)∧bN st ds rs
 |_,_=>False
structure gX(st:ag)(d:D)(A:List (List Int)):Prop where
 ex:∃ds,items? st d=some ds∧bN st ds A
theorem bN.len{st:ag}:∀ {ds:List D} {A:List (List Int)},bN st ds A→ds.length=A.length
 | [],[],_=>rfl
 |_::_,_::_,h=>by simp[bN.len h.2]
theorem bN.tup{st:ag}:∀ {A:List (List Int)},bN st (A.map bU) A
 | []=>trivial
 |_::_=>⟨rfl,bN.tup⟩
theorem bN.lst{st:ag}:∀ {A:List (List Int)},bN st (A.map ba) A
 | []=>trivial
 |_::_=>⟨rfl,bN.lst⟩
theorem bN.get{st:ag}:∀ {ds:List D} {A:List (List Int)} {i:Nat} {d:D},bN st ds A→ds[i]?=some d→∃r,A[i]?=some r∧items? st d=some (ay r)
 |_::_,r::_,0,_,h,e=>by simp at e;subst e;exact⟨r,rfl,h.1⟩
 |_::_,_::_,i+1,d,h,e=>by
  obtain⟨r,e1,e2⟩:=bN.get (i:=i) (d:=d) h.2 (by simpa using e)
  exact⟨r,by simpa using e1,e2⟩
theorem pe{st:ag}{A:List (List Int)}:gX st (gO A) A:=⟨_,rfl,bN.tup⟩
structure Ext(st st':ag):Prop where
 len:st.length≤st'.length
 same:∀m,m<st.length→st'[m]?=st[m]?
theorem Ext.push{st:ag}{c:List Cell}:Ext st (st++c):=⟨by simp,fun m h=>List.getElem?_append_left h⟩
theorem fR{r:List Int}{k:Nat}(h:k<r.length):dJ (ay r) (k:Int)=some (.int (r.getD k 0)):=by
 refine g7 ?_
 rw[List.getElem?_map,List.getElem?_eq_getElem h,Mx.bc h];rfl
theorem getD_mem{r:List Int}{k:Nat}(h:k<r.length):r.getD k 0∈r:=by rw[Mx.bc h];exact List.getElem_mem _
theorem bN.at{st:ag}{ds:List D}{A:List (List Int)}{k:Nat}(h:bN st ds A)(hk:k<A.length):∃d,dJ ds (k:Int)=some d∧items? st d=some (ay (A.getD k [])):=by
 have hl:=h.len
 have e:ds[k]?=some ds[k]:=List.getElem?_eq_getElem (by(first|lia|omega))
 obtain⟨r,er,hr⟩:=h.get e
 refine⟨ds[k],g7 e,?_⟩
 rw[Mx.bc hk]
 rw[List.getElem?_eq_getElem hk]at er
 cases er
 exact hr
theorem ints_app{r:List Int}{x:Int}:ay r++[D.int x]=ay (r++[x]):=by simp[ay]
theorem Bm{A:List (List Int)}{r:List Int}:A.map bU++[bU r]=(A++[r]).map bU:=by simp
theorem lu{r s:List Int}{d:D}(h:d∈gF (ay r) (ay s)):∃a b,a∈r∧b∈s∧d= .tup [.int a,.int b]:=by
 obtain⟨n,hn,e⟩:=List.mem_iff_getElem.mp h
 have e':(gF (ay r) (ay s))[n]?=some d:=by rw[List.getElem?_eq_getElem hn,e]
 obtain⟨x,y,ex,ey,rfl⟩:=qd e'
 rw[List.getElem?_map]at ex ey
 cases q1:r[n]? with
 |none=>rw[q1]at ex;cases ex
 |some a=>
  cases q2:s[n]? with
  |none=>rw[q2]at ey;cases ey
  |some b=>
   rw[q1]at ex
   rw[q2]at ey
   cases ex
   cases ey
   exact⟨a,b,List.mem_of_getElem? q1,List.mem_of_getElem? q2,rfl⟩
theorem ni(n:Nat):(List.replicate n [D.int 0]).flatten=ay (List.replicate n 0):=by
 induction n with
 |zero=>rfl
 |succ n ih=>rw[List.replicate_succ,List.flatten_cons,ih];rfl
theorem nC{d:D}{ds:List D}:dJ (d::ds) 0=some d:=g7 (j:=0) rfl
theorem w6{n:Nat}{r:List Int}:(ay r).all (pl n)=true:=by
 refine List.all_eq_true.mpr fun d hd=>?_
 obtain⟨i,_,rfl⟩:=List.mem_map.mp hd
 cases n<;>rfl
theorem Bt{n:Nat}{A:List (List Int)}:pl (n+2) (HP A)=true:=by
 unfold pl
 refine List.all_eq_true.mpr fun d hd=>?_
 obtain⟨r,_,rfl⟩:=List.mem_map.mp hd
 unfold pl
 exact w6
def aq:Addr:=125
noncomputable abbrev gf(b:Bool):Cell:=Cell.tab 105 ⟨53,32,53,66⟩ "Bench.live_rows.<locals>.<lambda>" b
noncomputable abbrev Gk:List (Addr×Pos×Str):=[(105,⟨53,32,53,66⟩,"Bench.live_rows.<locals>.<lambda>")]
noncomputable def je:cO:=fun ds st K=>∃(d:D) (A:List (List Int)),ds=[d]∧gX st d A∧A.length≤1000∧K (gO A) st
noncomputable def ma:List Str:=["rows"]
noncomputable def zU:DS:=(cv (b_ eQ (ae (du (e7 (ab 0)) [none] (bE 0) cG (b_ eQ (ae (ab 0) aj))) aj)))
theorem fS{tg:eZ}{te:DE}{ok:ag→Prop}{σc:bG}{st:ag}{K:List D→ag→Prop}{ds:List D}{A:List (List Int)}(f:List Int→D)(aI:ok st)(hr:bN st ds A)(hx:∀d r,r∈A→items? st d=some (ay r)→∀K',K' (f r) st→∃σ2,tg d σc=some σ2∧te σ2 st K')(k:K (A.map f) st):dz tg cG te ok σc ds [] st K:=by
 refine gQ (fun rest acc st'=>∃(A1 A2:List (List Int)),st=st'∧A1++A2=A∧bN st rest A2∧acc=A1.map f) ?_ ?_ _ _ _ ⟨[],A,rfl,rfl,hr,rfl⟩
 · rintro acc st' ⟨A1,A2,rfl,he,h,rfl⟩
   match A2,h with
   | [],_=>
     rw[List.append_nil]at he
     subst he
     exact⟨aI,k⟩
 · rintro d rest acc st' ⟨A1,A2,rfl,he,h,rfl⟩ next
   match A2,h with
   |r::A2,h=>
    obtain⟨σ2,e2,q⟩:=hx d r (by rw[←he];simp) h.1 (fun y st2=>dz tg cG te ok σc rest (A1.map f++[y]) st2 K) (next _ _ ⟨A1++[r],A2,rfl,by rw[←he];simp,h.2,by simp⟩)
    exact⟨aI,σ2,e2,q⟩
theorem xU:∀ds st K,je ds st K→ds.length=1∧zU {nx:=fun _ st'=>K .aC st',rt:=K} (bw ma ds) st:=by
 rintro ds st K ⟨d,A,rfl,⟨da,hd,ra⟩,hl,k⟩
 refine⟨rfl,?_⟩
 refine iO hd fun ok aI=>⟨cj (by rw[ra.len];exact hl),?_⟩
 refine fS bU aI ra (fun e r hr he K' q=>⟨_,rfl,eE he q⟩) ?_
 exact eE rfl k
noncomputable def iC:cO:=fun ds st K=>∃x y t r s,ds=[x,.int t,y]∧items? st x=some (ay r)∧items? st y=some (ay s)∧r.length≤1000∧(∀b∈s,IntMulOk t b)∧K (ba (Mx.dR r t s)) st
noncomputable def pA:List Str:=["row","times","other"]
noncomputable def DB:DS:=(cv (du (oU (ae (ab 0) (ae (ab 2) aj))) [none,none,some 1] (iE 0 1) cG (ax gg (ab 0) (ax cX (ab 2) (ab 1)))))
theorem oJ{t:Int}:∀(r s:List Int),(gF (ay r) (ay s)).map (fun d=>match d with| .tup [.int a,.int b]=> .int (a+t*b)|_=> .aC)=ay (Mx.dR r t s)
 | [],_=>rfl
 |_::_,[]=>rfl
 |a::r,b::s=>by
  have:=oJ (t:=t) r s
  unfold gF Mx.dR at this⊢
  simp only[ay,List.map_cons,List.zip_cons_cons,List.zipWith_cons_cons]at this⊢
  rw[this]
theorem Bd:∀ds st K,iC ds st K→ds.length=3∧DB {nx:=fun _ st'=>K .aC st',rt:=K} (bw pA ds) st:=by
 rintro ds st K ⟨x,y,t,r,s,rfl,hx,hy,hl,hm,k⟩
 refine⟨rfl,?_⟩
 refine mR hx hy fun ok aI=>⟨cj (by rw[iw];simp;(first|lia|omega)),?_⟩
 refine comp_map (g:=fun d=>match d with| .tup [.int a,.int b]=> .int (a+t*b)|_=> .aC) (aI st hx hy) _ (fun d hd K' q=>?_) ?_
 · obtain⟨a,b,ha,hb,rfl⟩:=lu hd
   exact⟨_,rfl,dc (hm b hb) (eU q)⟩
 · rw[oJ];exact k
noncomputable def lQ:cO:=fun ds st K=>∃(d:D) (A:List (List Int)) (j:Nat),ds=[d,.int j]∧gX st d A∧(∀r∈A,j<r.length)∧A.length≤1000∧K (bU (Mx.se A j)) st
noncomputable def nM:List Str:=["rows","place"]
noncomputable def BS:DS:=(cv (b_ eQ (ae (du (e7 (ab 0)) [none,some 1] (bE 0) cG (ax bV (ab 0) (ab 1))) aj)))
theorem Ap{tg:eZ}{te:DE}{ok:ag→Prop}{σc:bG}{st:ag}{K:List D→ag→Prop}{ds:List D}{A:List (List Int)}(f:List Int→D)(aI:ok st)(hr:bN st ds A)(hx:∀d r,r∈A→items? st d=some (ay r)→∀K',K' (f r) st→∃σ2,tg d σc=some σ2∧te σ2 st K')(k:K (A.map f) st):dz tg cG te ok σc ds [] st K:=by
 refine gQ (fun rest acc st'=>∃(A1 A2:List (List Int)),st=st'∧A1++A2=A∧bN st rest A2∧acc=A1.map f) ?_ ?_ _ _ _ ⟨[],A,rfl,rfl,hr,rfl⟩
 · rintro acc st' ⟨A1,A2,rfl,he,h,rfl⟩
   match A2,h with
   | [],_=>
     rw[List.append_nil]at he
     subst he
     exact⟨aI,k⟩
 · rintro d rest acc st' ⟨A1,A2,rfl,he,h,rfl⟩ next
   match A2,h with
   |r::A2,h=>
    obtain⟨σ2,e2,q⟩:=hx d r (by rw[←he];simp) h.1 (fun y st2=>dz tg cG te ok σc rest (A1.map f++[y]) st2 K) (next _ _ ⟨A1++[r],A2,rfl,by rw[←he];simp,h.2,by simp⟩)
    exact⟨aI,σ2,e2,q⟩
theorem zA(A:List (List Int))(j:Nat):A.map (fun r=>D.int (r.getD j 0))=ay (Mx.se A j):=by unfold Mx.se ay;rw[List.map_map];rfl
theorem AI:∀ds st K,lQ ds st K→ds.length=2∧BS {nx:=fun _ st'=>K .aC st',rt:=K} (bw nM ds) st:=by
 rintro ds st K ⟨d,A,j,rfl,⟨da,hd,ra⟩,hj,hl,k⟩
 refine⟨rfl,?_⟩
 refine iO hd fun ok aI=>⟨cj (by rw[ra.len];exact hl),?_⟩
 refine Ap (fun r=> .int (r.getD j 0)) aI ra (fun e r hr he K' q=>⟨_,rfl,a_ he (fR (hj r hr)) q⟩) ?_
 rw[zA]
 exact eE rfl k
noncomputable def g6:cO:=fun ds st K=>∃(d:D) (A:List (List Int)) (n:Nat),ds=[d,.int n]∧gX st d A∧(∀r∈A,r.length=n)∧A.length≤1000∧n≤1000∧K (gO (Mx.C8 A n)) st
noncomputable def iZ:List Str:=["rows","wide"]
noncomputable def tO:DS:=(cv (b_ eQ (ae (du (dD (ae (ab 1) aj)) [none,some 0] (bE 0) cG (aP lQ (ae (ab 1) (ae (ab 0) aj)))) aj)))
theorem AW(A:List (List Int))(n:Nat):(List.range n).map (fun j=>bU (Mx.se A j))=(Mx.C8 A n).map bU:=by unfold Mx.C8;rw[List.map_map];rfl
theorem r_:∀ds st K,g6 ds st K→ds.length=2∧tO {nx:=fun _ st'=>K .aC st',rt:=K} (bw iZ ds) st:=by
 rintro ds st K ⟨d,A,n,rfl,hd,hw,hl,hn,k⟩
 refine⟨rfl,?_⟩
 refine eC ⟨by(first|lia|omega),by(first|lia|omega)⟩ ⟨cj (by rw[d3];(first|lia|omega)),?_⟩
 rw[Int.toNat_natCast]
 refine jw (fun j=>bU (Mx.se A j)) n (fun i hi K' q=>⟨_,rfl,d,A,i,rfl,hd,fun r hr=>by rw[hw r hr];exact hi,hl,q⟩) ?_
 rw[AW]
 exact eE rfl k
noncomputable def jj:cO:=fun ds st K=>∃(n i:Nat),ds=[.int n,.int i]∧n≤1000∧K (bU (Mx.ja n i)) st
noncomputable def kJ:List Str:=["n","place"]
noncomputable def yQ:DS:=(cv (b_ eQ (ae (du (dD (ae (ab 0) aj)) [none,some 1] (bE 0) cG (xt (bQ (ax jN (ab 0) (ab 1))) (dC (.int 1)) (dC (.int 0)))) aj)))
theorem wN:∀ds st K,jj ds st K→ds.length=2∧yQ {nx:=fun _ st'=>K .aC st',rt:=K} (bw kJ ds) st:=by
 rintro ds st K ⟨n,i,rfl,hn,k⟩
 refine⟨rfl,?_⟩
 refine eC ⟨by(first|lia|omega),by(first|lia|omega)⟩ ⟨cj (by rw[d3];(first|lia|omega)),?_⟩
 rw[Int.toNat_natCast]
 refine jw (fun j=> .int (Mx.dl j i)) n (fun j hj K' q=>⟨_,rfl,?_⟩) ?_
 · refine eq2 (fun h=>eV ?_) fun h=>?_
   · have:j=i:=by(first|lia|omega)
     subst this
     rw[Mx.fu]at q;exact q
   · rw[Mx.fH (by(first|lia|omega))]at q;exact q
 · have:(List.range n).map (fun j=>D.int (Mx.dl j i))=ay (Mx.ja n i):=by unfold Mx.ja ay;rw[List.map_map];rfl
   rw[this]
   exact eE rfl k
noncomputable def g8:cO:=fun ds st K=>∃(n:Nat),ds=[.int n]∧n≤1000∧K (gO (Mx.units n)) st
noncomputable def j9:List Str:=["n"]
noncomputable def wO:DS:=(cv (b_ eQ (ae (du (dD (ae (ab 0) aj)) [none,some 0] (bE 0) cG (aP jj (ae (ab 1) (ae (ab 0) aj)))) aj)))
theorem u7:∀ds st K,g8 ds st K→ds.length=1∧wO {nx:=fun _ st'=>K .aC st',rt:=K} (bw j9 ds) st:=by
 rintro ds st K ⟨n,rfl,hn,k⟩
 refine⟨rfl,?_⟩
 refine eC ⟨by(first|lia|omega),by(first|lia|omega)⟩ ⟨cj (by rw[d3];(first|lia|omega)),?_⟩
 rw[Int.toNat_natCast]
 refine jw (fun i=>bU (Mx.ja n i)) n (fun i hi K' q=>⟨_,rfl,n,i,rfl,hn,q⟩) ?_
 have:(List.range n).map (fun i=>bU (Mx.ja n i))=(Mx.units n).map bU:=by unfold Mx.units;rw[List.map_map];rfl
 rw[this]
 exact eE rfl k
noncomputable def fN:List Int→Nat→Option Nat
 | [],_=>none
 |x::xs,i=>if x=0 then fN xs (i+1)else some i
noncomputable def kh(r:List Int):Option Nat:=fN r 0
noncomputable def jy(r:List Int):D:=match kh r with
 |some k=> .int (k:Int)
 |none=> .aC
noncomputable def i7:cO:=fun ds st K=>∃(d:D) (r:List Int),ds=[d]∧items? st d=some (ay r)∧K (jy r) st
noncomputable def lY:List Str:=["row","place","number"]
noncomputable def Ar:DS:=(aG (hW (yL (ae (ab 0) aj)) (iE 1 2) (fG (bQ (ax mJ (ab 2) (dC (.int 0)))) (cv (ab 1)) eM))
 (cv (dC .aC)))
theorem yF:∀ds st K,i7 ds st K→ds.length=1∧Ar {nx:=fun _ st'=>K .aC st',rt:=K} (bw lY ds) st:=by
 rintro ds st K ⟨d,r,rfl,hd,k⟩
 refine⟨rfl,?_⟩
 refine DC hd fun ok aI=>?_
 refine i_ (fun rest σ st'=>st'=st∧∃(v1 v2:Option D) (s:List Int) (i:Nat),σ=[some d,v1,v2]∧rest=iY i (ay s)∧fN r 0=fN s i) ?_ ?_ _ _ _ ⟨rfl,none,none,r,0,rfl,rfl,rfl⟩
 · rintro σ st' ⟨rfl,v1,v2,s,i,rfl,hr,hl⟩
   match s,hr with
   | [],_=>
     refine⟨aI _ hd,?_⟩
     have:jy r= .aC:=by unfold jy kh;rw[hl];rfl
     rw[this]at k;exact k
 · rintro x rest σ st' ⟨rfl,v1,v2,s,i,rfl,hr,hl⟩ next
   match s,hr,hl with
   |y::s,hr,hl=>
    simp only[ay,List.map_cons,iY,List.cons.injEq]at hr
    obtain⟨rfl,rfl⟩:=hr
    refine⟨aI _ hd,_,rfl,?_⟩
    refine ne2 (fun h=>eV ?_) fun h=>?_
    · have:jy r= .int (i:Int):=by unfold jy kh;rw[hl];unfold fN;rw[if_neg h]
      rw[this]at k;exact k
    · refine next _ _ ⟨rfl,_,_,s,i+1,rfl,rfl,?_⟩
      rw[hl];unfold fN;rw[if_pos h];cases s<;>rfl
   | [],hr,_=>cases hr
theorem uG:∀(r:List Int) (i l:Nat),(∀c,c<l→r.getD c 0=0)→r.getD l 0≠0→fN r i=some (i+l)
 | [],_,_,_,h=>(h rfl).elim
 |x::r,i,0,_,h=>by
  unfold fN
  rw[if_neg (show¬x=0 from h)];rfl
 |x::r,i,l+1,hz,h=>by
  unfold fN
  rw[if_pos (show x=0 from hz 0 (Nat.zero_lt_succ _)),uG r (i+1) l (fun c hc=>hz (c+1) (Nat.succ_lt_succ hc)) h,Nat.add_right_comm]
  rfl
theorem qS:∀(r:List Int) (i:Nat),fN r i=none→∀c,r.getD c 0=0
 | [],_,_,_=>rfl
 |x::r,i,h,c=>by
  unfold fN at h
  split at h
  · cases c with
    |zero=>assumption
    |succ c=>exact qS r (i+1) h c
  · cases h
theorem qI:∀(r:List Int) (i l:Nat),fN r i=some l→∃k,l=i+k∧k<r.length∧r.getD k 0≠0
 | [],_,_,h=>by cases h
 |x::r,i,l,h=>by
  unfold fN at h
  split at h
  · obtain⟨k,e,hk,hr⟩:=qI r (i+1) l h
    exact⟨k+1,by(first|lia|omega),Nat.succ_lt_succ hk,hr⟩
  · cases h
    exact⟨0,rfl,Nat.succ_pos _,by assumption⟩
theorem sZ{r:List Int}{l:Nat}(h:∀c,c<l→r.getD c 0=0)(h':r.getD l 0≠0):kh r=some l:=by
 have:=uG r 0 l h h'
 rw[Nat.zero_add]at this
 exact this
noncomputable def eS:cO:=fun ds st K=>∃(t d:Int),ds=[.int t,.int d]∧d≠0∧K (.int (Mx.qn t d)) st
noncomputable def fY:List Str:=["top","bottom"]
noncomputable def og:DS:=(cv (ax mM (ax gg (ax cX (dC (.int 2)) (ab 0)) (ab 1)) (ax cX (dC (.int 2)) (ab 1))))
theorem Ba{a:Int}{m:Nat}(h:a.natAbs<2^m):Builtin.Int.intBits a≤m:=by
 unfold Builtin.Int.intBits
 by_cases h0:a.natAbs=0
 · have:a=0:=by(first|lia|omega)
   subst this
   simp
 · have:=(Nat.log2_lt h0).mpr h
   split<;>(first|lia|omega)
theorem mH{a b:Int}{m n:Nat}(ha:a.natAbs≤2^m)(hb:b.natAbs≤2^n)(h:m+n≤130000000):IntMulOk a b:=by
 have q:∀ {x:Int} {k:Nat},x.natAbs≤2^k→Builtin.Int.intBits x≤k+1:=fun{x k} h=>Ba (Nat.lt_of_le_of_lt h (Nat.pow_lt_pow_right (by decide) (Nat.lt_succ_self k)))
 have h1:=q ha
 have h2:=q hb
 have e:(2:Nat)^27=134217728:=by decide
 have z:Builtin.Int.intTooBig (Builtin.Int.intBits a+Builtin.Int.intBits b)=false:=by
  unfold Builtin.Int.intTooBig bitsLine
  exact decide_eq_false (by(first|lia|omega))
 unfold IntMulOk
 rw[z]
 simp
theorem oa:∀ds st K,eS ds st K→ds.length=2∧og {nx:=fun _ st'=>K .aC st',rt:=K} (bw fY ds) st:=by
 rintro ds st K ⟨t,d,rfl,hd,k⟩
 exact⟨rfl,dc (hV (by decide) (by decide)) (eU (dc (hV (by decide) (by decide)) (vK (by(first|lia|omega)) k)))⟩
noncomputable def gc:cO:=fun ds st K=>∃(n k o:Nat) (A:List (List Int)),ds=[.ref n,.int k,.int o]∧st[n]?=some (.lst (A.map ba))∧k<A.length∧o<A.length∧K (.ref st.length) (st++[.lst ((Mx.bF A k o).map ba)])
noncomputable def j8:List Str:=["rows","k","other","order"]
noncomputable def wM:DS:=(aG (bf 3 (b_ om (ae (ab 0) aj)))
 (aG (eP (ab 3) (ab 1) (ax bV (ab 0) (ab 2)))
 (aG (eP (ab 3) (ab 2) (ax bV (ab 0) (ab 1)))
 (cv (ab 3)))))
theorem dB{A:List (List Int)}{j:Nat}(h:j<A.length):dJ (A.map ba) (j:Int)=some (ba (A.getD j [])):=by
 refine g7 ?_
 rw[List.getElem?_map,List.getElem?_eq_getElem h,Mx.bc h];rfl
theorem kn{m k:Nat}(h:k<m):jK m (k:Int)=some k:=by
 have:=ll (i:=(k:Int)) (m:=m) (by(first|lia|omega)) (by(first|lia|omega))
 rw[Int.toNat_natCast]at this
 exact this
theorem hJ{A:List (List Int)}{k:Nat}{r:List Int}:(A.map ba).set k (ba r)=(A.set k r).map ba:=by rw[List.map_set]
theorem uO:∀ds st K,gc ds st K→ds.length=3∧wM {nx:=fun _ st'=>K .aC st',rt:=K} (bw j8 ds) st:=by
 rintro ds st K ⟨n,k,o,A,rfl,e,hk,ho,kk⟩
 refine⟨rfl,?_⟩
 have hn:n<st.length:=(List.getElem?_eq_some_iff.mp e).1
 refine Cf (aH e) ?_
 have e1:(st++[Cell.lst (A.map ba)])[n]?=some (.lst (A.map ba)):=by rw[List.getElem?_append_left hn];exact e
 have e2:(st++[Cell.lst (A.map ba)])[st.length]?=some (.lst (A.map ba)):=by simp
 refine a_ (aH e1) (dB ho) (fF e2 (by rw[List.length_map];exact kn hk) ?_)
 rw[hJ]
 have es:(st++[Cell.lst (A.map ba)]).set st.length (.lst ((A.set k (A.getD o [])).map ba))=st++[Cell.lst ((A.set k (A.getD o [])).map ba)]:=by
  rw[List.set_append_right _ _ (Nat.le_refl _),Nat.sub_self];rfl
 rw[es]
 have e3:(st++[Cell.lst ((A.set k (A.getD o [])).map ba)])[n]?=some (.lst (A.map ba)):=by rw[List.getElem?_append_left hn];exact e
 have e4:(st++[Cell.lst ((A.set k (A.getD o [])).map ba)])[st.length]?=some (.lst ((A.set k (A.getD o [])).map ba)):=by simp
 refine a_ (aH e3) (dB hk) (fF e4 (by rw[List.length_map,List.length_set];exact kn ho) ?_)
 rw[hJ]
 have es2:(st++[Cell.lst ((A.set k (A.getD o [])).map ba)]).set st.length (.lst (((A.set k (A.getD o [])).set o (A.getD k [])).map ba))=st++[Cell.lst ((Mx.bF A k o).map ba)]:=by
  rw[List.set_append_right _ _ (Nat.le_refl _),Nat.sub_self];rfl
 rw[es2]
 exact kk
noncomputable def iq:cO:=fun ds st K=>∃(d:D) (r:List Int),ds=[d]∧items? st d=some (ay r)∧r.length≤1000∧K (ba (r.map fun x=> -x)) st
noncomputable def mn:List Str:=["row"]
noncomputable def zP:DS:=(cv (du (e7 (ab 0)) [none] (bE 0) cG (mT i5 (ab 0))))
theorem yE:∀ds st K,iq ds st K→ds.length=1∧zP {nx:=fun _ st'=>K .aC st',rt:=K} (bw mn ds) st:=by
 rintro ds st K ⟨d,r,rfl,hd,hl,k⟩
 refine⟨rfl,?_⟩
 refine iO hd fun ok aI=>⟨cj (by unfold ay;rw[List.length_map];exact hl),?_⟩
 refine comp_map (g:=fun x=>match x with| .int a=> .int (-a)|_=> .aC) aI _ (fun x hx K' q=>?_) ?_
 · unfold ay at hx
   obtain⟨a,_,rfl⟩:=List.mem_map.mp hx
   exact⟨_,rfl,iV q⟩
 · have e:(ay r).map (fun x=>match x with| .int a=> .int (-a)|_=> .aC)=ay (r.map fun x=> -x):=by unfold ay;rw[List.map_map,List.map_map];rfl
   rw[e];exact k
structure Bn(st:ag)(b xb xu xc:Nat)(A U C:List (List Int)):Prop where
 eb:st[b]?=some (Cell.ins aq [("body",.ref xb),("turn",.ref xu),("back_columns",.ref xc)])
 e1:st[xb]?=some (Cell.lst (A.map ba))
 e2:st[xu]?=some (Cell.lst (U.map ba))
 e3:st[xc]?=some (Cell.lst (C.map ba))
 n1:xb≠xu
 n2:xb≠xc
 n3:xu≠xc
theorem jA{st:ag}{b x:Nat}{C:Addr}{fs:List (Str×D)}{xs:List D}(h1:st[b]?=some (Cell.ins C fs))(h2:st[x]?=some (Cell.lst xs)):b≠x:=fun z=>by rw[z,h2]at h1;cases h1
noncomputable def fB:cO:=fun ds st K=>∃(b N:Nat) (d:D) (A:List (List Int)),ds=[.ref b,d]∧st[b]?=some (.ins aq [])∧gX st d A∧A.length=N∧N≤8∧∀st',Bn st' b st.length (st.length+1) (st.length+2) A (Mx.units N) (Mx.units N)→st'.length=st.length+3→(∀m,m<st.length→m≠b→st'[m]?=st[m]?)→K .aC st'
noncomputable def gZ:List Str:=["self","rows"]
noncomputable def qp:DS:=(aG (lW aq "body" (ab 0) (ke (e7 (ab 1)) [none] (bE 0) cG (b_ ia (ae (ab 0) aj))))
 (aG (lW aq "turn" (ab 0) (ke (e7 (aP g8 (ae (b_ fQ (ae (ab 1) aj)) aj))) [none] (bE 0) cG (b_ ia (ae (ab 0) aj))))
 (lW aq "back_columns" (ab 0) (ke (e7 (aP g8 (ae (b_ fQ (ae (ab 1) aj)) aj))) [none] (bE 0) cG (b_ ia (ae (ab 0) aj))))))
theorem nD(f:Str)(v:D):∀fs:List (Str×D),(putD f v fs).length≤fs.length+1
 | []=>by simp[putD]
 |(g,x)::r=>by
  unfold putD
  split
  · simp
  · have:=nD f v r
    simp only[List.length_cons]
    (first|lia|omega)
theorem vB{st:ag}{A:List (List Int)}:bN st (A.map bU) A:=bN.tup
theorem tx(n:Nat):(Mx.units n).length=n:=by unfold Mx.units;simp
theorem pJ:∀ds st K,fB ds st K→ds.length=2∧qp {nx:=fun _ st'=>K .aC st',rt:=K} (bw gZ ds) st:=by
 rintro ds st K ⟨b,N,d,A,rfl,eb,hA,hl,hN,k⟩
 refine⟨rfl,?_⟩
 have hb:b<st.length:=(List.getElem?_eq_some_iff.mp eb).1
 obtain⟨da,hd,ra⟩:=hA.ex
 have hdl:=ra.len
 have lst:∀(e:D) (r:List Int),True:=fun _ _=>trivial
 refine iO hd fun ok aI=>⟨cj (by(first|lia|omega)),?_⟩
 refine fS ba aI ra (fun e r hr he K' q=>⟨_,rfl,g_ he q⟩) ?_
 have eb1:(st++[Cell.lst (A.map ba)])[b]?=some (.ins aq []):=by rw[List.getElem?_append_left hb];exact eb
 refine lb eb1 (by decide) ?_
 generalize hs1:(st++[Cell.lst (A.map ba)]).set b (.ins aq (putD "body" (.ref st.length) []))=st1
 have l1:st1.length=st.length+1:=by rw[←hs1];simp
 have f1:∀m,m<st.length→m≠b→st1[m]?=st[m]?:=fun m hm hmb=>by rw[←hs1,List.getElem?_set_ne (Ne.symm hmb),List.getElem?_append_left hm]
 have b1:st1[b]?=some (.ins aq (putD "body" (.ref st.length) [])):=by rw[←hs1,List.getElem?_set_self (by simp;(first|lia|omega))]
 have x1:st1[st.length]?=some (.lst (A.map ba)):=by rw[←hs1,List.getElem?_set_ne (by(first|lia|omega))];simp
 clear hs1
 have itd:∃da',items? st1 d=some da'∧da'.length=N:=by
  cases d with
  |ref n=>
   by_cases hnb:n=b
   · subst hnb
     unfold items? at hd
     simp only[eb]at hd
     cases hd
   · have hn:n<st.length:=by
      unfold items? at hd
      simp only at hd
      cases q:st[n]? with
      |none=>rw[q]at hd;cases hd
      |some c=>exact(List.getElem?_eq_some_iff.mp q).1
     refine⟨da,?_,by(first|lia|omega)⟩
     unfold items? at hd⊢
     simp only at hd⊢
     rw[f1 n hn hnb]
     exact hd
  |_=>exact⟨da,hd,by(first|lia|omega)⟩
 obtain⟨da1,hd1,hdl1⟩:=itd
 refine eA hd1 ?_
 rw[hdl1]
 refine⟨N,rfl,by(first|lia|omega),?_⟩
 refine mK ⟨cj (by rw[List.length_map,tx];(first|lia|omega)),?_⟩
 refine fS ba trivial vB (fun e r hr he K' q=>⟨_,rfl,g_ he q⟩) ?_
 have b2:(st1++[Cell.lst ((Mx.units N).map ba)])[b]?=some (.ins aq (putD "body" (.ref st.length) [])):=by rw[List.getElem?_append_left (by(first|lia|omega))];exact b1
 refine lb b2 (by have:=nD "body" (.ref st.length) [];simp only[List.length_nil]at this;(first|lia|omega)) ?_
 generalize hs2:(st1++[Cell.lst ((Mx.units N).map ba)]).set b (.ins aq (putD "turn" (.ref st1.length) (putD "body" (.ref st.length) [])))=st2
 have l2:st2.length=st.length+2:=by rw[←hs2];simp;(first|lia|omega)
 have f2:∀m,m<st1.length→m≠b→st2[m]?=st1[m]?:=fun m hm hmb=>by rw[←hs2,List.getElem?_set_ne (Ne.symm hmb),List.getElem?_append_left hm]
 have b2':st2[b]?=some (.ins aq (putD "turn" (.ref st1.length) (putD "body" (.ref st.length) []))):=by rw[←hs2,List.getElem?_set_self (by simp;(first|lia|omega))]
 have x2:st2[st1.length]?=some (.lst ((Mx.units N).map ba)):=by rw[←hs2,List.getElem?_set_ne (by(first|lia|omega))];simp
 clear hs2
 have itd2:items? st2 d=some da1:=by
  cases d with
  |ref n=>
   by_cases hnb:n=b
   · subst hnb
     unfold items? at hd1
     simp only[b1]at hd1
     cases hd1
   · have hn:n<st1.length:=by
      unfold items? at hd1
      simp only at hd1
      cases q:st1[n]? with
      |none=>rw[q]at hd1;cases hd1
      |some c=>exact(List.getElem?_eq_some_iff.mp q).1
     unfold items? at hd1⊢
     simp only at hd1⊢
     rw[f2 n hn hnb]
     exact hd1
  |_=>exact hd1
 refine eA itd2 ?_
 rw[hdl1]
 refine⟨N,rfl,by(first|lia|omega),?_⟩
 refine mK ⟨cj (by rw[List.length_map,tx];(first|lia|omega)),?_⟩
 refine fS ba trivial vB (fun e r hr he K' q=>⟨_,rfl,g_ he q⟩) ?_
 have b3:(st2++[Cell.lst ((Mx.units N).map ba)])[b]?=some (.ins aq (putD "turn" (.ref st1.length) (putD "body" (.ref st.length) []))):=by rw[List.getElem?_append_left (by(first|lia|omega))];exact b2'
 refine lb b3 (by have h1:=nD "body" (.ref st.length) [];have h2:=nD "turn" (.ref st1.length) (putD "body" (.ref st.length) []);simp only[List.length_nil]at h1;(first|lia|omega)) ?_
 refine k _ ⟨?_,?_,?_,?_,by(first|lia|omega),by(first|lia|omega),by(first|lia|omega)⟩ (by simp;(first|lia|omega)) fun m hm hmb=>?_
 · rw[List.getElem?_set_self (by simp;(first|lia|omega)),l1,l2];rfl
 · rw[List.getElem?_set_ne (by(first|lia|omega)),List.getElem?_append_left (by(first|lia|omega)),f2 _ (by(first|lia|omega)) (by(first|lia|omega))];exact x1
 · rw[List.getElem?_set_ne (by(first|lia|omega)),List.getElem?_append_left (by(first|lia|omega))]
   rw[l1]at x2
   exact x2
 · rw[List.getElem?_set_ne (by(first|lia|omega))]
   rw[show st.length+2=st2.length by(first|lia|omega)]
   simp
 · rw[List.getElem?_set_ne (Ne.symm hmb),List.getElem?_append_left (by(first|lia|omega)),f2 m (by(first|lia|omega)) hmb,f1 m hm hmb]
noncomputable def fA:cO:=fun ds st K=>∃(b xb xu xc N w k j:Nat) (A U C:List (List Int)) (q:Int),ds=[.ref b,.int k,.int q,.int j]∧Bn st b xb xu xc A U C∧Mx.cE N w A∧Mx.cE N N U∧Mx.cE N N C∧k<N∧j<N∧N≤8∧w≤9∧(∀x∈A.getD j [],IntMulOk (-q) x)∧(∀x∈U.getD j [],IntMulOk (-q) x)∧(∀x∈C.getD k [],IntMulOk q x)∧
 ∀st',Bn st' b xb xu xc (Mx.bI A k q j) (Mx.bI U k q j) (Mx.bI C j (-q) k)→st'.length=st.length→(∀m,m≠xb→m≠xu→m≠xc→st'[m]?=st[m]?)→K .aC st'
noncomputable def ju:List Str:=["self","k","times","other"]
noncomputable def uK:DS:=(aG (eP (dO aq "body" (ab 0)) (ab 1) (aP iC (ae (ax bV (dO aq "body" (ab 0)) (ab 1)) (ae (mT i5 (ab 2)) (ae (ax bV (dO aq "body" (ab 0)) (ab 3)) aj)))))
 (aG (eP (dO aq "turn" (ab 0)) (ab 1) (aP iC (ae (ax bV (dO aq "turn" (ab 0)) (ab 1)) (ae (mT i5 (ab 2)) (ae (ax bV (dO aq "turn" (ab 0)) (ab 3)) aj)))))
 (eP (dO aq "back_columns" (ab 0)) (ab 3) (aP iC (ae (ax bV (dO aq "back_columns" (ab 0)) (ab 3)) (ae (ab 2) (ae (ax bV (dO aq "back_columns" (ab 0)) (ab 1)) aj)))))))
theorem t8:∀ds st K,fA ds st K→ds.length=4∧uK {nx:=fun _ st'=>K .aC st',rt:=K} (bw ju ds) st:=by
 rintro ds st K ⟨b,xb,xu,xc,N,w,k,j,A,U,C,q,rfl,B,hA,hU,hC,hk,hj,hN,hw,mA,mU,mC,kk⟩
 refine⟨rfl,?_⟩
 have lA:=hA.len
 have lU:=hU.len
 have lC:=hC.len
 have rA:=Mx.cH hA hk
 have rU:=Mx.cH hU hk
 have rC:=Mx.cH hC hj
 have bx1:=jA B.eb B.e1
 have bx2:=jA B.eb B.e2
 have bx3:=jA B.eb B.e3
 have n1:=B.n1
 have n2:=B.n2
 have n3:=B.n3
 refine cB B.eb rfl (a_ (aH B.e1) (dB (by(first|lia|omega))) (iV (cB B.eb rfl (a_ (aH B.e1) (dB (by(first|lia|omega))) ?_))))
 refine⟨_,_,-q,A.getD k [],A.getD j [],rfl,rfl,rfl,by(first|lia|omega),mA,?_⟩
 refine cB B.eb rfl (fF B.e1 (by rw[List.length_map,lA];exact kn hk) ?_)
 rw[hJ]
 have g1:∀m,m≠xb→(st.set xb (.lst ((A.set k (Mx.dR (A.getD k []) (-q) (A.getD j []))).map ba)))[m]?=st[m]?:=fun m hm=>List.getElem?_set_ne (Ne.symm hm)
 have h1:(st.set xb (.lst ((A.set k (Mx.dR (A.getD k []) (-q) (A.getD j []))).map ba)))[xb]?=some (.lst ((Mx.bI A k q j).map ba)):=List.getElem?_set_self (List.getElem?_eq_some_iff.mp B.e1).1
 have z1:(st.set xb (.lst ((A.set k (Mx.dR (A.getD k []) (-q) (A.getD j []))).map ba))).length=st.length:=List.length_set
 generalize st.set xb (.lst ((A.set k (Mx.dR (A.getD k []) (-q) (A.getD j []))).map ba))=st1 at g1 h1 z1⊢
 have eb1:=(g1 b bx1).trans B.eb
 have e21:=(g1 xu (Ne.symm n1)).trans B.e2
 have e31:=(g1 xc (Ne.symm n2)).trans B.e3
 refine cB eb1 rfl (a_ (aH e21) (dB (by(first|lia|omega))) (iV (cB eb1 rfl (a_ (aH e21) (dB (by(first|lia|omega))) ?_))))
 refine⟨_,_,-q,U.getD k [],U.getD j [],rfl,rfl,rfl,by(first|lia|omega),mU,?_⟩
 refine cB eb1 rfl (fF e21 (by rw[List.length_map,lU];exact kn hk) ?_)
 rw[hJ]
 have g2:∀m,m≠xu→(st1.set xu (.lst ((U.set k (Mx.dR (U.getD k []) (-q) (U.getD j []))).map ba)))[m]?=st1[m]?:=fun m hm=>List.getElem?_set_ne (Ne.symm hm)
 have h2:(st1.set xu (.lst ((U.set k (Mx.dR (U.getD k []) (-q) (U.getD j []))).map ba)))[xu]?=some (.lst ((Mx.bI U k q j).map ba)):=List.getElem?_set_self (List.getElem?_eq_some_iff.mp e21).1
 have z2:(st1.set xu (.lst ((U.set k (Mx.dR (U.getD k []) (-q) (U.getD j []))).map ba))).length=st1.length:=List.length_set
 generalize st1.set xu (.lst ((U.set k (Mx.dR (U.getD k []) (-q) (U.getD j []))).map ba))=st2 at g2 h2 z2⊢
 have eb2:=(g2 b bx2).trans eb1
 have e32:=(g2 xc (Ne.symm n3)).trans e31
 refine cB eb2 rfl (a_ (aH e32) (dB (by(first|lia|omega))) (cB eb2 rfl (a_ (aH e32) (dB (by(first|lia|omega))) ?_)))
 refine⟨_,_,q,C.getD j [],C.getD k [],rfl,rfl,rfl,by(first|lia|omega),mC,?_⟩
 refine cB eb2 rfl (fF e32 (by rw[List.length_map,lC];exact kn hj) ?_)
 rw[hJ]
 have hc:C.set j (Mx.dR (C.getD j []) q (C.getD k []))=Mx.bI C j (-q) k:=by unfold Mx.bI;rw[Int.neg_neg]
 rw[hc]
 refine kk _ ⟨?_,?_,?_,?_,n1,n2,n3⟩ (by rw[List.length_set];(first|lia|omega)) fun m m1 m2 m3=>?_
 · rw[List.getElem?_set_ne (Ne.symm bx3)];exact eb2
 · rw[List.getElem?_set_ne (Ne.symm n2),g2 _ n1];exact h1
 · rw[List.getElem?_set_ne (Ne.symm n3)];exact h2
 · exact List.getElem?_set_self (List.getElem?_eq_some_iff.mp e32).1
 · rw[List.getElem?_set_ne (Ne.symm m3),g2 m m2,g1 m m1]
noncomputable def fz:cO:=fun ds st K=>∃(b xb xu xc N w k o:Nat) (A U C:List (List Int)),ds=[.ref b,.int k,.int o]∧Bn st b xb xu xc A U C∧Mx.cE N w A∧Mx.cE N N U∧Mx.cE N N C∧k<N∧o<N∧
 ∀st',Bn st' b st.length (st.length+1) (st.length+2) (Mx.bF A k o) (Mx.bF U k o) (Mx.bF C k o)→st'.length=st.length+3→(∀m,m<st.length→m≠b→st'[m]?=st[m]?)→K .aC st'
noncomputable def gW:List Str:=["self","k","other"]
noncomputable def qh:DS:=(aG (lW aq "body" (ab 0) (aP gc (ae (dO aq "body" (ab 0)) (ae (ab 1) (ae (ab 2) aj)))))
 (aG (lW aq "turn" (ab 0) (aP gc (ae (dO aq "turn" (ab 0)) (ae (ab 1) (ae (ab 2) aj)))))
 (lW aq "back_columns" (ab 0) (aP gc (ae (dO aq "back_columns" (ab 0)) (ae (ab 1) (ae (ab 2) aj)))))))
theorem pM:∀ds st K,fz ds st K→ds.length=3∧qh {nx:=fun _ st'=>K .aC st',rt:=K} (bw gW ds) st:=by
 rintro ds st K ⟨b,xb,xu,xc,N,w,k,o,A,U,C,rfl,B,hA,hU,hC,hk,ho,kk⟩
 refine⟨rfl,?_⟩
 have lA:=hA.len
 have lU:=hU.len
 have lC:=hC.len
 have bx1:=jA B.eb B.e1
 have bx2:=jA B.eb B.e2
 have bx3:=jA B.eb B.e3
 have hb:b<st.length:=(List.getElem?_eq_some_iff.mp B.eb).1
 have hu:xu<st.length:=(List.getElem?_eq_some_iff.mp B.e2).1
 have hc:xc<st.length:=(List.getElem?_eq_some_iff.mp B.e3).1
 refine cB B.eb rfl ?_
 refine⟨xb,k,o,A,rfl,B.e1,by(first|lia|omega),by(first|lia|omega),?_⟩
 have eb1:(st++[Cell.lst ((Mx.bF A k o).map ba)])[b]?=some (.ins aq [("body",.ref xb),("turn",.ref xu),("back_columns",.ref xc)]):=by rw[List.getElem?_append_left hb];exact B.eb
 refine lb eb1 (by simp) ?_
 have pb:putD "body" (.ref st.length) [("body",.ref xb),("turn",.ref xu),("back_columns",.ref xc)]=([("body",.ref st.length),("turn",.ref xu),("back_columns",.ref xc)]:List (Str×D)):=rfl
 rw[pb]
 generalize hs1:(st++[Cell.lst ((Mx.bF A k o).map ba)]).set b (.ins aq [("body",.ref st.length),("turn",.ref xu),("back_columns",.ref xc)])=st1
 have l1:st1.length=st.length+1:=by rw[←hs1];simp
 have f1:∀m,m<st.length→m≠b→st1[m]?=st[m]?:=fun m hm hmb=>by rw[←hs1,List.getElem?_set_ne (Ne.symm hmb),List.getElem?_append_left hm]
 have b1:st1[b]?=some (.ins aq [("body",.ref st.length),("turn",.ref xu),("back_columns",.ref xc)]):=by rw[←hs1,List.getElem?_set_self (by simp;(first|lia|omega))]
 have x1:st1[st.length]?=some (.lst ((Mx.bF A k o).map ba)):=by rw[←hs1,List.getElem?_set_ne (by(first|lia|omega))];simp
 clear hs1 eb1
 refine cB b1 rfl ?_
 refine⟨xu,k,o,U,rfl,(f1 xu hu (Ne.symm bx2)).trans B.e2,by(first|lia|omega),by(first|lia|omega),?_⟩
 have eb1:(st1++[Cell.lst ((Mx.bF U k o).map ba)])[b]?=some (.ins aq [("body",.ref st.length),("turn",.ref xu),("back_columns",.ref xc)]):=by rw[List.getElem?_append_left (by(first|lia|omega))];exact b1
 refine lb eb1 (by simp) ?_
 have pb:putD "turn" (.ref st1.length) [("body",.ref st.length),("turn",.ref xu),("back_columns",.ref xc)]=([("body",.ref st.length),("turn",.ref st1.length),("back_columns",.ref xc)]:List (Str×D)):=rfl
 rw[pb]
 generalize hs2:(st1++[Cell.lst ((Mx.bF U k o).map ba)]).set b (.ins aq [("body",.ref st.length),("turn",.ref st1.length),("back_columns",.ref xc)])=st2
 have l2:st2.length=st.length+2:=by rw[←hs2];simp;(first|lia|omega)
 have f2:∀m,m<st1.length→m≠b→st2[m]?=st1[m]?:=fun m hm hmb=>by rw[←hs2,List.getElem?_set_ne (Ne.symm hmb),List.getElem?_append_left hm]
 have b2:st2[b]?=some (.ins aq [("body",.ref st.length),("turn",.ref st1.length),("back_columns",.ref xc)]):=by rw[←hs2,List.getElem?_set_self (by simp;(first|lia|omega))]
 have x2:st2[st1.length]?=some (.lst ((Mx.bF U k o).map ba)):=by rw[←hs2,List.getElem?_set_ne (by(first|lia|omega))];simp
 clear hs2 eb1
 refine cB b2 rfl ?_
 refine⟨xc,k,o,C,rfl,((f2 xc (by(first|lia|omega)) (Ne.symm bx3)).trans (f1 xc hc (Ne.symm bx3))).trans B.e3,by(first|lia|omega),by(first|lia|omega),?_⟩
 have eb1:(st2++[Cell.lst ((Mx.bF C k o).map ba)])[b]?=some (.ins aq [("body",.ref st.length),("turn",.ref st1.length),("back_columns",.ref xc)]):=by rw[List.getElem?_append_left (by(first|lia|omega))];exact b2
 refine lb eb1 (by simp) ?_
 have pb:putD "back_columns" (.ref st2.length) [("body",.ref st.length),("turn",.ref st1.length),("back_columns",.ref xc)]=([("body",.ref st.length),("turn",.ref st1.length),("back_columns",.ref st2.length)]:List (Str×D)):=rfl
 rw[pb]
 refine kk _ ⟨?_,?_,?_,?_,by(first|lia|omega),by(first|lia|omega),by(first|lia|omega)⟩ (by simp;(first|lia|omega)) fun m hm hmb=>?_
 · rw[List.getElem?_set_self (by simp;(first|lia|omega)),l1,l2]
 · rw[List.getElem?_set_ne (by(first|lia|omega)),List.getElem?_append_left (by(first|lia|omega)),f2 _ (by(first|lia|omega)) (by(first|lia|omega))];exact x1
 · rw[List.getElem?_set_ne (by(first|lia|omega)),List.getElem?_append_left (by(first|lia|omega))]
   rw[l1]at x2
   exact x2
 · rw[List.getElem?_set_ne (by(first|lia|omega))]
   rw[show st.length+2=st2.length by(first|lia|omega)]
   simp
 · rw[List.getElem?_set_ne (Ne.symm hmb),List.getElem?_append_left (by(first|lia|omega)),f2 m (by(first|lia|omega)) hmb,f1 m hm hmb]
noncomputable def eh:cO:=fun ds st K=>∃(b xb xu xc N w k:Nat) (A U C:List (List Int)),ds=[.ref b,.int k]∧Bn st b xb xu xc A U C∧Mx.cE N w A∧Mx.cE N N U∧Mx.cE N N C∧k<N∧N≤8∧w≤9∧
 ∀st',Bn st' b xb xu xc (Mx.gy A k) (Mx.gy U k) (Mx.gy C k)→st'.length=st.length→(∀m,m≠xb→m≠xu→m≠xc→st'[m]?=st[m]?)→K .aC st'
noncomputable def fK:List Str:=["self","k"]
noncomputable def nX:DS:=(aG (eP (dO aq "body" (ab 0)) (ab 1) (aP iq (ae (ax bV (dO aq "body" (ab 0)) (ab 1)) aj)))
 (aG (eP (dO aq "turn" (ab 0)) (ab 1) (aP iq (ae (ax bV (dO aq "turn" (ab 0)) (ab 1)) aj)))
 (eP (dO aq "back_columns" (ab 0)) (ab 1) (aP iq (ae (ax bV (dO aq "back_columns" (ab 0)) (ab 1)) aj)))))
theorem nq:∀ds st K,eh ds st K→ds.length=2∧nX {nx:=fun _ st'=>K .aC st',rt:=K} (bw fK ds) st:=by
 rintro ds st K ⟨b,xb,xu,xc,N,w,k,A,U,C,rfl,B,hA,hU,hC,hk,hN,hw,kk⟩
 refine⟨rfl,?_⟩
 have lA:=hA.len
 have lU:=hU.len
 have lC:=hC.len
 have rA:=Mx.cH hA hk
 have rU:=Mx.cH hU hk
 have rC:=Mx.cH hC hk
 have bx1:=jA B.eb B.e1
 have bx2:=jA B.eb B.e2
 have bx3:=jA B.eb B.e3
 have n1:=B.n1
 have n2:=B.n2
 have n3:=B.n3
 refine cB B.eb rfl (a_ (aH B.e1) (dB (by(first|lia|omega))) ?_)
 refine⟨_,A.getD k [],rfl,rfl,by(first|lia|omega),?_⟩
 refine cB B.eb rfl (fF B.e1 (by rw[List.length_map,lA];exact kn hk) ?_)
 rw[hJ]
 have g1:∀m,m≠xb→(st.set xb (.lst ((A.set k ((A.getD k []).map fun x=> -x)).map ba)))[m]?=st[m]?:=fun m hm=>List.getElem?_set_ne (Ne.symm hm)
 have h1:(st.set xb (.lst ((A.set k ((A.getD k []).map fun x=> -x)).map ba)))[xb]?=some (.lst ((Mx.gy A k).map ba)):=List.getElem?_set_self (List.getElem?_eq_some_iff.mp B.e1).1
 have z1:(st.set xb (.lst ((A.set k ((A.getD k []).map fun x=> -x)).map ba))).length=st.length:=List.length_set
 generalize st.set xb (.lst ((A.set k ((A.getD k []).map fun x=> -x)).map ba))=st1 at g1 h1 z1⊢
 have eb1:=(g1 b bx1).trans B.eb
 have e21:=(g1 xu (Ne.symm n1)).trans B.e2
 have e31:=(g1 xc (Ne.symm n2)).trans B.e3
 refine cB eb1 rfl (a_ (aH e21) (dB (by(first|lia|omega))) ?_)
 refine⟨_,U.getD k [],rfl,rfl,by(first|lia|omega),?_⟩
 refine cB eb1 rfl (fF e21 (by rw[List.length_map,lU];exact kn hk) ?_)
 rw[hJ]
 have g2:∀m,m≠xu→(st1.set xu (.lst ((U.set k ((U.getD k []).map fun x=> -x)).map ba)))[m]?=st1[m]?:=fun m hm=>List.getElem?_set_ne (Ne.symm hm)
 have h2:(st1.set xu (.lst ((U.set k ((U.getD k []).map fun x=> -x)).map ba)))[xu]?=some (.lst ((Mx.gy U k).map ba)):=List.getElem?_set_self (List.getElem?_eq_some_iff.mp e21).1
 have z2:(st1.set xu (.lst ((U.set k ((U.getD k []).map fun x=> -x)).map ba))).length=st1.length:=List.length_set
 generalize st1.set xu (.lst ((U.set k ((U.getD k []).map fun x=> -x)).map ba))=st2 at g2 h2 z2⊢
 have eb2:=(g2 b bx2).trans eb1
 have e32:=(g2 xc (Ne.symm n3)).trans e31
 refine cB eb2 rfl (a_ (aH e32) (dB (by(first|lia|omega))) ?_)
 refine⟨_,C.getD k [],rfl,rfl,by(first|lia|omega),?_⟩
 refine cB eb2 rfl (fF e32 (by rw[List.length_map,lC];exact kn hk) ?_)
 rw[hJ]
 refine kk _ ⟨?_,?_,?_,?_,n1,n2,n3⟩ (by rw[List.length_set];(first|lia|omega)) fun m m1 m2 m3=>?_
 · rw[List.getElem?_set_ne (Ne.symm bx3)];exact eb2
 · rw[List.getElem?_set_ne (Ne.symm n2),g2 _ n1];exact h1
 · rw[List.getElem?_set_ne (Ne.symm n3)];exact h2
 · exact List.getElem?_set_self (List.getElem?_eq_some_iff.mp e32).1
 · rw[List.getElem?_set_ne (Ne.symm m3),g2 m m2,g1 m m1]
noncomputable def d9:cO:=fun ds st K=>∃(b xb xu xc N w top p:Nat) (A U C:List (List Int)) (f:Bool),ds=[.ref b,.int top,.int p]∧Bn st b xb xu xc A U C∧Mx.cE N w A∧top≤N∧N≤8∧p<w∧w≤9∧st[0]?=some (gf f)∧
 ∀L,Mx.i3 A N top p L→K (.lst (L.map fun(k:Nat)=> .int (k:Int))) (st.set 0 (gf true))
noncomputable def gp:List Str:=["self","top","place","live"]
noncomputable def pG:DS:=(aG (bf 3 (du (la (ae (ab 1) (ae (b_ fQ (ae (dO aq "body" (ab 0)) aj)) aj))) [none,some 0,some 2] (bE 0) (bQ (ax mJ (ax bV (ax bV (dO aq "body" (ab 1)) (ab 0)) (ab 2)) (dC (.int 0)))) (ab 0)))
 (cv (vp 0 105 ⟨53,32,53,66⟩ "Bench.live_rows.<locals>.<lambda>" [none,some 0,some 2] (b_ mw (ae (ax bV (ax bV (dO aq "body" (ab 1)) (ab 0)) (ab 2)) aj)) (ab 3))))
theorem rN{a b:Prop}(h:b):if false=true then a else b:=h
theorem E1{st:ag}{b:Nat}{C:Addr}{fs:List (Str×D)}{f:Bool}(h1:st[b]?=some (Cell.ins C fs))(h2:st[0]?=some (gf f)):b≠0:=fun z=>by rw[z,h2]at h1;cases h1
theorem mN{st:ag}{b:Nat}{xs:List D}{f:Bool}(h1:st[b]?=some (Cell.lst xs))(h2:st[0]?=some (gf f)):b≠0:=fun z=>by rw[z,h2]at h1;cases h1
theorem Bn.keep{st st':ag}{b xb xu xc:Nat}{A U C:List (List Int)}(B:Bn st b xb xu xc A U C)(h:∀m,m=b∨m=xb∨m=xu∨m=xc→st'[m]?=st[m]?):Bn st' b xb xu xc A U C:=
 ⟨(h b (.inl rfl)).trans B.eb,(h xb (.inr (.inl rfl))).trans B.e1,(h xu (.inr (.inr (.inl rfl)))).trans B.e2,(h xc (.inr (.inr (.inr rfl)))).trans B.e3,B.n1,B.n2,B.n3⟩
theorem Bn.tab{st:ag}{b xb xu xc:Nat}{A U C:List (List Int)}{f:Bool}(B:Bn st b xb xu xc A U C)(h:st[0]?=some (gf f))(c:Cell):Bn (st.set 0 c) b xb xu xc A U C:=
 B.keep fun m hm=>List.getElem?_set_ne fun z=>by
  subst z
  rcases hm with rfl|rfl|rfl|rfl
  · exact E1 B.eb h rfl
  · exact mN B.e1 h rfl
  · exact mN B.e2 h rfl
  · exact mN B.e3 h rfl
theorem lp{r:List Int}{k:Nat}(h:k<r.length):dJ (ay r) (k:Int)=some (.int (r.getD k 0)):=by
 refine g7 ?_
 unfold ay
 rw[List.getElem?_map,List.getElem?_eq_getElem h,Mx.bc h];rfl
noncomputable def fk(A:List (List Int))(N top p:Nat):List Nat:=(List.range (N-top)).filterMap fun i=>if Mx.g A (top+i) p≠0 then some (top+i)else none
theorem tE{A:List (List Int)}{N top p k:Nat}:k∈fk A N top p↔top≤k∧k<N∧Mx.g A k p≠0:=by
 unfold fk
 rw[List.mem_filterMap]
 constructor
 · rintro⟨i,hi,e⟩
   rw[List.mem_range]at hi
   split at e
   · rename_i h;cases e;exact⟨by(first|lia|omega),by(first|lia|omega),h⟩
   · cases e
 · rintro⟨h1,h2,h3⟩
   refine⟨k-top,List.mem_range.mpr (by(first|lia|omega)),?_⟩
   rw[show top+(k-top)=k by(first|lia|omega),if_pos h3]
theorem pw_filterMap{f:Nat→Option Nat}(h:∀i j a b,i<j→f i=some a→f j=some b→a<b):∀ {l:List Nat},l.Pairwise (· < ·)→(l.filterMap f).Pairwise (· < ·)
 | [],_=>by simp
 |x::l,hl=>by
  obtain⟨h1,h2⟩:=List.pairwise_cons.mp hl
  rw[List.filterMap_cons]
  split
  · exact pw_filterMap h h2
  · rename_i a e
    refine List.pairwise_cons.mpr ⟨fun b hb=>?_,pw_filterMap h h2⟩
    obtain⟨j,hj,ej⟩:=List.mem_filterMap.mp hb
    exact h x j a b (h1 j hj) e ej
theorem pw_liveR{A:List (List Int)}{N top p:Nat}:(fk A N top p).Pairwise (· < ·):=by
 unfold fk
 refine pw_filterMap (fun i j a b hij ha hb=>?_) List.pairwise_lt_range
 split at ha
 · split at hb
   · cases ha;cases hb;(first|lia|omega)
   · cases hb
 · cases ha
theorem tV{f:Nat→Option Nat}(l:List Nat):(l.filterMap f).length≤l.length:=List.length_filterMap_le ..
theorem ED{A:List (List Int)}{N top p:Nat}{os:List (Int×Int)}(hp:os.Perm (((fk A N top p).map fun(k:Nat)=>(((Mx.g A k p).natAbs:Nat):Int)).zip ((fk A N top p).map fun(k:Nat)=>(k:Int))))(hs:os.Pairwise slt):
 Mx.i3 A N top p (os.map fun q=>q.2.toNat)∧os.map (fun q=>D.int q.2)=(os.map fun q=>q.2.toNat).map fun(k:Nat)=>D.int (k:Int):=by
 have hz:((fk A N top p).map fun(k:Nat)=>(((Mx.g A k p).natAbs:Nat):Int)).zip ((fk A N top p).map fun(k:Nat)=>(k:Int))=(fk A N top p).map fun k=>((((Mx.g A k p).natAbs:Nat):Int),(k:Int)):=by
  exact List.zip_map' ..
 rw[hz]at hp
 have hm:∀q∈os,∃k,k∈fk A N top p∧q=((((Mx.g A k p).natAbs:Nat):Int),(k:Int)):=fun q hq=>by
  obtain⟨k,h1,h2⟩:=List.mem_map.mp (hp.mem_iff.mp hq)
  exact⟨k,h1,h2.symm⟩
 refine⟨⟨fun k=>?_,?_,?_⟩,?_⟩
 · rw[←tE]
   constructor
   · intro h
     obtain⟨q,hq,e⟩:=List.mem_map.mp h
     obtain⟨j,h1,rfl⟩:=hm q hq
     simp only[Int.toNat_natCast]at e
     rw[←e];exact h1
   · intro h
     exact List.mem_map.mpr ⟨((((Mx.g A k p).natAbs:Nat):Int),(k:Int)),hp.mem_iff.mpr (List.mem_map.mpr ⟨k,h,rfl⟩),by simp⟩
 · rw[List.pairwise_map]
   refine hs.imp_of_mem fun{x y} hx hy h=>?_
   obtain⟨j,_,rfl⟩:=hm x hx
   obtain⟨k,_,rfl⟩:=hm y hy
   unfold slt at h
   simp only[Int.toNat_natCast]
   (first|lia|omega)
 · have e:((fk A N top p).map fun k=>((((Mx.g A k p).natAbs:Nat):Int),(k:Int))).map (fun q=>q.2.toNat)=fk A N top p:=by
    rw[List.map_map]
    exact(List.map_congr_left fun k _=>Int.toNat_natCast k).trans (List.map_id _)
   have hq:=hp.map fun q=>q.2.toNat
   rw[e]at hq
   exact hq.nodup_iff.mpr (pw_liveR.imp fun h=>Nat.ne_of_lt h)
 · rw[List.map_map]
   refine List.map_congr_left fun q hq=>?_
   obtain⟨j,_,rfl⟩:=hm q hq
   simp
theorem oA:∀ds st K,d9 ds st K→ds.length=3∧pG {nx:=fun _ st'=>K .aC st',rt:=K} (bw gp ds) st:=by
 rintro ds st K ⟨b,xb,xu,xc,N,w,top,p,A,U,C,f,rfl,B,hA,ht,hN,hp,hw,h0,k⟩
 refine⟨rfl,?_⟩
 have lA:=hA.len
 have rowA:∀i,i<N→(A.getD i []).length=w:=fun i hi=>Mx.cH hA hi
 refine cB B.eb rfl (eA (aH B.e1) ?_)
 rw[List.length_map,lA]
 refine rV ⟨by(first|lia|omega),by(first|lia|omega),by(first|lia|omega),by(first|lia|omega)⟩ ⟨cj (by unfold dw;simp;(first|lia|omega)),?_⟩
 have er:((N:Int)-(top:Int)).toNat=N-top:=by(first|lia|omega)
 rw[er]
 refine gQ (fun rest acc st'=>∃i:Nat,i≤N-top∧st'=st∧rest=(List.range (N-top-i)).map (fun j=>D.int ((top+i+j:Nat):Int))∧acc=((List.range i).filterMap fun i=>if Mx.g A (top+i) p≠0 then some (top+i)else none).map fun(k:Nat)=>D.int (k:Int)) ?_ ?_ _ _ _ ⟨0,Nat.zero_le _,rfl,by unfold dw;simp,by simp⟩
 · rintro acc st' ⟨i,hi,rfl,hr,rfl⟩
   have hi':i=N-top:=by
    rcases Nat.lt_or_ge i (N-top)with z|z
    · rw[show N-top-i=(N-top-i-1)+1 by(first|lia|omega),List.range_succ_eq_map]at hr;cases hr
    · (first|lia|omega)
   subst hi'
   refine⟨trivial,?_⟩
   have e1:((fk A N top p).map fun(k:Nat)=>D.int (k:Int))=((fk A N top p).map fun(k:Nat)=>(k:Int)).map D.int:=by rw[List.map_map];rfl
   refine⟨(fk A N top p).map fun(k:Nat)=>(k:Int),(fk A N top p).map fun(k:Nat)=>(((Mx.g A k p).natAbs:Nat):Int),f,congrArg D.lst e1,?_,?_,by rw[List.length_map,List.length_map],h0,fun i n q hn hq=>?_,fun os hp' hs=>?_⟩
   · rw[List.length_map]
     have:=tV (f:=fun i=>if Mx.g A (top+i) p≠0 then some (top+i)else none) (List.range (N-top))
     rw[List.length_range]at this
     show(fk A N top p).length<64
     unfold fk
     (first|lia|omega)
   · rw[List.pairwise_map]
     exact pw_liveR.imp fun h=>by(first|lia|omega)
   · rw[List.getElem?_map]at hn hq
     cases z:(fk A N top p)[i]? with
     |none=>rw[z]at hn;cases hn
     |some j=>
      rw[z]at hn hq
      cases hn;cases hq
      obtain⟨j1,j2,j3⟩:=tE.mp (List.mem_of_getElem? z)
      have B1:=B.tab h0 (gf true)
      refine cB B1.eb rfl (a_ (aH B1.e1) (dB (by(first|lia|omega))) (a_ rfl (lp (by rw[rowA j j2];exact hp)) (mI ⟨rfl,rfl⟩)))
   · obtain⟨h1,h2⟩:=ED hp' hs
     rw[h2]
     exact k _ h1
 · rintro d rest acc st' ⟨i,hi,rfl,hr,rfl⟩ next
   have hlt:i<N-top:=by
    rcases Nat.lt_or_ge i (N-top)with z|z
    · exact z
    · rw[show N-top-i=0 by(first|lia|omega)]at hr;cases hr
   rw[show N-top-i=(N-top-i-1)+1 by(first|lia|omega),List.range_succ_eq_map,List.map_cons,List.map_map]at hr
   obtain⟨rfl,rfl⟩:=List.cons.inj hr
   refine⟨trivial,_,rfl,?_⟩
   refine cB B.eb rfl (a_ (aH B.e1) (dB (j:=top+i+0) (by(first|lia|omega))) (a_ rfl (lp (by rw[rowA _ (by(first|lia|omega))];exact hp)) ?_))
   have e2:List.range (i+1)=List.range i++[i]:=List.range_succ
   have e3:((List.range (N-top-i-1)).map ((fun j=>D.int ((top+i+j:Nat):Int))∘Nat.succ))=(List.range (N-top-(i+1))).map fun j=>D.int ((top+(i+1)+j:Nat):Int):=by
    rw[show N-top-i-1=N-top-(i+1) by(first|lia|omega)]
    refine List.map_congr_left fun j _=>?_
    show D.int ((top+i+(j+1):Nat):Int)=_
    rw[show top+i+(j+1)=top+(i+1)+j by(first|lia|omega)]
   refine ne2 (fun h=>?_) fun h=>?_
   · refine(next _ _ ⟨i+1,by(first|lia|omega),rfl,e3,?_⟩)
     rw[e2,List.filterMap_append,List.map_append]
     have:Mx.g A (top+i) p≠0:=h
     simp[this]
   · refine(next _ _ ⟨i+1,by(first|lia|omega),rfl,e3,?_⟩)
     rw[e2,List.filterMap_append,List.map_append]
     have:Mx.g A (top+i) p=0:=h
     simp[this]
structure Bo(n0:Nat)(st st':ag)(b xb xu xc:Nat):Prop where
 lo:1≤n0∧n0≤b∧n0≤xb∧n0≤xu∧n0≤xc
 fr:∀m,m<n0→m≠0→st'[m]?=st[m]?
 tb:∃f,st'[0]?=some (gf f)
noncomputable def gE:cO:=fun ds st K=>∃(n0 b xb xu xc N w top p e u z:Nat) (A0 A U C:List (List Int)) (ld:Nat→Nat),ds=[.ref b,.int top,.int p]∧Bn st b xb xu xc A U C∧Bo n0 st st b xb xu xc∧Mx.h_ A0 N w ⟨A,U,C⟩ top p ld e u∧N≤8∧w≤9∧p<w∧z≤60000000∧(∀c,Mx.fe N top p ⟨A,U,C⟩ c→Mx.Sm c N (2^z))∧
 (∀st',Bn st' b xb xu xc A U C→Bo n0 st st' b xb xu xc→Mx.i3 A N top p []→K (.bl false) st')∧
 ∀st' xb' xu' xc' (c:Mx.B3) (r:Nat),Bn st' b xb' xu' xc' (Mx.setB c p top r).A (Mx.setB c p top r).U (Mx.setB c p top r).C→Bo n0 st st' b xb' xu' xc'→Mx.fe N top p ⟨A,U,C⟩ c→Mx.i3 c.A N top p [r]→K (.bl true) st'
noncomputable def iJ:List Str:=["self","top","place","live","great","small"]
noncomputable def sH:DS:=(aG (bf 3 (iQ aq "live_rows" d9 (ab 0) (ae (ab 1) (ae (ab 2) aj))))
 (aG (oi (bQ (ax nP (b_ fQ (ae (ab 3) aj)) (dC (.int 1)))) (aG (bf 4 (ax bV (ab 3) (mT i5 (dC (.int 1)))))
 (aG (bf 5 (ax bV (ab 3) (mT i5 (dC (.int 2)))))
 (aG (jx (iQ aq "take" fA (ab 0) (ae (ab 4) (ae (aP eS (ae (ax bV (ax bV (dO aq "body" (ab 0)) (ab 4)) (ab 2)) (ae (ax bV (ax bV (dO aq "body" (ab 0)) (ab 5)) (ab 2)) aj))) (ae (ab 5) aj)))))
 (bf 3 (iQ aq "live_rows" d9 (ab 0) (ae (ab 1) (ae (ab 2) aj))))))))
 (aG (fG (bQ (ax jN (b_ fQ (ae (ab 3) aj)) (dC (.int 0)))) (cv (dC (.bl false))) eM)
 (aG (jx (iQ aq "exchange" fz (ab 0) (ae (ab 1) (ae (ax bV (ab 3) (dC (.int 0))) aj))))
 (aG (fG (bQ (ax p8 (ax bV (ax bV (dO aq "body" (ab 0)) (ab 1)) (ab 2)) (dC (.int 0)))) (jx (iQ aq "change_sign" eh (ab 0) (ae (ab 1) aj))) eM)
 (cv (dC (.bl true))))))))
theorem Bo.FJ{n0:Nat}{st st':ag}{b xb xu xc:Nat}(h:Bo n0 st st' b xb xu xc):Bo n0 st (st'.set 0 (gf true)) b xb xu xc:=
 ⟨h.lo,fun m hm h0=>by rw[List.getElem?_set_ne (Ne.symm h0)];exact h.fr m hm h0,true,by
  obtain⟨f,e⟩:=h.tb
  exact List.getElem?_set_self (List.getElem?_eq_some_iff.mp e).1⟩
theorem Bo.low{n0:Nat}{st st1 st2:ag}{b xb xu xc:Nat}(h:Bo n0 st st1 b xb xu xc)(f:∀m,m≠xb→m≠xu→m≠xc→st2[m]?=st1[m]?):Bo n0 st st2 b xb xu xc:=by
 obtain⟨l1,l2,l3,l4,l5⟩:=h.lo
 refine⟨h.lo,fun m hm h0=>?_,?_⟩
 · rw[f m (by(first|lia|omega)) (by(first|lia|omega)) (by(first|lia|omega))];exact h.fr m hm h0
 · obtain⟨z,e⟩:=h.tb
   exact⟨z,by rw[f 0 (by(first|lia|omega)) (by(first|lia|omega)) (by(first|lia|omega))];exact e⟩
theorem vZ{n j:Nat}(h:1≤j)(h2:j≤n):jK n (-(j:Int))=some (n-j):=by
 unfold jK
 rw[if_neg (by(first|lia|omega)),if_pos (by(first|lia|omega))]
 congr 1
 (first|lia|omega)
theorem IV{L:List Nat}{j k:Nat}:dJ ((L++[j,k]).map fun(k:Nat)=>D.int (k:Int)) (-1)=some (.int (k:Int)):=by
 unfold dJ
 have:=vZ (n:=((L++[j,k]).map fun(k:Nat)=>D.int (k:Int)).length) (j:=1) (by decide) (by simp)
 rw[show(-((1:Nat):Int))= -1 from rfl]at this
 rw[this]
 simp
theorem IX{L:List Nat}{j k:Nat}:dJ ((L++[j,k]).map fun(k:Nat)=>D.int (k:Int)) (-2)=some (.int (j:Int)):=by
 unfold dJ
 have:=vZ (n:=((L++[j,k]).map fun(k:Nat)=>D.int (k:Int)).length) (j:=2) (by decide) (by simp)
 rw[show(-((2:Nat):Int))= -2 from rfl]at this
 rw[this]
 simp
theorem Bi:∀ {L:List Nat},1<L.length→∃M j k,L=M++[j,k]:=fun{L} h=>by
 refine⟨L.take (L.length-2),L[L.length-2]'(by omega),L[L.length-1]'(by omega),?_⟩
 have e1:L=L.take (L.length-2)++L.drop (L.length-2):=(List.take_append_drop _ _).symm
 have e2:L.drop (L.length-2)=[L[L.length-2]'(by omega),L[L.length-1]'(by omega)]:=by
  rw[List.drop_eq_getElem_cons (by(first|lia|omega)),List.drop_eq_getElem_cons (by(first|lia|omega)),List.drop_eq_nil_of_le (by(first|lia|omega))]
  congr 2
  congr 1
  (first|lia|omega)
 rw[←e2];exact e1
theorem rE:∀ds st K,gE ds st K→ds.length=3∧sH {nx:=fun _ st'=>K .aC st',rt:=K} (bw iJ ds) st:=by
 rintro ds st K ⟨n0,b,xb,xu,xc,N,w,top,p,e,u,z,A0,A,U,C,ld,rfl,B,O,S,hN,hw,hp,hzz,hz,kf,kt⟩
 refine⟨rfl,?_⟩
 have hle:=S.le
 obtain⟨f,h0⟩:=O.tb
 refine jb B.eb rfl ?_
 refine⟨b,xb,xu,xc,N,w,top,p,A,U,C,f,rfl,B,S.tn.isA,hle,hN,hp,hw,h0,fun L hL=>?_⟩
 have B1:=B.tab h0 (gf true)
 have O1:=O.FJ
 try dsimp only[aj]
 refine jU (fun σ st'=>∃(L:List Nat) (v4 v5:Option D) (c:Mx.B3) (gr:Nat),σ=[some (.ref b),some (.int top),some (.int p),some (.lst (L.map fun(k:Nat)=> .int (k:Int))),v4,v5]∧L.length≤1∧Bn st' b xb xu xc c.A c.U c.C∧Bo n0 st st' b xb xu xc∧Mx.fe N top p ⟨A,U,C⟩ c∧Mx.nR A0 N w top p (2^e) ⟨A,U,C⟩ c gr∧Mx.i3 c.A N top p L) (fun nx hnx=>?_) ?_
 · refine⟨fun m σ st'=>∃(L:List Nat) (v4 v5:Option D) (c:Mx.B3) (gr:Nat),σ=[some (.ref b),some (.int top),some (.int p),some (.lst (L.map fun(k:Nat)=> .int (k:Int))),v4,v5]∧Bn st' b xb xu xc c.A c.U c.C∧Bo n0 st st' b xb xu xc∧Mx.fe N top p ⟨A,U,C⟩ c∧Mx.nR A0 N w top p (2^e) ⟨A,U,C⟩ c gr∧Mx.i3 c.A N top p L∧m=Mx.mu c.A N p,⟨_,L,none,none,⟨A,U,C⟩,1,rfl,B1,O1,.refl _,S.wZ,hL,rfl⟩,?_⟩
   rintro m σ st1 ⟨L,v4,v5,c,gr,rfl,B,O,hR,hG,hL,rfl⟩
   refine eA rfl ?_
   rw[List.length_map]
   refine Ci (fun h=>eV ?_) fun h=>rN (hnx _ _ ⟨L,v4,v5,c,gr,rfl,by(first|lia|omega),B,O,hR,hG,hL⟩)
   obtain⟨M,j,k,rfl⟩:=Bi (L:=L) (by(first|lia|omega))
   refine iV (a_ rfl IV (iV (a_ rfl IX ?_)))
   obtain⟨G2,hlt,hoth,k1,k2,j1,j2,hjk,hj0⟩:=hG.step hp hL
   have T:=hG.tn
   have lA:=T.isA.len
   have hsm:=hz c hR
   refine jb B.eb rfl (cB B.eb rfl (a_ (aH B.e1) (dB (by(first|lia|omega))) (a_ rfl (lp (by rw[Mx.cH T.isA k2];exact hp)) (cB B.eb rfl (a_ (aH B.e1) (dB (by(first|lia|omega))) (a_ rfl (lp (by rw[Mx.cH T.isA j2];exact hp)) ?_))))))
   refine⟨_,_,rfl,hj0,?_⟩
   have hq:(Mx.qn (Mx.g c.A k p) (Mx.g c.A j p)).natAbs≤2^(z+1):=Nat.le_trans (Mx.IE hj0) (Mx.wj (hsm k p k2).1 (hsm j p j2).1)
   have hm:∀ {x:Int},x.natAbs≤2^z→IntMulOk (Mx.qn (Mx.g c.A k p) (Mx.g c.A j p)) x∧IntMulOk (-(Mx.qn (Mx.g c.A k p) (Mx.g c.A j p))) x:=fun{x} h=>
    ⟨mH hq h (by(first|lia|omega)),mH (by rw[Int.natAbs_neg];exact hq) h (by(first|lia|omega))⟩
   have mg:∀ {X:List (List Int)} {i:Nat} {x:Int},x∈X.getD i []→∃q,x=Mx.g X i q:=fun{X i x} hx=>by
    obtain⟨c,hc,rfl⟩:=List.mem_iff_getElem.mp hx
    exact⟨c,by unfold Mx.g;rw[Mx.bc hc]⟩
   refine⟨b,xb,xu,xc,N,w,k,j,c.A,c.U,c.C,_,rfl,B,T.isA,T.fP,T.gD,k2,j2,hN,hw,fun x hx=>(by obtain⟨q,rfl⟩:=mg hx;exact(hm (hsm j q j2).1).2),fun x hx=>(by obtain⟨q,rfl⟩:=mg hx;exact(hm (hsm j q j2).2.1).2),fun x hx=>(by obtain⟨q,rfl⟩:=mg hx;exact(hm (hsm k q k2).2.2).1),fun st2 B2 l2 f2=>?_⟩
   have O2:=O.low f2
   obtain⟨f',h0'⟩:=O2.tb
   refine jb B2.eb rfl ?_
   refine⟨b,xb,xu,xc,N,w,top,p,_,_,_,f',rfl,B2,G2.tn.isA,hle,hN,hp,hw,h0',fun L2 hL2=>?_⟩
   refine⟨_,?_,L2,_,_,Mx.jB c p k j,_,rfl,B2.tab h0' (gf true),O2.FJ,hR.tail ⟨M,k,j,hL,rfl⟩,G2,hL2,rfl⟩
   unfold Mx.mu
   refine Mx.Dc (k:=k) hlt k2 fun i hi=>?_
   by_cases h:i=k
   · rw[h];exact Nat.le_of_lt hlt
   · rw[hoth i h];exact Nat.le_refl _
 · rintro σ st1 ⟨L,v4,v5,c,gr,rfl,hl,B,O,hR,hG,hL⟩
   refine eA rfl ?_
   rw[List.length_map]
   match L,hl,hL with
   | [],_,hL=>
     refine eq2 (fun h=>eV ?_) fun h=>absurd rfl h
     have e0:c=⟨A,U,C⟩:=by
      rcases hG.Ik with z|⟨j,h1,h2,h3⟩
      · exact z
      · exact absurd ((hL.mem j).mpr ⟨h1,h2,h3⟩) (by simp)
     subst e0
     exact kf st1 B O hL
   | [r],_,hL=>
     refine eq2 (fun h=>absurd h (by simp)) fun h=>rN ?_
     obtain⟨s1,hr1,hr2⟩:=hG.set hL
     have ht:top<N:=by(first|lia|omega)
     have T:=hG.tn
     refine jb B.eb rfl (a_ rfl (show dJ ([r].map fun(k:Nat)=>D.int (k:Int)) 0=some (.int (r:Int))from rfl) ?_)
     refine⟨b,xb,xu,xc,N,w,top,r,c.A,c.U,c.C,rfl,B,T.isA,T.fP,T.gD,ht,hr2,fun st2 B2 l2 f2=>?_⟩
     obtain⟨l1,l2',l3,l4,l5⟩:=O.lo
     have hst:n0≤st1.length:=by
      have:=(List.getElem?_eq_some_iff.mp B.eb).1
      (first|lia|omega)
     have O2:Bo n0 st st2 b st1.length (st1.length+1) (st1.length+2):=by
      refine⟨⟨l1,l2',by(first|lia|omega),by(first|lia|omega),by(first|lia|omega)⟩,fun m hm h0=>?_,?_⟩
      · rw[f2 m (by(first|lia|omega)) (by(first|lia|omega))];exact O.fr m hm h0
      · obtain⟨z,e⟩:=O.tb
        exact⟨z,by rw[f2 0 (by(first|lia|omega)) (by(first|lia|omega))];exact e⟩
     have T1:=T.Cn ht hr2
     refine cB B2.eb rfl (a_ (aH B2.e1) (dB (by have:=T1.isA.len;(first|lia|omega))) (a_ rfl (lp (by rw[Mx.cH T1.isA ht];exact hp)) ?_))
     refine GP (fun h=>eV ?_) fun h=>rN ?_
     · have es:Mx.setB c p top r=⟨Mx.gy (Mx.bF c.A top r) top,Mx.gy (Mx.bF c.U top r) top,Mx.gy (Mx.bF c.C top r) top⟩:=if_pos h
       refine jb B2.eb rfl ?_
       refine⟨b,_,_,_,N,w,top,_,_,_,rfl,B2,T1.isA,T1.fP,T1.gD,ht,hN,hw,fun st3 B3 l3 f3=>?_⟩
       exact kt st3 _ _ _ c r (by rw[es];exact B3) (O2.low f3) hR hL
     · have es:Mx.setB c p top r=⟨Mx.bF c.A top r,Mx.bF c.U top r,Mx.bF c.C top r⟩:=if_neg (fun z=>by unfold Mx.g at z;(first|lia|omega))
       exact kt st2 _ _ _ c r (by rw[es];exact B2) O2 hR hL
noncomputable def eg:cO:=fun ds st K=>∃(b xb xu xc N w top p e u z:Nat) (A0 A U C:List (List Int)),ds=[.ref b,.int top,.int p]∧Bn st b xb xu xc A U C∧Mx.Tn A0 A U C N w∧N≤8∧w≤9∧p<w∧top<N∧0<Mx.g A top p∧(∀q,q<p→Mx.g A top q=0)∧
 (∀q,(Mx.g A top q).natAbs≤2^e∧(Mx.g U top q).natAbs≤2^e∧(Mx.g C top q).natAbs≤2^e)∧(∀i q,i<top→(Mx.g A i q).natAbs≤2^u∧(Mx.g U i q).natAbs≤2^u∧(Mx.g C i q).natAbs≤2^u)∧z≤60000000∧(∀k,k≤top→Mx.Sm (Mx.iN p top k ⟨A,U,C⟩) N (2^z))∧
 ∀st',Bn st' b xb xu xc (Mx.iN p top top ⟨A,U,C⟩).A (Mx.iN p top top ⟨A,U,C⟩).U (Mx.iN p top top ⟨A,U,C⟩).C→(∀m,m≠xb→m≠xu→m≠xc→st'[m]?=st[m]?)→K .aC st'
noncomputable def fM:List Str:=["self","top","place","k"]
noncomputable def nZ:DS:=(hW (dD (ae (ab 1) aj)) (bE 3) (jx (iQ aq "take" fA (ab 0) (ae (ab 3) (ae (ax mM (ax bV (ax bV (dO aq "body" (ab 0)) (ab 3)) (ab 2)) (ax bV (ax bV (dO aq "body" (ab 0)) (ab 1)) (ab 2))) (ae (ab 1) aj))))))
theorem xR{X:List (List Int)}{i:Nat}{x:Int}(hx:x∈X.getD i []):∃q,x=Mx.g X i q:=by
 obtain⟨c,hc,rfl⟩:=List.mem_iff_getElem.mp hx
 exact⟨c,by unfold Mx.g;rw[Mx.bc hc]⟩
theorem nj:∀ds st K,eg ds st K→ds.length=3∧nZ {nx:=fun _ st'=>K .aC st',rt:=K} (bw fM ds) st:=by
 rintro ds st K ⟨b,xb,xu,xc,N,w,top,p,e,u,z,A0,A,U,C,rfl,B,T,hN,hw,hp,ht,htp,hz,hlo,hhi,hzz,hsm,kk⟩
 refine⟨rfl,?_⟩
 refine eC ⟨by(first|lia|omega),by(first|lia|omega)⟩ ?_
 rw[Int.toNat_natCast]
 refine gL top (fun k σ st'=>∃v3:Option D,σ=[some (.ref b),some (.int top),some (.int p),v3]∧Bn st' b xb xu xc (Mx.iN p top k ⟨A,U,C⟩).A (Mx.iN p top k ⟨A,U,C⟩).U (Mx.iN p top k ⟨A,U,C⟩).C∧(∀m,m≠xb→m≠xu→m≠xc→st'[m]?=st[m]?)∧Mx.mB A0 N w top p e u ⟨A,U,C⟩ k (Mx.iN p top k ⟨A,U,C⟩)) ?_ ?_ ⟨none,rfl,B,fun _ _ _ _=>rfl,Mx.mB.start T fun q=>(hlo q).2.2⟩
 · rintro σ st' ⟨v3,rfl,B',f,I⟩
   exact kk st' B' f
 · rintro k σ st' rest hk ⟨v3,rfl,B',f,I⟩ next
   refine⟨_,rfl,?_⟩
   have hs:=I.step hk ht hp htp hz (fun q=>⟨(hlo q).1,(hlo q).2.1⟩) hhi
   have hs2:=hsm k (Nat.le_of_lt hk)
   generalize hc:Mx.iN p top k ⟨A,U,C⟩=c at*
   have lA:=I.tn.isA.len
   have kN:k<N:=by(first|lia|omega)
   have gA:∀i q,k≤i→Mx.g c.A i q=Mx.g A i q:=fun i q hi=>by unfold Mx.g;rw[(I.rA i hi).1]
   have hq:((Mx.g c.A k p).fdiv (Mx.g c.A top p)).natAbs≤2^z:=Nat.le_trans (Mx.vP _ (by rw[gA top p (by(first|lia|omega))];exact htp)) (hs2 k p kN).1
   have htp':Mx.g c.A top p≠0:=by rw[gA top p (by(first|lia|omega))];(first|lia|omega)
   refine jb B'.eb rfl (cB B'.eb rfl (a_ (aH B'.e1) (dB (by(first|lia|omega))) (a_ rfl (lp (by rw[Mx.cH I.tn.isA kN];exact hp)) (cB B'.eb rfl (a_ (aH B'.e1) (dB (by(first|lia|omega))) (a_ rfl (lp (by rw[Mx.cH I.tn.isA ht];exact hp)) (vK htp' ?_)))))))
   refine⟨b,xb,xu,xc,N,w,k,top,c.A,c.U,c.C,_,rfl,B',I.tn.isA,I.tn.fP,I.tn.gD,kN,ht,hN,hw,fun x hx=>?_,fun x hx=>?_,fun x hx=>?_,fun st2 B2 l2 f2=>?_⟩
   · obtain⟨q,rfl⟩:=xR hx
     exact mH (by rw[Int.natAbs_neg];exact hq) (hs2 top q ht).1 (by(first|lia|omega))
   · obtain⟨q,rfl⟩:=xR hx
     exact mH (by rw[Int.natAbs_neg];exact hq) (hs2 top q ht).2.1 (by(first|lia|omega))
   · obtain⟨q,rfl⟩:=xR hx
     exact mH hq (hs2 k q kN).2.2 (by(first|lia|omega))
   · have el:Mx.iN p top (k+1) ⟨A,U,C⟩=⟨Mx.bI c.A k ((Mx.g c.A k p).fdiv (Mx.g c.A top p)) top,Mx.bI c.U k ((Mx.g c.A k p).fdiv (Mx.g c.A top p)) top,Mx.bI c.C top (-((Mx.g c.A k p).fdiv (Mx.g c.A top p))) k⟩:=by rw[←hc];rfl
     refine next _ _ ⟨_,rfl,?_,fun m h1 h2 h3=>(f2 m h1 h2 h3).trans (f m h1 h2 h3),?_⟩
     · rw[el];exact B2
     · rw[el];exact hs
structure Bk(st st':ag):Prop where
 le:st.length≤st'.length
 fr:∀m,m<st.length→m≠0→st'[m]?=st[m]?
 tb:∃f,st'[0]?=some (gf f)
noncomputable def jE:cO:=fun ds st K=>∃(d:D) (N w e0 z:Nat) (A:List (List Int)) (f:Bool),ds=[d]∧gX st d A∧Mx.cE N w A∧1≤N∧N≤8∧w≤9∧Mx.iA A N 0 (2^e0)∧z≤60000000∧(∀p t c,p<w→Mx.kr A N p t c→Mx.y6 N p t z c)∧st[0]?=some (gf f)∧
 ∀st' (top:Nat) (c:Mx.B3),Mx.kr A N w top c→Bk st st'→K (.tup [gO (c.A.take top),gO c.U,gO (Mx.C8 c.C N)]) st'
noncomputable def kR:List Str:=["rows","bench","top","place","back"]
noncomputable def yc:DS:=(aG (bf 1 (yT aq fB (ae (ab 0) aj)))
 (aG (bf 2 (dC (.int 0)))
 (aG (hW (dD (ae (b_ fQ (ae (ax bV (ab 0) (dC (.int 0))) aj)) aj)) (bE 3) (fG (bQ (iQ aq "gather" gE (ab 1) (ae (ab 2) (ae (ab 3) aj)))) (aG (jx (iQ aq "lower_above" eg (ab 1) (ae (ab 2) (ae (ab 3) aj))))
 (yG 2 (vI (fun i j=>i+j)) (dC (.int 1)))) eM))
 (aG (bf 4 (aP g6 (ae (dO aq "back_columns" (ab 1)) (ae (b_ fQ (ae (ab 0) aj)) aj))))
 (cv (i6 (ae (aP je (ae (uz (dO aq "body" (ab 1)) sd (yP (ab 2))) aj)) (ae (aP je (ae (dO aq "turn" (ab 1)) aj)) (ae (ab 4) aj)))))))))
theorem sV{st st':ag}{f:Bool}(h0:st[0]?=some (gf f))(fr:∀m,m<st.length→m≠0→st'[m]?=st[m]?){d:D}{xs:List D}(h:items? st d=some xs):items? st' d=some xs:=by
 cases d with
 |ref n=>
  have e:=zV h
  have n0:n≠0:=mN e h0
  rw[aH ((fr n (List.getElem?_eq_some_iff.mp e).1 n0).trans e)]
 |_=>exact h
theorem tI{st st':ag}{f:Bool}(h0:st[0]?=some (gf f))(fr:∀m,m<st.length→m≠0→st'[m]?=st[m]?):∀ {ds:List D} {A:List (List Int)},bN st ds A→bN st' ds A
 | [],[],_=>trivial
 |_::_,_::_,h=>⟨sV h0 fr h.1,tI h0 fr h.2⟩
theorem qE{st st':ag}{f:Bool}(h0:st[0]?=some (gf f))(fr:∀m,m<st.length→m≠0→st'[m]?=st[m]?){d:D}{A:List (List Int)}(h:gX st d A):gX st' d A:=by
 obtain⟨ds,h1,h2⟩:=h.ex
 exact⟨ds,sV h0 fr h1,tI h0 fr h2⟩
theorem Gs{xs:List D}{j:Nat}:L3.cutD xs none (some (j:Int))=xs.take j:=by
 unfold L3.cutD
 rw[HT.EV,HT.BE,List.drop_zero,Nat.sub_zero]
 by_cases h:j≤xs.length
 · rw[Nat.min_eq_left h]
 · rw[Nat.min_eq_right (by(first|lia|omega)),List.take_length,List.take_of_length_le (by(first|lia|omega))]
theorem wB:∀ds st K,jE ds st K→ds.length=1∧yc {nx:=fun _ st'=>K .aC st',rt:=K} (bw kR ds) st:=by
 rintro ds st K ⟨d,N,w,e0,z,A,f,rfl,hd,hA,hN1,hN,hw,hlo,hzz,hsz,h0,kk⟩
 refine⟨rfl,?_⟩
 have lA:=hA.len
 have h0l:0<st.length:=(List.getElem?_eq_some_iff.mp h0).1
 have hd1:gX (st++[Cell.ins aq []]) d A:=qE h0 (fun m hm _=>List.getElem?_append_left hm) hd
 refine⟨st.length,N,d,A,rfl,by simp,hd1,lA,hN,fun st1 B1 l1 f1=>⟨rfl,?_⟩⟩
 have hl1:(st++[Cell.ins aq []]).length=st.length+1:=by simp
 have fr1:∀m,m<st.length→st1[m]?=st[m]?:=fun m hm=>by rw[f1 m (by(first|lia|omega)) (by(first|lia|omega)),List.getElem?_append_left hm]
 have O1:Bo st.length st st1 st.length (st.length+1) (st.length+1+1) (st.length+1+2):=⟨⟨h0l,by(first|lia|omega),by(first|lia|omega),by(first|lia|omega),by(first|lia|omega)⟩,fun m hm _=>fr1 m hm,f,(fr1 0 h0l).trans h0⟩
 rw[hl1]at B1
 have hdk:∀ {st':ag},(∀m,m<st.length→m≠0→st'[m]?=st[m]?)→gX st' d A:=fun h=>qE h0 h hd
 obtain⟨da,hda,hra⟩:=(hdk O1.fr).ex
 have hdl:=hra.len
 have hrow0:∃d0,da[0]?=some d0∧items? st1 d0=some (ay (A.getD 0 [])):=by
  have hi:0<da.length:=by(first|lia|omega)
  obtain⟨r,e1,e2⟩:=bN.get hra (List.getElem?_eq_getElem hi)
  refine⟨da[0],List.getElem?_eq_getElem hi,?_⟩
  have:A.getD 0 []=r:=by rw[List.getD_eq_getElem?_getD,e1];rfl
  rw[this];exact e2
 obtain⟨d0,hd0,hi0⟩:=hrow0
 have er:(ay (A.getD 0 [])).length=w:=by unfold ay;rw[List.length_map];exact Mx.cH hA (by(first|lia|omega))
 try dsimp only[aj]
 refine jU (A:=bf 2 _) (fun σ st'=>σ=[some d,some (.ref st.length),some (.int 0),none,none]∧st'=st1) (fun nx h=>h _ _ ⟨rfl,rfl⟩) ?_
 rintro _ _ ⟨rfl,rfl⟩
 refine jU (A:=hW _ _ _) (fun σ st'=>∃(top xb xu xc:Nat) (v3:Option D) (c:Mx.B3),σ=[some d,some (.ref st.length),some (.int top),v3,none]∧Bn st' st.length xb xu xc c.A c.U c.C∧Bo st.length st st' st.length xb xu xc∧Mx.kr A N w top c) (fun nx hnx=>?_) ?_
 · refine a_ hda (show dJ da 0=some d0 from g7 (j:=0) hd0) (eA hi0 ?_)
   rw[er]
   refine eC ⟨by(first|lia|omega),by(first|lia|omega)⟩ ?_
   rw[Int.toNat_natCast]
   refine gL w (fun p σ st'=>∃(top xb xu xc:Nat) (v3:Option D) (c:Mx.B3),σ=[some d,some (.ref st.length),some (.int top),v3,none]∧Bn st' st.length xb xu xc c.A c.U c.C∧Bo st.length st st' st.length xb xu xc∧Mx.kr A N p top c) ?_ ?_ ⟨0,_,_,_,none,⟨A,Mx.units N,Mx.units N⟩,rfl,B1,O1,.start⟩
   · rintro σ st' ⟨top,xb,xu,xc,v3,c,rfl,B,O,hC⟩
     exact hnx _ _ ⟨top,xb,xu,xc,v3,c,rfl,B,O,hC⟩
   · rintro p σ st' rest hp ⟨top,xb,xu,xc,v3,c,rfl,B,O,hC⟩ next
     refine⟨_,rfl,?_⟩
     obtain⟨ld,S⟩:=hC.Cm hA hlo hN (Nat.le_of_lt hp)
     have hle:=S.le
     have hroom:=hsz p top c hp hC
     refine jb B.eb rfl ?_
     refine⟨st.length,st.length,xb,xu,xc,N,w,top,p,_,_,z,A,c.A,c.U,c.C,ld,rfl,B,⟨O.lo,fun _ _ _=>rfl,O.tb⟩,S,hN,hw,hp,hzz,hroom.ga,fun st2 B2 O2 hL=>?_,fun st2 xb2 xu2 xc2 c2 r B2 O2 hR hL=>?_⟩
     · exact rN (next _ _ ⟨top,xb,xu,xc,_,c,rfl,B2,⟨O2.lo,fun m h1 h2=>(O2.fr m h1 h2).trans (O.fr m h1 h2),O2.tb⟩,.next hC (.none hL)⟩)
     · refine eV ?_
       obtain⟨s1,ht,_⟩:=S.one hp hR hL
       have O2':Bo st.length st st2 st.length xb2 xu2 xc2:=⟨O2.lo,fun m h1 h2=>(O2.fr m h1 h2).trans (O.fr m h1 h2),O2.tb⟩
       refine jb B2.eb rfl ?_
       refine⟨st.length,xb2,xu2,xc2,N,w,top,p,(N-top+1)*(Mx.Ez N e0 top+1),Mx.Vz N e0 top,z,A,_,_,_,rfl,B2,s1.tn,hN,hw,hp,ht,s1.tp,fun q hq=>s1.zs top q (Nat.le_refl _) ht hq,fun q=>⟨s1.lo.1 top q (Nat.le_refl _) ht,s1.lo.2.1 top q (Nat.le_refl _) ht,s1.lo.2.2 top q (Nat.le_refl _) ht⟩,fun i q hi=>?_,hzz,fun k hk=>hroom.lo c2 r k hR hL hk,fun st3 B3 f3=>?_⟩
       · obtain⟨a1,a2,a3⟩:=s1.CC hi q
         rw[a1,a2,a3]
         exact S.hi i q hi
       · exact next _ _ ⟨top+1,xb2,xu2,xc2,_,_,rfl,B3,O2'.low f3,.next hC (.one hR hL)⟩
 · rintro σ st2 ⟨top,xb,xu,xc,v3,c,rfl,B,O,hC⟩
   obtain⟨ld,S⟩:=hC.Cm hA hlo hN (Nat.le_refl _)
   have hle:=S.le
   have T:=S.tn
   have lN:=T.isA.len
   refine cB B.eb rfl ?_
   obtain⟨da2,hda2,hra2⟩:=(hdk O.fr).ex
   refine eA hda2 ?_
   rw[hra2.len,lA]
   refine⟨_,c.C,N,rfl,⟨_,aH B.e3,bN.lst⟩,T.gD.rj,by rw[T.gD.len];(first|lia|omega),by(first|lia|omega),?_⟩
   refine cB B.eb rfl (zH B.e1 ?_)
   rw[Gs,←List.map_take]
   refine⟨_,c.A.take top,rfl,⟨_,rfl,bN.lst⟩,by rw[List.length_take];(first|lia|omega),?_⟩
   refine cB B.eb rfl ?_
   refine⟨_,c.U,rfl,⟨_,aH B.e2,bN.lst⟩,by rw[T.fP.len];(first|lia|omega),?_⟩
   refine⟨by show 3≤sizeLine;decide,?_⟩
   refine kk st2 top c hC ⟨?_,O.fr,O.tb⟩
   have:=(List.getElem?_eq_some_iff.mp B.eb).1
   (first|lia|omega)
noncomputable def lK:cO:=fun ds st K=>∃a b,ds=[.int a,.int b]∧K (.int ((Nat.gcd a.natAbs b.natAbs:Nat):Int)) st
noncomputable def m7:List Str:=["one","other","great","small","rest"]
noncomputable def Bb:DS:=(aG (bf 2 (b_ mw (ae (ab 0) aj)))
 (aG (bf 3 (b_ mw (ae (ab 1) aj)))
 (aG (oi (bQ (ax mJ (ab 3) (dC (.int 0)))) (aG (bf 4 (ax jS (ab 2) (ab 3)))
 (aG (bf 2 (ab 3))
 (bf 3 (ab 4)))))
 (cv (ab 2)))))
theorem gK{m:Int}(h0:0<m)(h:m<2^62):m.natAbs.log2<9000:=by
 have:m.natAbs.log2<62:=(Nat.log2_lt (by(first|lia|omega))).mpr (by(first|lia|omega))
 (first|lia|omega)
theorem wc(a b:Nat):(a:Int).fmod (b:Int)=((a%b:Nat):Int):=by
 rw[Int.fmod_eq_emod_of_nonneg _ (Int.natCast_nonneg b)]
 exact(Int.natCast_emod a b).symm
theorem zD:∀ds st K,lK ds st K→ds.length=2∧Bb {nx:=fun _ st'=>K .aC st',rt:=K} (bw m7 ds) st:=by
 rintro ds st K ⟨a,b,rfl,k⟩
 refine⟨rfl,?_⟩
 refine mI (mI ?_)
 refine⟨fun m σ st'=>∃(g s:Nat) (r:Option D),σ=[some (.int a),some (.int b),some (.int g),some (.int s),r]∧st'=st∧Nat.gcd g s=Nat.gcd a.natAbs b.natAbs∧s=m,⟨b.natAbs,a.natAbs,b.natAbs,none,?_,rfl,rfl,rfl⟩,?_⟩
 · rfl
 · rintro m σ st' ⟨g,s,r,rfl,rfl,hg,rfl⟩
   refine ne2 (fun h=>eV ?_) fun h=>?_
   · refine jD h ⟨g%s,Nat.mod_lt _ (by(first|lia|omega)),s,g%s,some (.int ((g%s:Nat):Int)),?_,rfl,?_,rfl⟩
     · rw[wc];rfl
     · rw[Nat.gcd_comm,←Nat.gcd_rec,Nat.gcd_comm];exact hg
   · have:s=0:=by(first|lia|omega)
     subst this
     rw[Nat.gcd_zero_right]at hg
     subst hg
     exact k
structure xw(A:List (List Int))(N w:Nat)(F:List (List Int))(m:Nat)(ld:Nat→Nat):Prop where
 isA:Mx.cE N w A
 qb:Mx.cE m w F
 st:Mx.ck F m w ld
 rd:Mx.oF F m ld
 sm:Mx.d4 A N F m w
 lo:Mx.iA A N 0 (2^42)
 n1:1≤N
 n8:N≤8
 w8:w≤8
noncomputable def kq:cO:=fun ds st K=>∃(d:D) (A F:List (List Int)) (N w m:Nat) (ld:Nat→Nat) (f:Bool),ds=[d]∧gX st d A∧xw A N w F m ld∧st[0]?=some (gf f)∧∀st',Bk st st'→K (gO F) st'
noncomputable def l_:List Str:=["rows"]
noncomputable def AG:DS:=(cv (ax bV (aP jE (ae (ab 0) aj)) (dC (.int 0))))
theorem xM:∀ds st K,kq ds st K→ds.length=1∧AG {nx:=fun _ st'=>K .aC st',rt:=K} (bw l_ ds) st:=by
 rintro ds st K ⟨d,A,F,N,w,m,ld,f,rfl,hd,h,h0,k⟩
 have h8:=h.n8
 refine⟨rfl,d,N,w,42,60000000,A,f,rfl,hd,h.isA,h.n1,h8,Nat.le_succ_of_le h.w8,h.lo,Nat.le_refl _,fun p t c hp H=>Mx.kr.yZ h.isA h.lo h8 (fun t ht=>Mx.JZ N (Nat.lt_succ_of_le h8) t (Nat.lt_succ_of_le ht)) hp H,h0,fun st' top c hC B=>a_ rfl nC ?_⟩
 obtain⟨ld',s⟩:=hC.Cm h.isA h.lo h8 (Nat.le_refl _)
 rw[s.FA h.qb h.st h.rd h.sm.to h.sm.of]
 exact k st' B
noncomputable def kC(F:List (List Int))(ld:Nat→Nat):Nat→Int
 |0=>1
 |n+1=>kC F ld n*Mx.g F n (ld n)
inductive r9(F:List (List Int))(m w:Nat)(row:Nat→Int)(P:Int):D→Prop
 |int (o:Int) (h0:0<o) (hP:o≤P) (h:∀x:Int,Mx.bq F m w (fun c=>x*row c)↔o∣x):r9 F m w row P (.int o)
 |aC (h:∀x:Int,x≠0→¬Mx.bq F m w fun c=>x*row c):r9 F m w row P .aC
noncomputable def cZ:cO:=fun ds st K=>∃(d dr:D) (A F:List (List Int)) (r:List Int) (N w m:Nat) (ld:Nat→Nat) (f:Bool),ds=[d,dr]∧gX st d A∧xw A N w F m ld∧items? st dr=some (ay r)∧r.length=w∧(∀i q,i<m→(Mx.g F i q).natAbs<2^62)∧st[0]?=some (gf f)∧∀st' d',Bk st st'→r9 F m w (fun c=>r.getD c 0) (kC F ld m) d'→K d' st'
noncomputable def jt:List Str:=["rows","row","order","left","each","lead","lacks"]
noncomputable def uU:DS:=(aG (bf 2 (dC (.int 1)))
 (aG (bf 3 (b_ ia (ae (ab 1) aj)))
 (aG (hW (e7 (aP kq (ae (ab 0) aj))) (bE 4) (aG (bf 5 (aP i7 (ae (ab 4) aj)))
 (aG (bf 6 (ax iI (ax bV (ab 4) (ab 5)) (aP lK (ae (ax bV (ab 4) (ab 5)) (ae (ax bV (ab 3) (ab 5)) aj)))))
 (aG (bf 2 (ax cX (ab 2) (ab 6)))
 (aG (bf 3 (du (e7 (ab 3)) [none,some 6] (bE 0) cG (ax cX (ab 1) (ab 0))))
 (bf 3 (aP iC (ae (ab 3) (ae (mT i5 (ax iI (ax bV (ab 3) (ab 5)) (ax bV (ab 4) (ab 5)))) (ae (ab 4) aj))))))))))
 (cv (xt (bQ (ax vL (aP i7 (ae (ab 3) aj)) (dC .aC))) (ab 2) (dC .aC))))))
theorem drop_cons{F:List (List Int)}{i:Nat}{d:D}{rest:List D}(hr:d::rest=(F.map bU).drop i):i<F.length∧d=bU (F.getD i [])∧rest=(F.map bU).drop (i+1):=by
 have hi:i<F.length:=by
  rcases Nat.lt_or_ge i F.length with h|h
  · exact h
  · rw[List.drop_eq_nil_of_le (by rw[List.length_map];exact h)]at hr;cases hr
 rw[List.drop_eq_getElem_cons (by rw[List.length_map];exact hi),List.getElem_map]at hr
 obtain⟨h1,h2⟩:=List.cons.inj hr
 exact⟨hi,by rw[Mx.bc hi];exact h1,h2⟩
theorem drop_nil{F:List (List Int)}{i:Nat}(hr: []=(F.map bU).drop i):F.length≤i:=by
 have:=congrArg List.length hr
 rw[List.length_drop,List.length_map,List.length_nil]at this
 (first|lia|omega)
theorem tS:∀ds st K,cZ ds st K→ds.length=2∧uU {nx:=fun _ st'=>K .aC st',rt:=K} (bw jt ds) st:=by
 rintro ds st K ⟨d,dr,A,F,r,N,w,m,ld,f,rfl,hd,h,hr,lr,hF,h0,k⟩
 refine⟨rfl,?_⟩
 have lF:=h.qb.len
 have w8:=h.w8
 refine g_ hr ⟨d,A,F,N,w,m,ld,f,rfl,hd,h,h0,fun st1 B1=>?_⟩
 refine mK ?_
 refine i_ (fun rest σ st'=>st'=st1∧∃(i:Nat) (o:Int) (L:List Int) (v4 v5 v6:Option D),i≤m∧rest=(F.map bU).drop i∧σ=[some d,some dr,some (.int o),some (ba L),v4,v5,v6]∧L.length=w∧Mx.iz F w ld (fun c=>r.getD c 0) i o (fun c=>L.getD c 0)∧o≤kC F ld i) ?_ ?_ _ _ _ ⟨rfl,0,1,r,none,none,none,Nat.zero_le _,rfl,rfl,lr,Mx.iz.start,Int.le_refl _⟩
 · rintro σ st' ⟨rfl,i,o,L,v4,v5,v6,hi,hrest,rfl,lL,fit,ho⟩
   have e:i=m:=Nat.le_antisymm hi (by rw[←lF];exact drop_nil hrest)
   subst e
   refine⟨trivial,_,L,rfl,rfl,?_⟩
   cases el:kh L with
   |none=>
    have:jy L= .aC:=by unfold jy;rw[el]
    rw[this]
    refine oW rfl (eV ?_)
    exact k st' _ B1 (.int o fit.pos ho fun x=>fit.some h.st (fun c _=>qS L 0 el c) x)
   |some l=>
    have:jy L= .int (l:Int):=by unfold jy;rw[el]
    rw[this]
    refine oW rfl ?_
    obtain⟨q,e,hq,hne⟩:=qI L 0 l el
    exact k st' _ B1 (.aC fun x hx=>fit.no h.st (by rw[←lL];exact hq) hne x hx)
 · rintro x rest σ st' ⟨rfl,i,o,L,v4,v5,v6,hi,hrest,rfl,lL,fit,ho⟩ next
   obtain⟨hiF,rfl,rfl⟩:=drop_cons hrest
   have him:i<m:=by rw[←lF];exact hiF
   obtain⟨l1,l2,l3⟩:=h.st.lead i him
   have wF:=h.qb.row him
   have hne:(F.getD i []).getD (ld i) 0≠0:=Int.ne_of_gt l2
   have eld:jy (F.getD i [])= .int ((ld i:Nat):Int):=by
    unfold jy
    rw[sZ l3 hne]
   refine⟨trivial,_,rfl,_,F.getD i [],rfl,rfl,?_⟩
   rw[eld]
   have at1:dJ (ay (F.getD i [])) ((ld i:Nat):Int)=some (.int (Mx.g F i (ld i))):=fR (by(first|lia|omega))
   have at2:dJ (ay L) ((ld i:Nat):Int)=some (.int (L.getD (ld i) 0)):=fR (by(first|lia|omega))
   have small:=hF i (ld i) him
   generalize ed:Mx.g F i (ld i)=dd at at1 l2 small
   obtain⟨dn,rfl⟩:=Int.eq_ofNat_of_zero_le (Int.le_of_lt l2)
   have dn0:0<dn:=by(first|lia|omega)
   generalize ex:L.getD (ld i) 0=y at at2
   refine a_ rfl at1 (a_ rfl at1 (a_ rfl at2 ⟨_,_,rfl,?_⟩))
   rw[Int.natAbs_natCast]
   have lk:=Mx.oN dn0 y
   have g0:0<Nat.gcd dn y.natAbs:=Nat.gcd_pos_of_pos_left _ dn0
   have gl:Nat.gcd dn y.natAbs≤dn:=Nat.le_of_dvd dn0 (Nat.gcd_dvd_left _ _)
   have ef:(dn:Int).fdiv ((Nat.gcd dn y.natAbs:Nat):Int)=((dn/Nat.gcd dn y.natAbs:Nat):Int):=by
    rw[Int.fdiv_eq_ediv_of_nonneg _ (Int.natCast_nonneg _)];rfl
   refine iK (by(first|lia|omega)) (gK (by(first|lia|omega)) (by(first|lia|omega))) ?_
   rw[ef]
   have q0:0<dn/Nat.gcd dn y.natAbs:=Nat.div_pos gl g0
   have ql:dn/Nat.gcd dn y.natAbs≤dn:=Nat.div_le_self _ _
   generalize dn/Nat.gcd dn y.natAbs=q at lk q0 ql
   refine dc (fv (by(first|lia|omega)) (by(first|lia|omega))) (xo ⟨cj (by rw[List.length_map];(first|lia|omega)),?_⟩)
   refine comp_map (g:=fun d=>match d with| .int z=> .int ((q:Int)*z)|_=> .aC) trivial _ (fun d hd K' qq=>?_) ?_
   · unfold ay at hd
     obtain⟨z,_,rfl⟩:=List.mem_map.mp hd
     exact⟨_,rfl,dc (hV (by(first|lia|omega)) (by(first|lia|omega))) qq⟩
   have en:(ay L).map (fun d=>match d with| .int z=> .int ((q:Int)*z)|_=> .aC)=ay (L.map fun z=>(q:Int)*z):=by unfold ay;rw[List.map_map,List.map_map];rfl
   rw[en]
   have at3:dJ (ay (L.map fun z=>(q:Int)*z)) ((ld i:Nat):Int)=some (.int ((q:Int)*y)):=by
    rw[←ex,←Mx.uV]
    exact fR (by rw[List.length_map];(first|lia|omega))
   obtain⟨t,ht⟩:=(lk (q:Int)).mpr (Int.dvd_refl _)
   have et:((q:Int)*y).fdiv (dn:Int)=t:=by rw[ht,Int.mul_fdiv_cancel_left _ (by(first|lia|omega))]
   refine a_ rfl at3 (a_ rfl at1 (iK (by(first|lia|omega)) (gK (by(first|lia|omega)) (by(first|lia|omega))) (iV ?_)))
   rw[et]
   have lq:(L.map fun z=>(q:Int)*z).length=w:=by rw[List.length_map,lL]
   refine⟨_,_,_,L.map fun z=>(q:Int)*z,F.getD i [],rfl,rfl,rfl,by(first|lia|omega),fun b hb=>?_,?_⟩
   · obtain⟨c,hc,rfl⟩:=List.mem_iff_getElem.mp hb
     have:=hF i c him
     unfold Mx.g at this
     rw[Mx.bc hc]at this
     exact fv (by(first|lia|omega)) (by(first|lia|omega))
   refine next _ _ ⟨rfl,i+1,_,_,_,_,_,him,rfl,rfl,by rw[Mx.lD (by(first|lia|omega))];exact lq,?_,?_⟩
   · have ee:(fun c=>(Mx.dR (L.map fun z=>(q:Int)*z) (-t) (F.getD i [])).getD c 0)=fun c=>(q:Int)*L.getD c 0-t*Mx.g F i c:=by
      funext c
      rw[Mx.mG (by(first|lia|omega)),Mx.uV,Int.neg_mul]
      show _+ -(t*Mx.g F i c)=_
      (first|lia|omega)
     rw[ee]
     refine fit.step h.st him (by(first|lia|omega)) ?_ fun z hz=>?_
     · rw[ed]
       show(q:Int)*L.getD (ld i) 0=_
       rw[ex,ht,Int.mul_comm]
     · rw[ed]at hz
       have hz':(dn:Int)∣z*L.getD (ld i) 0:=hz
       rw[ex]at hz'
       exact(lk z).mp hz'
   · show o*(q:Int)≤kC F ld i*Mx.g F i (ld i)
     rw[ed]
     have p0:=fit.pos
     exact Int.mul_le_mul ho (by(first|lia|omega)) (by(first|lia|omega)) (by(first|lia|omega))
structure Bx(st:ag)(n:Nat)(b:Int):Prop where
 ex:∃x y z,st[n]?=some (.lst [.int x,.int y,.int z])∧0≤x∧0≤z∧z≤b
structure Upd(st:ag)(n:Nat)(st':ag):Prop where
 len:st'.length=st.length
 same:∀m,m≠n→st'[m]?=st[m]?
theorem Upd.refl{st:ag}{n:Nat}:Upd st n st:=⟨rfl,fun _ _=>rfl⟩
theorem Upd.trans{st st1 st2:ag}{n:Nat}(a:Upd st n st1)(b:Upd st1 n st2):Upd st n st2:=⟨b.len.trans a.len,fun m h=>(b.same m h).trans (a.same m h)⟩
theorem Upd.set{st:ag}{n:Nat}{c:Cell}:Upd st n (st.set n c):=⟨List.length_set,fun m h=>List.getElem?_set_ne (Ne.symm h)⟩
structure XU(st:ag)(n:Nat)(st':ag):Prop where
 len:st.length≤st'.length
 same:∀m,m<st.length→m≠n→st'[m]?=st[m]?
theorem XU.trans{st st1 st2:ag}{n:Nat}(a:XU st n st1)(b:XU st1 n st2):XU st n st2:=⟨Nat.le_trans a.len b.len,fun m h g=>(b.same m (Nat.lt_of_lt_of_le h a.len) g).trans (a.same m h g)⟩
theorem XU.upd{st st1:ag}{n:Nat}(a:Upd st n st1):XU st n st1:=⟨by rw[a.len];exact Nat.le_refl _,fun m _ g=>a.same m g⟩
theorem XU.ext{st st1:ag}{n:Nat}(a:Ext st st1):XU st n st1:=⟨a.len,fun m h _=>a.same m h⟩
theorem XU.set{st st1:ag}{n k:Nat}{c:Cell}(a:XU st n st1)(h:st.length≤k):XU st n (st1.set k c):=⟨by rw[List.length_set];exact a.len,fun m hm g=>by rw[List.getElem?_set_ne (Nat.ne_of_gt (Nat.lt_of_lt_of_le hm h))];exact a.same m hm g⟩
theorem XU.at{st st1:ag}{n k:Nat}{c:Cell}(a:XU st n st1)(e:st[k]?=some c)(h:k≠n):st1[k]?=some c:=(a.same k (List.getElem?_eq_some_iff.mp e).1 h).trans e
theorem Bx.lt{st:ag}{n:Nat}{b:Int}(B:Bx st n b):n<st.length:=by
 obtain⟨_,_,_,e,_⟩:=B.ex
 exact(List.getElem?_eq_some_iff.mp e).1
theorem Bx.cell{st st':ag}{n:Nat}{b:Int}(B:Bx st n b)(e:st'[n]?=st[n]?):Bx st' n b:=by
 obtain⟨x,y,z,e1,r⟩:=B.ex
 exact⟨x,y,z,e.trans e1,r⟩
theorem Bx.mono{st:ag}{n:Nat}{b b':Int}(B:Bx st n b)(l:b≤b'):Bx st n b':=by
 obtain⟨x,y,z,e,h1,h2,h3⟩:=B.ex
 exact⟨x,y,z,e,h1,h2,Int.le_trans h3 l⟩
noncomputable def iu:cO:=fun ds st K=>∃(ns:List Int) (k:Nat),ds=[.lst (ns.map .int),.int k]∧k≤3∧ns.length≤63∧∀st',Bx st' st.length 4000→Ext st st'→K (.ref st.length) st'
noncomputable def jv:List Str:=["_law_script","_law_k","_law_cell"]
noncomputable def vM:DS:=(aG (bf 2 (dC (.int 0)))
 (aG (fG (bQ (ax nP (b_ fQ (ae (ab 0) aj)) (dC (.int 0)))) (bf 2 (ax bV (ab 0) (ax jS (ab 1) (b_ fQ (ae (ab 0) aj))))) eM)
 (cv (vA (ae (ax cX (ab 2) (b_ qy (ae (ax xa (ab 2) (ax nE (dC (.int 10)) (dC (.int 18)))) aj))) (ae (ab 2) (ae (ax cX (dC (.int 1009)) (ab 1)) aj)))))))
theorem tN:∀ds st K,iu ds st K→ds.length=2∧vM {nx:=fun _ st'=>K .aC st',rt:=K} (bw jv ds) st:=by
 rintro ds st K ⟨ns,k,rfl,hk,hl,q⟩
 refine⟨rfl,?_⟩
 have fin:∀c:Int,cv (vA (ae (ax cX (ab 2) (b_ qy (ae (ax xa (ab 2) (ax nE (dC (.int 10)) (dC (.int 18)))) aj))) (ae (ab 2) (ae (ax cX (dC (.int 1009)) (ab 1)) aj))))
  {nx:=fun _ st'=>K .aC st',rt:=K} [some (.lst (ns.map .int)),some (.int k),some (.int c)] st:=by
  intro c
  refine qM ⟨by decide,by decide,by decide⟩ (Ia (sq (dc (fv ?_ ?_) (dc (hV (by decide) (by decide)) ⟨Nat.le_of_ble_eq_true rfl,?_⟩))))
  · split<;>decide
  · split<;>decide
  · refine q _ ⟨_,_,_,by rw[List.getElem?_append_right (Nat.le_refl _),Nat.sub_self];rfl,?_,?_,?_⟩ Ext.push
    · by_cases hc:(10:Int)^(18:Int).toNat≤c
      · have:(0:Int)≤c:=Int.le_trans (by decide) hc
        rw[decide_eq_true hc,if_pos rfl];(first|lia|omega)
      · rw[decide_eq_false hc,if_neg Bool.false_ne_true];(first|lia|omega)
    · (first|lia|omega)
    · (first|lia|omega)
 refine eA rfl (yB ?_)
 rw[List.length_map]
 by_cases h0:(0:Int)<(ns.length:Int)
 · rw[decide_eq_true h0]
   refine eV (eA rfl (jD (by rw[List.length_map];(first|lia|omega)) ?_))
   rw[List.length_map]
   have m1:=Int.fmod_nonneg_of_pos (k:Int) h0
   have m2:=Int.fmod_lt_of_pos (k:Int) h0
   obtain⟨j,ej⟩:=Int.eq_ofNat_of_zero_le m1
   rw[ej]at m2⊢
   exact a_ rfl (fR (r:=ns) (by(first|lia|omega))) (fin _)
 · rw[decide_eq_false h0]
   exact fin 0
noncomputable def aW:cO:=fun ds st K=>∃(n:Nat) (m b:Int),ds=[.ref n,.int m]∧Bx st n b∧b≤1000000∧0<m∧m<2^62∧∀r st',0≤r→r<m→Bx st' n (b+1)→Upd st n st'→K (.int r) st'
noncomputable def kO:List Str:=["_law_source_here","_law_many","_law_digit","_law_m"]
noncomputable def yA:DS:=(aG (fG (bQ (ax nP (ax bV (ab 0) (dC (.int 0))) (dC (.int 0)))) (aG (bf 2 (ax jS (ax bV (ab 0) (dC (.int 0))) (ab 1)))
 (aG (eP (ab 0) (dC (.int 0)) (ax iI (ax bV (ab 0) (dC (.int 0))) (ab 1)))
 (cv (ab 2)))) eM)
 (aG (eP (ab 0) (dC (.int 2)) (ax gg (ax bV (ab 0) (dC (.int 2))) (dC (.int 1))))
 (aG (bf 3 (ax jS (ax cX (ax gg (ax gg (ax jS (ax bV (ab 0) (dC (.int 1))) (dC (.int 2147483647))) (ax cX (dC (.int 65539)) (ax bV (ab 0) (dC (.int 2))))) (dC (.int 11))) (dC (.int 48271))) (dC (.int 2147483629))))
 (aG (bf 3 (ax gg (ax jS (ax cX (ab 3) (ab 3)) (dC (.int 1999999973))) (ax cX (dC (.int 39373)) (ax bV (ab 0) (dC (.int 2))))))
 (cv (ax jS (ax iI (ax jS (ax cX (ab 3) (dC (.int 99991))) (dC (.int 2147483587))) (dC (.int 7))) (ab 1)))))))
theorem rR{d:D}{σ:bG}{st:ag}{K:DK}(k:K d st):dC d σ st K:=k
theorem wy:∀ds st K,aW ds st K→ds.length=2∧yA {nx:=fun _ st'=>K .aC st',rt:=K} (bw kO ds) st:=by
 rintro ds st K ⟨n,m,b,rfl,⟨x,y,z,e,hx,hz,hb⟩,hb2,hm0,hm1,k⟩
 refine⟨rfl,?_⟩
 have hn:n<st.length:=(List.getElem?_eq_some_iff.mp e).1
 have it:items? st (.ref n)=some [.int x,.int y,.int z]:=aH e
 refine a_ it (by rfl) (Ci (fun h=>eV ?_) fun h=>?_)
 · refine a_ it (by rfl) (jD (by(first|lia|omega)) (a_ it (by rfl) (iK (by(first|lia|omega)) (gK hm0 hm1) (fF e (by rfl) ?_))))
   refine k _ _ (Int.fmod_nonneg_of_pos _ hm0) (Int.fmod_lt_of_pos _ hm0) ⟨_,_,_,List.getElem?_set_self hn,?_,hz,by(first|lia|omega)⟩ Upd.set
   rw[Int.fdiv_eq_ediv_of_nonneg _ (by(first|lia|omega))];exact Int.ediv_nonneg hx (by(first|lia|omega))
 · refine a_ it (by rfl) (eU (fF e (by rfl) ?_))
   have e2:(st.set n (.lst ([D.int x,D.int y,D.int z].set 2 (.int (z+1)))))[n]?=some (.lst [.int x,.int y,.int (z+1)]):=List.getElem?_set_self hn
   have it2:=aH e2
   refine a_ it2 (by rfl) (jD (by decide) (a_ it2 (by rfl) (dc (hV (by decide) (by decide)) ?_)))
   generalize y.fmod 2147483647=y1
   generalize 65539*(z+1)=p
   refine eU (rR (eU (rR (dc (fv (by decide) (by decide)) (rR (jD (by decide) ?_))))))
   have u1:=Int.fmod_nonneg_of_pos ((y1+p+11)*48271) (show(0:Int)<2147483629 by decide)
   have u2:=Int.fmod_lt_of_pos ((y1+p+11)*48271) (show(0:Int)<2147483629 by decide)
   generalize((y1+p+11)*48271).fmod 2147483629=u at u1 u2⊢
   refine dc (hV (by(first|lia|omega)) (by(first|lia|omega))) (rR (jD (by decide) ?_))
   generalize(u*u).fmod 1999999973=u3
   refine a_ it2 (by rfl) (dc (hV (by decide) (by decide)) ?_)
   generalize 39373*(z+1)=p2
   refine eU ?_
   generalize u3+p2=u4
   refine dc (fv (by decide) (by decide)) (rR (jD (by decide) (rR (iK (by decide) (by decide+kernel) (jD (by(first|lia|omega)) ?_)))))
   exact k _ _ (Int.fmod_nonneg_of_pos _ hm0) (Int.fmod_lt_of_pos _ hm0) ⟨_,_,_,e2,hx,by(first|lia|omega),by(first|lia|omega)⟩ Upd.set
noncomputable def eR:cO:=fun ds st K=>∃(n:Nat) (b:Int),ds=[.ref n]∧Bx st n b∧b≤900000∧∀r st',r.natAbs≤1000000000000→Bx st' n (b+4)→Upd st n st'→K (.int r) st'
noncomputable def js:List Str:=["_law_source_here","_law_how"]
noncomputable def vi:DS:=(aG (bf 1 (aP aW (ae (ab 0) (ae (dC (.int 40)) aj))))
 (aG (fG (bQ (ax p8 (ab 1) (dC (.int 32)))) (cv (ax nJ (aP aW (ae (ab 0) (ae (dC (.int 7)) aj))) (dC (.int 3)))) eM)
 (aG (fG (bQ (ax p8 (ab 1) (dC (.int 39)))) (cv (ax nJ (aP aW (ae (ab 0) (ae (dC (.int 41)) aj))) (dC (.int 20)))) eM)
 (cv (ax cX (ax gg (ax cX (aP aW (ae (ab 0) (ae (ax nE (dC (.int 10)) (dC (.int 6))) aj))) (ax nE (dC (.int 10)) (dC (.int 6)))) (aP aW (ae (ab 0) (ae (ax nE (dC (.int 10)) (dC (.int 6))) aj)))) (ax nJ (dC (.int 1)) (ax cX (dC (.int 2)) (aP aW (ae (ab 0) (ae (dC (.int 2)) aj))))))))))
theorem t5:∀ds st K,eR ds st K→ds.length=1∧vi {nx:=fun _ st'=>K .aC st',rt:=K} (bw js ds) st:=by
 rintro ds st K ⟨n,b,rfl,B,hb,k⟩
 refine⟨rfl,?_⟩
 refine⟨n,40,b,rfl,B,by(first|lia|omega),by decide,by decide,fun r0 st0 a0 a1 B0 U0=>?_⟩
 refine GP (fun _=>eV ?_) fun _=>?_
 · exact⟨n,7,_,rfl,B0,by(first|lia|omega),by decide,by decide,fun r1 st1 c0 c1 B1 U1=>oR (k _ _ (by(first|lia|omega)) (B1.mono (by(first|lia|omega))) (U0.trans U1))⟩
 refine GP (fun _=>eV ?_) fun _=>?_
 · exact⟨n,41,_,rfl,B0,by(first|lia|omega),by decide,by decide,fun r1 st1 c0 c1 B1 U1=>oR (k _ _ (by(first|lia|omega)) (B1.mono (by(first|lia|omega))) (U0.trans U1))⟩
 have e6:(10:Int)^(6:Int).toNat=1000000:=by decide
 refine qM ⟨by decide,by decide,by decide⟩ ?_
 rw[e6]
 refine⟨n,_,_,rfl,B0,by(first|lia|omega),by decide,by decide,fun r1 st1 c0 c1 B1 U1=>qM ⟨by decide,by decide,by decide⟩ ?_⟩
 rw[e6]
 refine dc (fv (by decide) (by decide)) (qM ⟨by decide,by decide,by decide⟩ ?_)
 rw[e6]
 refine⟨n,_,_,rfl,B1,by(first|lia|omega),by decide,by decide,fun r2 st2 d0 d1 B2 U2=>eU ?_⟩
 refine⟨n,2,_,rfl,B2,by(first|lia|omega),by decide,by decide,fun r3 st3 f0 f1 B3 U3=>dc (hV (by decide) (by decide)) (oR (dc (fv (by(first|lia|omega)) (by(first|lia|omega))) ?_))⟩
 refine k _ _ ?_ (B3.mono (by(first|lia|omega))) (((U0.trans U1).trans U2).trans U3)
 have:r3=0∨r3=1:=by(first|lia|omega)
 rcases this with rfl|rfl<;>(first|lia|omega)
noncomputable def eW:cO:=fun ds st K=>∃a b,ds=[.int a,.int b]∧K (.int ((Nat.gcd a.natAbs b.natAbs:Nat):Int)) st
noncomputable def jJ:List Str:=["_law_one","_law_other"]
noncomputable def vV:DS:=(aG (va 0 1 (ae (b_ mw (ae (ab 0) aj)) (ae (b_ mw (ae (ab 1) aj)) aj)))
 (aG (oi (bQ (ax nP (ab 1) (dC (.int 0)))) (va 0 1 (ae (ab 1) (ae (ax jS (ab 0) (ab 1)) aj))))
 (cv (ab 0))))
theorem tZ:∀ds st K,eW ds st K→ds.length=2∧vV {nx:=fun _ st'=>K .aC st',rt:=K} (bw jJ ds) st:=by
 rintro ds st K ⟨a,b,rfl,k⟩
 refine⟨rfl,?_⟩
 refine mI (mI ?_)
 refine⟨fun m σ st'=>∃g s:Nat,σ=[some (.int g),some (.int s)]∧st'=st∧Nat.gcd g s=Nat.gcd a.natAbs b.natAbs∧s=m,⟨b.natAbs,a.natAbs,b.natAbs,rfl,rfl,rfl,rfl⟩,?_⟩
 rintro m σ st' ⟨g,s,rfl,rfl,hg,rfl⟩
 refine Ci (fun h=>eV ?_) fun h=>?_
 · refine jD (by(first|lia|omega)) ⟨g%s,Nat.mod_lt _ (by(first|lia|omega)),s,g%s,?_,rfl,?_,rfl⟩
   · rw[wc];rfl
   · rw[Nat.gcd_comm,←Nat.gcd_rec,Nat.gcd_comm];exact hg
 · have:s=0:=by(first|lia|omega)
   subst this
   rw[Nat.gcd_zero_right]at hg
   subst hg
   exact k
noncomputable def fx:cO:=fun ds st K=>∃(n:Nat) (b:Int) (d:D) (A:List (List Int)) (N w M:Nat),ds=[.ref n,d]∧Bx st n b∧b≤900000∧gX st d A∧Mx.cE N w A∧1≤N∧N≤8∧w≤8∧(∀r∈A,∀x∈r,x.natAbs≤M)∧∀B st',Mx.iS A N w (M*8^6) B N→Bx st' n (b+30)→XU st n st'→K (gO B) st'
noncomputable def jr:List Str:=["_law_source_here","_law_rows","_law_made","_law_k","_law_i","_law_j","_law_how","_law_by"]
noncomputable def uJ:DS:=(aG (bf 2 (ke (e7 (ab 1)) [none] (bE 0) cG (b_ ia (ae (ab 0) aj))))
 (aG (hW (dD (ae (aP aW (ae (ab 0) (ae (dC (.int 7)) aj))) aj)) (bE 3) (aG (bf 4 (aP aW (ae (ab 0) (ae (b_ fQ (ae (ab 2) aj)) aj))))
 (aG (bf 5 (aP aW (ae (ab 0) (ae (b_ fQ (ae (ab 2) aj)) aj))))
 (aG (bf 6 (aP aW (ae (ab 0) (ae (dC (.int 4)) aj))))
 (fG (bQ (ax jN (ab 4) (ab 5))) (eP (ab 2) (ab 4) (du (e7 (ax bV (ab 2) (ab 4))) [none] (bE 0) cG (mT i5 (ab 0)))) (fG (bQ (ax jN (ab 6) (dC (.int 0)))) (yN (rg (pd (ab 2) (ab 4)) (pd (ab 2) (ab 5))) (i6 (ae (ax bV (ab 2) (ab 5)) (ae (ax bV (ab 2) (ab 4)) aj)))) (aG (bf 7 (ax bV (sy (ae (dC (.int 1)) (ae (mT i5 (dC (.int 1))) (ae (dC (.int 2)) (ae (mT i5 (dC (.int 2))) aj))))) (aP aW (ae (ab 0) (ae (dC (.int 4)) aj)))))
 (eP (ab 2) (ab 4) (du (oU (ae (ax bV (ab 2) (ab 4)) (ae (ax bV (ab 2) (ab 5)) aj))) [none,none,some 7] (iE 0 1) cG (ax gg (ab 0) (ax cX (ab 2) (ab 1))))))))))))
 (cv (b_ eQ (ae (du (e7 (ab 2)) [none] (bE 0) cG (b_ eQ (ae (ab 0) aj))) aj)))))
theorem lj{A:List (List Int)}{k:Nat}(h:k<A.length):dJ (A.map ba) (k:Int)=some (ba (A.getD k [])):=by
 refine g7 ?_
 rw[List.getElem?_map,List.getElem?_eq_getElem h,Mx.bc h];rfl
theorem ny{T:List (List Int)}{l:Nat}{r:List Int}:(T.map ba).set l (ba r)=(T.set l r).map ba:=by rw[List.map_set]
theorem tM:∀ds st K,fx ds st K→ds.length=2∧uJ {nx:=fun _ st'=>K .aC st',rt:=K} (bw jr ds) st:=by
 rintro ds st K ⟨n,b,d,A,N,w,M,rfl,B,hb,⟨da,hd,ra⟩,hA,hN1,hN8,hw,hbd,k⟩
 refine⟨rfl,?_⟩
 have hn:=B.lt
 have hnL:st.length≠n:=Nat.ne_of_gt hn
 have lA:=ra.len
 have lAN:=hA.len
 refine iO hd fun ok aI=>⟨cj (by(first|lia|omega)),?_⟩
 refine fS ba aI ra (fun d r hr he K' q=>⟨_,rfl,g_ he q⟩) ?_
 refine⟨n,7,b,rfl,B.cell (List.getElem?_append_left hn),by(first|lia|omega),by decide,by decide,fun r0 st1 z0 z1 B1 U1=>?_⟩
 obtain⟨T,rfl⟩:=Int.eq_ofNat_of_zero_le z0
 refine eC ⟨by(first|lia|omega),by(first|lia|omega)⟩ ?_
 rw[Int.toNat_natCast]
 have e1:st1[st.length]?=some (.lst (A.map ba)):=(U1.same _ hnL).trans (by rw[List.getElem?_append_right (Nat.le_refl _),Nat.sub_self];rfl)
 have X1:XU st n st1:=(XU.ext Ext.push).trans (XU.upd U1)
 refine gL T (fun j σ st'=>∃(X:List (List Int)) (v3 v4 v5 v6 v7:Option D),σ=[some (.ref n),some d,some (.ref st.length),v3,v4,v5,v6,v7]∧st'[st.length]?=some (.lst (X.map ba))∧Mx.iS A N w (M*8^j) X N∧Bx st' n (b+1+4*j)∧XU st n st') ?_ ?_ ⟨A,none,none,none,none,none,rfl,e1,⟨hA,hN1,hN8,fun r hr x hx=>by rw[Nat.pow_zero,Nat.mul_one];exact hbd r hr x hx,Mx.d4.refl _ _ _⟩,B1.mono (by simp),X1⟩
 · rintro σ st' ⟨X,v3,v4,v5,v6,v7,rfl,e,M',B',X'⟩
   have lX:=M'.is.len
   refine iO (aH e) fun ok aI=>⟨cj (by rw[List.length_map];(first|lia|omega)),?_⟩
   refine fS bU aI bN.lst (fun d r hr he K' q=>⟨_,rfl,eE he q⟩) (eE rfl ?_)
   exact k X st' (M'.more (Nat.mul_le_mul_left _ (Nat.pow_le_pow_right (by decide) (by(first|lia|omega))))) (B'.mono (by(first|lia|omega))) X'
 · rintro j σ st2 rest hj ⟨X,v3,v4,v5,v6,v7,rfl,e,M',B2,X2⟩ next
   refine⟨_,rfl,?_⟩
   have lX:=M'.is.len
   have lM:(X.map ba).length=N:=by rw[List.length_map,lX]
   refine eA (aH e) ⟨n,_,_,rfl,B2,by(first|lia|omega),by(first|lia|omega),by(first|lia|omega),fun rk st3 a0 a1 B3 U3=>?_⟩
   obtain⟨kk,rfl⟩:=Int.eq_ofNat_of_zero_le a0
   have hk:kk<N:=by(first|lia|omega)
   have e3:=(U3.same _ hnL).trans e
   refine eA (aH e3) ⟨n,_,_,rfl,B3,by(first|lia|omega),by(first|lia|omega),by(first|lia|omega),fun ro st4 c0 c1 B4 U4=>?_⟩
   obtain⟨o,rfl⟩:=Int.eq_ofNat_of_zero_le c0
   have ho:o<N:=by(first|lia|omega)
   have e4:=(U4.same _ hnL).trans e3
   refine⟨n,4,_,rfl,B4,by(first|lia|omega),by decide,by decide,fun way st5 w0 w1 B5 U5=>?_⟩
   have e5:=(U5.same _ hnL).trans e4
   have X5:XU st n st5:=X2.trans (XU.upd ((U3.trans U4).trans U5))
   have l5:=(List.getElem?_eq_some_iff.mp e5).1
   clear U3 U4 U5 e e3 e4 B2 B3 B4
   have pj:M*8^(j+1)=M*8^j*8:=by rw[Nat.pow_succ,Nat.mul_assoc]
   have M1:Mx.iS A N w (M*8^(j+1)) X N:=M'.more (by(first|lia|omega))
   have wk:=M'.is.row hk
   have wo:=M'.is.row ho
   have B6:Bx st5 n (b+1+4*((j+1:Nat):Int)):=B5.mono (by(first|lia|omega))
   refine eq2 (fun heq=>eV ?_) fun hne=>?_
   · refine a_ (aH e5) (lj (by(first|lia|omega))) (xo ⟨cj (by rw[List.length_map];(first|lia|omega)),?_⟩)
     refine comp_map (g:=fun x=>match x with| .int a=> .int (-a)|_=> .aC) trivial _ (fun x hx K' q=>?_) ?_
     · unfold ay at hx
       obtain⟨a,_,rfl⟩:=List.mem_map.mp hx
       exact⟨_,rfl,iV q⟩
     have en:(ay (X.getD kk [])).map (fun x=>match x with| .int a=> .int (-a)|_=> .aC)=ay ((X.getD kk []).map fun x=> -x):=by unfold ay;rw[List.map_map,List.map_map];rfl
     rw[en]
     refine fF e5 (ll (by(first|lia|omega)) (by(first|lia|omega))) ?_
     rw[Int.toNat_natCast]
     exact next _ _ ⟨_,_,_,_,_,_,rfl,(List.getElem?_set_self l5).trans (congrArg (fun x=>some (Cell.lst x)) ny),M1.neg hk,B6.cell (List.getElem?_set_ne hnL),X5.set (Nat.le_refl _)⟩
   refine eq2 (fun h0=>eV ?_) fun h0=>?_
   · refine a_ (aH e5) (lj (by(first|lia|omega))) (a_ (aH e5) (lj (by(first|lia|omega))) ⟨Nat.le_of_ble_eq_true rfl,?_⟩)
     refine fF e5 (ll (by(first|lia|omega)) (by(first|lia|omega))) ?_
     rw[Int.toNat_natCast,ny]
     refine fF (List.getElem?_set_self l5) (ll (by(first|lia|omega)) (by rw[List.length_map,List.length_set];(first|lia|omega))) ?_
     rw[Int.toNat_natCast,ny,List.set_set]
     exact next _ _ ⟨_,_,_,_,_,_,rfl,List.getElem?_set_self l5,M1.swap hk ho,B6.cell (List.getElem?_set_ne hnL),X5.set (Nat.le_refl _)⟩
   refine iV (iV ⟨Nat.le_of_ble_eq_true rfl,n,4,_,rfl,B5,by(first|lia|omega),by decide,by decide,fun q st6 q0 q1 B6 U6=>?_⟩)
   have e6:=(U6.same _ hnL).trans e5
   have l6:=(List.getElem?_eq_some_iff.mp e6).1
   obtain⟨c,ec,hc⟩:∃c:Int,dJ [D.int 1,.int (-1),.int 2,.int (-2)] q=some (.int c)∧c.natAbs≤7:=by
    have:q=0∨q=1∨q=2∨q=3:=by(first|lia|omega)
    rcases this with rfl|rfl|rfl|rfl
    · exact⟨1,rfl,by decide⟩
    · exact⟨-1,rfl,by decide⟩
    · exact⟨2,rfl,by decide⟩
    · exact⟨-2,rfl,by decide⟩
   refine a_ rfl ec ?_
   refine a_ (aH e6) (lj (by(first|lia|omega))) (a_ (aH e6) (lj (by(first|lia|omega))) ?_)
   refine mR rfl rfl fun ok aI=>⟨cj (by rw[iw,List.length_map,List.length_map];(first|lia|omega)),?_⟩
   refine comp_map (g:=fun d=>match d with| .tup [.int x,.int y]=> .int (x+c*y)|_=> .aC) (aI st6 rfl rfl) _ (fun d hd K' q=>?_) ?_
   · obtain⟨x,y,_,_,rfl⟩:=lu hd
     exact⟨_,rfl,dc (hV (by(first|lia|omega)) (by(first|lia|omega))) (eU q)⟩
   have ea:(gF (ay (X.getD kk [])) (ay (X.getD o []))).map (fun d=>match d with| .tup [.int x,.int y]=> .int (x+c*y)|_=> .aC)=ay (Mx.dR (X.getD kk []) c (X.getD o [])):=oJ _ _
   rw[ea]
   refine fF e6 (ll (by(first|lia|omega)) (by(first|lia|omega))) ?_
   rw[Int.toNat_natCast]
   refine next _ _ ⟨_,_,_,_,_,_,rfl,(List.getElem?_set_self l6).trans (congrArg (fun x=>some (Cell.lst x)) ny),?_,(B6.cell (List.getElem?_set_ne hnL)).mono (by(first|lia|omega)),(X5.trans (XU.upd U6)).set (Nat.le_refl _)⟩
   rw[pj]
   exact M'.add hk ho (by(first|lia|omega)) hc
noncomputable def jC:cO:=fun ds st K=>∃(n lc:Nat) (b:Int) (ls:List Int) (w:Nat),ds=[.ref n,.ref lc]∧Bx st n b∧b≤900000∧st[lc]?=some (.lst (ay ls))∧lc≠n∧ls.length=w∧w≤8∧(∀x∈ls,1≤x∧x≤216)∧∀(G:List (List Int)) st',G.length=w→(∀k,k<w→Mx.UR ls w k (G.getD k []))→st'[st.length]?=some (.lst (G.map bU))→Bx st' n (b+64)→XU st n st'→K (.ref st.length) st'
noncomputable def kH:List Str:=["_law_source_here","_law_leads_here","_law_form_here","_law_i","_law_row_here","_law_j"]
noncomputable def yR:DS:=(aG (bf 2 (vA aj))
 (aG (hW (dD (ae (b_ fQ (ae (ab 1) aj)) aj)) (bE 3) (aG (bf 4 (ax rm (ax cX (sy (ae (dC (.int 0)) aj)) (ab 3)) (sy (ae (ax bV (ab 1) (ab 3)) aj))))
 (aG (hW (la (ae (ax gg (ab 3) (dC (.int 1))) (ae (b_ fQ (ae (ab 1) aj)) aj))) (bE 5) (jx (kY (ab 4) (aP aW (ae (ab 0) (ae (ax bV (ab 1) (ab 5)) aj))))))
 (jx (kY (ab 2) (b_ eQ (ae (ab 4) aj)))))))
 (cv (ab 2))))
theorem k_{α:Type}{l:List α}{x d:α}(k:Nat):(l++[x]).getD k d=if k<l.length then l.getD k d else if k=l.length then x else d:=by
 rw[List.getD_eq_getElem?_getD,List.getD_eq_getElem?_getD]
 by_cases h:k<l.length
 · rw[if_pos h,List.getElem?_append_left h]
 · rw[if_neg h,List.getElem?_append_right (Nat.le_of_not_lt h)]
   by_cases h2:k=l.length
   · rw[if_pos h2,h2,Nat.sub_self];rfl
   · rw[if_neg h2,List.getElem?_eq_none (by rw[List.length_singleton];(first|lia|omega))];rfl
theorem qL{tg:eZ}{body:DS}{E:jq}{a:Int}(n:Nat)(I:Nat→bG→ag→Prop)(hend:∀σ st,I n σ st→E.nx σ st)
 (hstep:∀(j:Nat) σ st (rest:List D),j<n→I j σ st→(∀σ' st',I (j+1) σ' st'→e9 tg body (fun _=>True) E rest σ' st')→∃σ1,tg (.int (a+(j:Int))) σ=some σ1∧body {E with nx:=e9 tg body (fun _=>True) E rest,ct:=e9 tg body (fun _=>True) E rest,bk:=E.nx} σ1 st)
 {σ:bG} {st:ag} (h0:I 0 σ st):e9 tg body (fun _=>True) E (dw a n) σ st:=by
 refine i_ (fun rest σ st=>∃j:Nat,j≤n∧rest=(List.range (n-j)).map (fun i=>D.int (a+((j+i:Nat):Int)))∧I j σ st) ?_ ?_ _ _ _ ⟨0,Nat.zero_le _,by unfold dw;simp,h0⟩
 · rintro σ st ⟨j,hj,hr,hI⟩
   have:n-j=0:=by
    cases q:n-j with
    |zero=>rfl
    |succ m=>rw[q,List.range_succ_eq_map]at hr;cases hr
   have e:j=n:=by(first|lia|omega)
   subst e
   exact⟨trivial,hend _ _ hI⟩
 · rintro d rest σ st ⟨j,hj,hr,hI⟩ next
   cases q:n-j with
   |zero=>rw[q]at hr;cases hr
   |succ m=>
    rw[q,List.range_succ_eq_map,List.map_cons,List.map_map]at hr
    simp only[List.cons.injEq]at hr
    obtain⟨rfl,hrest⟩:=hr
    obtain⟨σ1,e1,hb⟩:=hstep j σ st rest (by(first|lia|omega)) hI fun σ' st' h=>next σ' st' ⟨j+1,by(first|lia|omega),by
     have:n-(j+1)=m:=by(first|lia|omega)
     rw[this,hrest]
     refine List.map_congr_left fun i _=>?_
     show D.int (a+((j+(i+1):Nat):Int))=D.int (a+((j+1+i:Nat):Int))
     congr 2;(first|lia|omega),h⟩
    exact⟨trivial,σ1,e1,hb⟩
theorem wI:∀ds st K,jC ds st K→ds.length=2∧yR {nx:=fun _ st'=>K .aC st',rt:=K} (bw kH ds) st:=by
 rintro ds st K ⟨n,lc,b,ls,w,rfl,B,hb,el,hln,hw,w8,hls,k⟩
 refine⟨rfl,?_⟩
 have hn:=B.lt
 have hnf:st.length≠n:=Nat.ne_of_gt hn
 have hlc:lc<st.length:=(List.getElem?_eq_some_iff.mp el).1
 refine⟨Nat.le_of_ble_eq_true rfl,?_⟩
 have X0:XU st n (st++[Cell.lst []]):=XU.ext Ext.push
 refine eA (aH (X0.at el hln)) ?_
 rw[List.length_map,hw]
 refine eC ⟨by(first|lia|omega),by(first|lia|omega)⟩ ?_
 rw[Int.toNat_natCast]
 refine gL w (fun i σ st'=>∃(G:List (List Int)) (v3 v4 v5:Option D),σ=[some (.ref n),some (.ref lc),some (.ref st.length),v3,v4,v5]∧G.length=i∧(∀k,k<i→Mx.UR ls w k (G.getD k []))∧st'[st.length]?=some (.lst (G.map bU))∧Bx st' n (b+8*i)∧XU st n st') ?_ ?_ ⟨[],none,none,none,rfl,rfl,fun k hk=>absurd hk (Nat.not_lt_zero _),by rw[List.getElem?_append_right (Nat.le_refl _),Nat.sub_self];rfl,(B.cell (List.getElem?_append_left hn)).mono (by simp),X0⟩
 · rintro σ st' ⟨G,v3,v4,v5,rfl,hG,hU,e,B',X'⟩
   exact k G st' hG hU e (B'.mono (by(first|lia|omega))) X'
 · rintro i σ st1 rest hi ⟨G,v3,v4,v5,rfl,hG,hU,e,B1,X1⟩ next
   refine⟨_,rfl,?_⟩
   have hlsi:i<ls.length:=by(first|lia|omega)
   have e1:=X1.at el hln
   have hf1:=(List.getElem?_eq_some_iff.mp e).1
   have hn1:=B1.lt
   refine JQ (Nat.le_of_ble_eq_true rfl) (DY ⟨by(first|lia|omega),by(first|lia|omega),cj (by simp;(first|lia|omega))⟩ ?_)
   rw[Int.toNat_natCast,ni]
   refine a_ (aH e1) (fR hlsi) ⟨Nat.le_of_ble_eq_true rfl,EH (cj (by simp;(first|lia|omega))) ?_⟩
   rw[ints_app]
   have X2:XU st n (st1++[Cell.lst (ay (List.replicate i 0++[ls.getD i 0]))]):=X1.trans (XU.ext Ext.push)
   refine eU (eA (aH (X2.at el hln)) ?_)
   rw[List.length_map,hw]
   refine rV ⟨by(first|lia|omega),by(first|lia|omega),by(first|lia|omega),by(first|lia|omega)⟩ ?_
   have ew:((w:Int)-((i:Int)+1)).toNat=w-(i+1):=by(first|lia|omega)
   rw[ew]
   refine qL (w-(i+1)) (fun t σ st'=>∃(r:List Int) (v5:Option D),σ=[some (.ref n),some (.ref lc),some (.ref st.length),some (.int (i:Int)),some (.ref st1.length),v5]∧st'[st1.length]?=some (.lst (ay r))∧r.length=i+1+t∧(∀c,c<i→r.getD c 0=0)∧r.getD i 0=ls.getD i 0∧(∀c,i<c→c<i+1+t→0≤r.getD c 0∧r.getD c 0<ls.getD c 0)∧st'[st.length]?=some (.lst (G.map bU))∧Bx st' n (b+8*i+t)∧XU st n st') ?_ ?_ ⟨List.replicate i 0++[ls.getD i 0],v5,rfl,by rw[List.getElem?_append_right (Nat.le_refl _),Nat.sub_self];rfl,by simp,fun c hc=>?_,?_,fun c h1 h2=>absurd h2 (by(first|lia|omega)),(List.getElem?_append_left hf1).trans e,(B1.cell (List.getElem?_append_left hn1)).mono (by simp),X2⟩
   · rintro σ st' ⟨r,v5,rfl,er,lr,r1,r2,r3,ef,B',X'⟩
     refine AE (by rfl) ef (eE (aH er) (xI ef (by rw[sizeLine_eq,List.length_map];(first|lia|omega)) ?_))
     have hf':=(List.getElem?_eq_some_iff.mp ef).1
     refine next _ _ ⟨G++[r],_,_,_,rfl,by rw[List.length_append,hG];rfl,fun k hk=>?_,by rw[List.getElem?_set_self hf',Bm],(B'.cell (List.getElem?_set_ne hnf)).mono (by(first|lia|omega)),X'.set (Nat.le_refl _)⟩
     rw[k_,hG]
     by_cases h:k<i
     · rw[if_pos h];exact hU k h
     · have:k=i:=by(first|lia|omega)
       subst this
       rw[if_neg h,if_pos rfl]
       exact⟨by(first|lia|omega),r1,r2,fun c h1 h2=>r3 c h1 (by(first|lia|omega))⟩
   · rintro t σ st' rest' ht ⟨r,v5,rfl,er,lr,r1,r2,r3,ef,B',X'⟩ next'
     refine⟨_,rfl,?_⟩
     have hj:i+1+t<ls.length:=by(first|lia|omega)
     have elj:dJ (ay ls) ((i:Int)+1+(t:Int))=some (.int (ls.getD (i+1+t) 0)):=fR hj
     have hx:ls.getD (i+1+t) 0∈ls:=getD_mem hj
     have hb':=hls _ hx
     refine AE (by rfl) er (a_ (aH (X'.at el hln)) elj ⟨n,_,_,rfl,B',by(first|lia|omega),by(first|lia|omega),by(first|lia|omega),fun x st2 x0 x1 B2 U2=>?_⟩)
     have l1:st1.length≠n:=Nat.ne_of_gt hn1
     have er2:=(U2.same _ l1).trans er
     have hl2:=(List.getElem?_eq_some_iff.mp er2).1
     refine xI er2 (by rw[sizeLine_eq,List.length_map];(first|lia|omega)) ?_
     have ne:st1.length≠st.length:=by(first|lia|omega)
     refine next' _ _ ⟨r++[x],_,rfl,by rw[List.getElem?_set_self hl2,ints_app],by rw[List.length_append,lr];rfl,fun c hc=>?_,?_,fun c h1 h2=>?_,(List.getElem?_set_ne ne).trans ((U2.same _ hnf).trans ef),(B2.cell (List.getElem?_set_ne l1)).mono (by(first|lia|omega)),(X'.trans (XU.upd U2)).set X1.len⟩
     · rw[k_,if_pos (by(first|lia|omega))];exact r1 c hc
     · rw[k_,if_pos (by(first|lia|omega))];exact r2
     · rw[k_,lr]
       by_cases h:c<i+1+t
       · rw[if_pos h];exact r3 c h1 h
       · have:c=i+1+t:=by(first|lia|omega)
         subst this
         rw[if_neg h,if_pos rfl];exact⟨x0,x1⟩
   · rw[k_,List.length_replicate,if_pos hc];exact Mx.dQ _ _
   · rw[k_,List.length_replicate,if_neg (Nat.lt_irrefl i),if_pos rfl]
noncomputable def iF:cO:=fun ds st K=>∃(d dr:D) (F:List (List Int)) (r:List Int) (m w:Nat) (ld:Nat→Nat),ds=[d,dr]∧gX st d F∧Mx.cE m w F∧Mx.ck F m w ld∧w≤8∧(∀x∈F,∀y∈x,0≤y∧y≤1000)∧items? st dr=some (ay r)∧r.length=w∧∀R:List Int,R.length=w→Mx.kD F m w ld (fun c=>r.getD c 0) m (fun c=>R.getD c 0)→K (bU R) st
noncomputable def kL:List Str:=["_law_form_here","_law_row_here","_law_rest","_law_step","_law_lead","_law_many"]
noncomputable def yM:DS:=(aG (bf 2 (b_ ia (ae (ab 1) aj)))
 (aG (hW (e7 (ab 0)) (bE 3) (aG (bf 4 (ax bV (du (dD (ae (b_ fQ (ae (ab 3) aj)) aj)) [none,some 3] (bE 0) (bQ (ax mJ (ax bV (ab 1) (ab 0)) (dC (.int 0)))) (ab 0)) (dC (.int 0))))
 (aG (bf 5 (ax iI (ax bV (ab 2) (ab 4)) (ax bV (ab 3) (ab 4))))
 (bf 2 (du (oU (ae (ab 2) (ae (ab 3) aj))) [none,none,some 5] (iE 0 1) cG (ax nJ (ab 0) (ax cX (ab 2) (ab 1))))))))
 (cv (b_ eQ (ae (ab 2) aj)))))
theorem qQ:∀(r:List Int) (i:Nat),fN r (i+1)=(fN r i).map (· +1)
 | [],_=>rfl
 |x::r,i=>by
  unfold fN
  split
  · exact qQ r (i+1)
  · rfl
theorem qc:∀r:List Int,((List.range r.length).filter fun j=>decide (r.getD j 0≠0)).head?=kh r
 | []=>rfl
 |x::r=>by
  have ih:=qc r
  rw[List.length_cons,List.range_succ_eq_map,List.filter_cons]
  by_cases h:x=0
  · have h1:decide ((x::r).getD 0 0≠0)=false:=by simpa using h
    rw[h1,if_neg Bool.false_ne_true,List.filter_map,List.head?_map]
    have e:(fun j=>decide ((x::r).getD j 0≠0))∘Nat.succ=fun j=>decide (r.getD j 0≠0):=by
     funext j
     simp
    rw[e,ih]
    unfold kh
    conv=>rhs;unfold fN
    rw[if_pos h,qQ]
  · have h1:decide ((x::r).getD 0 0≠0)=true:=by simpa using h
    rw[h1,if_pos rfl,List.head?_cons]
    unfold kh fN
    rw[if_neg h]
theorem wq{n:Nat}{p:Nat→Bool}{c:DT}{te:DE}{σc:bG}{st:ag}{K:List D→ag→Prop}(h:∀i:Nat,i<n→∃σ2,bE 0 (.int (i:Int)) σc=some σ2∧(∀K',K' (p i) st→c σ2 st K')∧∀K',K' (.int (i:Int)) st→te σ2 st K')(k:K (((List.range n).filter p).map fun(j:Nat)=>D.int (j:Int)) st):dz (bE 0) c te (fun _=>True) σc (dw 0 n) [] st K:=by
 refine gQ (fun rest acc st'=>st'=st∧∃j:Nat,j≤n∧rest=(List.range (n-j)).map (fun i=>D.int (((j+i:Nat):Int)))∧acc=((List.range j).filter p).map fun(j:Nat)=>D.int (j:Int)) ?_ ?_ _ _ _ ⟨rfl,0,Nat.zero_le _,by unfold dw;simp,rfl⟩
 · rintro acc st' ⟨rfl,j,hj,hr,rfl⟩
   have:n-j=0:=by
    cases q:n-j with
    |zero=>rfl
    |succ m=>rw[q,List.range_succ_eq_map]at hr;cases hr
   have hjn:j=n:=by(first|lia|omega)
   subst hjn
   exact⟨trivial,k⟩
 · rintro d rest acc st' ⟨rfl,j,hj,hr,rfl⟩ next
   cases q:n-j with
   |zero=>rw[q]at hr;cases hr
   |succ m=>
    rw[q,List.range_succ_eq_map,List.map_cons,List.map_map]at hr
    simp only[List.cons.injEq]at hr
    obtain⟨rfl,hrest⟩:=hr
    obtain⟨σ2,e2,hc,ht⟩:=h j (by(first|lia|omega))
    have hrest':rest=(List.range (n-(j+1))).map (fun i=>D.int (((j+1+i:Nat):Int))):=by
     have:n-(j+1)=m:=by(first|lia|omega)
     rw[this,hrest]
     refine List.map_congr_left fun i _=>?_
     show D.int (((j+(i+1):Nat):Int))=D.int (((j+1+i:Nat):Int))
     congr 2;(first|lia|omega)
    refine⟨trivial,σ2,e2,hc _ ?_⟩
    cases ep:p j with
    |false=>
     refine next _ _ ⟨rfl,j+1,by(first|lia|omega),hrest',?_⟩
     rw[List.range_succ,List.filter_append,List.map_append]
     simp[ep]
    |true=>
     refine eV (ht _ (next _ _ ⟨rfl,j+1,by(first|lia|omega),hrest',?_⟩))
     rw[List.range_succ,List.filter_append,List.map_append]
     simp[ep]
theorem uL{t:Int}:∀(r s:List Int),(gF (ay r) (ay s)).map (fun d=>match d with| .tup [.int a,.int b]=> .int (a-t*b)|_=> .aC)=ay (Mx.dR r (-t) s)
 | [],_=>rfl
 |_::_,[]=>rfl
 |a::r,b::s=>by
  have:=uL (t:=t) r s
  unfold gF Mx.dR at this⊢
  simp only[ay,List.map_cons,List.zip_cons_cons,List.zipWith_cons_cons]at this⊢
  rw[this,Int.neg_mul]
  congr 2
theorem vO{tg:eZ}{body:DS}{ok:ag→Prop}{E:jq}{st:ag}{ds:List D}{F:List (List Int)}(aI:ok st)(ra:bN st ds F)(I:Nat→bG→Prop)(hend:∀σ,I F.length σ→E.nx σ st)
 (hstep:∀(i:Nat) (d:D) (σ:bG) (rest:List D),i<F.length→items? st d=some (ay (F.getD i []))→I i σ→(∀σ',I (i+1) σ'→e9 tg body ok E rest σ' st)→∃σ1,tg d σ=some σ1∧body {E with nx:=e9 tg body ok E rest,ct:=e9 tg body ok E rest,bk:=E.nx} σ1 st)
 {σ:bG} (h0:I 0 σ):e9 tg body ok E ds σ st:=by
 refine i_ (fun rest σ st'=>st'=st∧∃i:Nat,i≤F.length∧rest=ds.drop i∧I i σ) ?_ ?_ _ _ _ ⟨rfl,0,Nat.zero_le _,rfl,h0⟩
 · rintro σ st' ⟨rfl,i,hi,hr,hI⟩
   have l:=ra.len
   have:=congrArg List.length hr
   rw[List.length_drop,List.length_nil]at this
   have e:i=F.length:=by(first|lia|omega)
   subst e
   exact⟨aI,hend σ hI⟩
 · rintro d rest σ st' ⟨rfl,i,hi,hr,hI⟩ next
   have l:=ra.len
   have Ct:i<ds.length:=by
    rcases Nat.lt_or_ge i ds.length with h|h
    · exact h
    · rw[List.drop_eq_nil_of_le h]at hr;cases hr
   rw[List.drop_eq_getElem_cons Ct]at hr
   obtain⟨rfl,rfl⟩:=List.cons.inj hr
   have hiF:i<F.length:=by(first|lia|omega)
   obtain⟨e,ee,he⟩:=ra.at (k:=i) hiF
   have e2:e=ds[i]:=by
    have:=ee
    rw[g7 (List.getElem?_eq_getElem Ct)]at this
    exact(Option.some.inj this).symm
   subst e2
   obtain⟨σ1,e1,hb⟩:=hstep i _ σ _ hiF he hI fun σ' h=>next σ' st' ⟨rfl,i+1,hiF,rfl,h⟩
   exact⟨aI,σ1,e1,hb⟩
theorem wA:∀ds st K,iF ds st K→ds.length=2∧yM {nx:=fun _ st'=>K .aC st',rt:=K} (bw kL ds) st:=by
 rintro ds st K ⟨d,dr,F,r,m,w,ld,rfl,⟨da,hd,ra⟩,hF,hS,w8,hsm,hr,lr,k⟩
 refine⟨rfl,?_⟩
 have lF:=hF.len
 refine g_ hr (iO hd fun ok aI=>?_)
 refine vO aI ra (fun i σ=>∃(L:List Int) (v3 v4 v5:Option D),σ=[some d,some dr,some (ba L),v3,v4,v5]∧L.length=w∧Mx.kD F m w ld (fun c=>r.getD c 0) i (fun c=>L.getD c 0)) ?_ ?_ ⟨r,none,none,none,rfl,lr,Mx.kD.start⟩
 · rintro σ ⟨L,v3,v4,v5,rfl,lL,f⟩
   rw[lF]at f
   exact eE rfl (k L lL f)
 · rintro i e σ rest hi he ⟨L,v3,v4,v5,rfl,lL,f⟩ next
   refine⟨_,rfl,?_⟩
   have him:i<m:=by(first|lia|omega)
   obtain⟨l1,l2,l3⟩:=hS.lead i him
   have wF:=hF.row him
   have hmem:F.getD i []∈F:=by rw[Mx.bc hi];exact List.getElem_mem _
   refine eA he ?_
   rw[List.length_map,wF]
   refine eC ⟨by(first|lia|omega),by(first|lia|omega)⟩ ⟨cj (by rw[d3];(first|lia|omega)),?_⟩
   rw[Int.toNat_natCast]
   refine wq (p:=fun j=>decide ((F.getD i []).getD j 0≠0)) (fun j hj=>⟨_,rfl,fun K' q=>?_,fun K' q=>q⟩) ?_
   · refine a_ he (fR (by(first|lia|omega))) (ne2 (fun h=>?_) fun h=>?_)
     · rw[decide_eq_true h]at q;exact q
     · rw[decide_eq_false (fun z=>z h)]at q;exact q
   have hf:=qc (F.getD i [])
   rw[sZ l3 (Int.ne_of_gt l2),wF]at hf
   generalize((List.range w).filter fun j=>decide ((F.getD i []).getD j 0≠0))=ps at hf⊢
   match ps,hf with
   |x::ps,hf=>
    cases hf
    have at1:dJ (ay (F.getD i [])) ((ld i:Nat):Int)=some (.int (Mx.g F i (ld i))):=fR (by(first|lia|omega))
    have at2:dJ (ay L) ((ld i:Nat):Int)=some (.int (L.getD (ld i) 0)):=fR (by(first|lia|omega))
    have sm:=hsm _ hmem (Mx.g F i (ld i)) (getD_mem (by(first|lia|omega)))
    refine a_ rfl nC (a_ rfl at2 (a_ he at1 (iK (by(first|lia|omega)) (gK (by(first|lia|omega)) (by(first|lia|omega))) ?_)))
    refine mR rfl he fun ok2 hok2=>⟨cj (by rw[iw,List.length_map,List.length_map];(first|lia|omega)),?_⟩
    refine comp_map (g:=fun z=>match z with| .tup [.int x,.int y]=> .int (x-(L.getD (ld i) 0).fdiv (Mx.g F i (ld i))*y)|_=> .aC) (hok2 st rfl he) _ (fun z hz K' q=>?_) ?_
    · obtain⟨x,y,_,hy,rfl⟩:=lu hz
      have:=hsm _ hmem y hy
      exact⟨_,rfl,dc (fv (by(first|lia|omega)) (by(first|lia|omega))) (oR q)⟩
    rw[uL]
    refine next _ ⟨_,_,_,_,rfl,by rw[Mx.lD (by(first|lia|omega))];exact lL,?_⟩
    have ee:(fun c=>(Mx.dR L (-((L.getD (ld i) 0).fdiv (Mx.g F i (ld i)))) (F.getD i [])).getD c 0)=fun c=>L.getD c 0-(L.getD (ld i) 0).fdiv (Mx.g F i (ld i))*Mx.g F i c:=by
     funext c
     rw[Mx.mG (by(first|lia|omega)),Int.neg_mul]
     rfl
    rw[ee]
    exact f.step hS him
noncomputable def iU:cO:=fun ds st K=>∃(n:Nat) (b:Int),ds=[.ref n,.int 216]∧Bx st n b∧b≤900000∧∀(ls:List Int) (w:Nat) st',ls.length=w→1≤w→w≤8→(∀x∈ls,1≤x)→Mx.PN ls≤216→st'[st.length]?=some (.lst (ay ls))→Bx st' n (b+9)→XU st n st'→K (.ref st.length) st'
noncomputable def j5:List Str:=["_law_source_here","_law_most","_law_wide","_law_leads_here","_law_k","_law_at","_law_more","_law_room","_law_one"]
noncomputable def wJ:DS:=(aG (bf 2 (ax gg (dC (.int 1)) (aP aW (ae (ab 0) (ae (dC (.int 4)) aj)))))
 (aG (fG (bQ (ax jN (aP aW (ae (ab 0) (ae (dC (.int 8)) aj))) (dC (.int 5)))) (bf 2 (ax gg (dC (.int 6)) (aP aW (ae (ab 0) (ae (dC (.int 3)) aj))))) eM)
 (aG (bf 3 (ax rP (sy (ae (dC (.int 1)) aj)) (ab 2)))
 (aG (hW (dD (ae (dC (.int 3)) aj)) (bE 4) (aG (bf 5 (aP aW (ae (ab 0) (ae (ab 2) aj))))
 (aG (bf 6 (ax gg (dC (.int 1)) (aP aW (ae (ab 0) (ae (dC (.int 6)) aj)))))
 (aG (bf 7 (ab 1))
 (aG (hW (e7 (ab 3)) (bE 8) (bf 7 (ax iI (ab 7) (ab 8))))
 (eP (ab 3) (ab 5) (ax cX (ax bV (ab 3) (ab 5)) (b_ u9 (ae (ab 6) (ae (b_ sv (ae (dC (.int 1)) (ae (ab 7) aj))) aj))))))))))
 (cv (ab 3))))))
theorem Dr{k:Nat}{te:DE}{B:DS}{E:jq}{σ:bG}{st:ag}(h:te σ st fun d st1=>B E (σ.set k (some d)) st1):aG (bf k te) B E σ st:=h
theorem Dn(n:Nat):(List.replicate n [D.int 1]).flatten=ay (List.replicate n 1):=by
 induction n with
 |zero=>rfl
 |succ n ih=>rw[List.replicate_succ,List.flatten_cons,ih,List.replicate_succ];rfl
theorem ints_set{s:List Int}{l:Nat}{z:Int}:(ay s).set l (.int z)=ay (s.set l z):=by unfold ay;rw[List.map_set]
theorem uX:∀ds st K,iU ds st K→ds.length=2∧wJ {nx:=fun _ st'=>K .aC st',rt:=K} (bw j5 ds) st:=by
 rintro ds st K ⟨n,b,rfl,B,hb,k⟩
 refine⟨rfl,?_⟩
 refine⟨n,4,b,rfl,B,by(first|lia|omega),by decide,by decide,fun r0 st0 a0 a1 B0 U0=>eU ?_⟩
 dsimp only
 refine jU (fun σ' st'=>∃w:Nat,1≤w∧w≤8∧σ'=[some (.ref n),some (.int 216),some (.int (w:Int)),none,none,none,none,none,none]∧Bx st' n (b+3)∧Upd st n st') (fun nx hnx=>?_) ?_
 · refine⟨n,8,_,rfl,B0,by(first|lia|omega),by decide,by decide,fun r1 st1 c0 c1 B1 U1=>?_⟩
   refine eq2 (fun _=>eV ?_) fun _=>?_
   · refine⟨n,3,_,rfl,B1,by(first|lia|omega),by decide,by decide,fun r2 st2 d0 d1 B2 U2=>eU ?_⟩
     obtain⟨w,ew⟩:=Int.eq_ofNat_of_zero_le (show 0≤6+r2 by(first|lia|omega))
     exact hnx _ _ ⟨w,by(first|lia|omega),by(first|lia|omega),by rw[ew];rfl,B2.mono (by(first|lia|omega)),(U0.trans U1).trans U2⟩
   · obtain⟨w,ew⟩:=Int.eq_ofNat_of_zero_le (show 0≤1+r0 by(first|lia|omega))
     exact hnx _ _ ⟨w,by(first|lia|omega),by(first|lia|omega),by rw[ew];rfl,B1.mono (by(first|lia|omega)),U0.trans U1⟩
 rintro σ' st1 ⟨w,w1,w8,rfl,B1,U1⟩
 refine JQ (Nat.le_of_ble_eq_true rfl) (D_ ⟨by(first|lia|omega),by(first|lia|omega),cj (by simp;(first|lia|omega))⟩ ?_)
 rw[Int.toNat_natCast,Dn,U1.len]
 have hn:=B.lt
 have hnL:st.length≠n:=Nat.ne_of_gt hn
 have X1:XU st n (st1++[Cell.lst (ay (List.replicate w 1))]):=(XU.upd U1).trans (XU.ext Ext.push)
 refine eC ⟨by decide,by decide⟩ ?_
 refine gL 3 (fun j σ st'=>∃(ls:List Int) (v4 v5 v6 v7 v8:Option D),σ=[some (.ref n),some (.int 216),some (.int (w:Int)),some (.ref st.length),v4,v5,v6,v7,v8]∧st'[st.length]?=some (.lst (ay ls))∧ls.length=w∧(∀x∈ls,1≤x)∧Mx.PN ls≤6^j∧Bx st' n (b+3+2*j)∧XU st n st') ?_ ?_ ⟨List.replicate w 1,none,none,none,none,none,rfl,?_,by simp,fun x hx=>by rw[(List.mem_replicate.mp hx).2];exact Int.le_refl _,by rw[Mx.AB];decide,(B1.cell (List.getElem?_append_left B1.lt)).mono (by simp),X1⟩
 · rintro σ st' ⟨ls,v4,v5,v6,v7,v8,rfl,e,hl,h1,hP,B',X'⟩
   exact k ls w st' hl w1 w8 h1 hP e (B'.mono (by(first|lia|omega))) X'
 · rintro j σ st2 rest hj ⟨ls,v4,v5,v6,v7,v8,rfl,e,hl,h1,hP,B2,X2⟩ next
   refine⟨_,rfl,?_⟩
   refine⟨n,_,_,rfl,B2,by(first|lia|omega),by(first|lia|omega),by(first|lia|omega),fun ra st3 a0 a1 B3 U3=>?_⟩
   obtain⟨at',rfl⟩:=Int.eq_ofNat_of_zero_le a0
   refine⟨n,6,_,rfl,B3,by(first|lia|omega),by decide,by decide,fun r4 st4 c0 c1 B4 U4=>eU ?_⟩
   have e4:st4[st.length]?=some (.lst (ay ls)):=(U4.same _ hnL).trans ((U3.same _ hnL).trans e)
   have l4:=(List.getElem?_eq_some_iff.mp e4).1
   have hat:at'<ls.length:=by(first|lia|omega)
   dsimp only
   refine Dr ?_
   dsimp only[ab]
   refine jU (fun σ' st'=>st'=st4∧∃(room:Int) (v8:Option D),σ'=[some (.ref n),some (.int 216),some (.int (w:Int)),some (.ref st.length),some (.int (j:Int)),some (.int (at':Int)),some (.int (1+r4)),some (.int room),v8]) (fun nx hnx=>?_) ?_
   · refine iO (aH e4) fun ok aI=>?_
     refine i_ (fun rest σ st'=>st'=st4∧∃(room:Int) (v8:Option D) (ms:List Int),rest=ay ms∧(∀x∈ms,x∈ls)∧σ=[some (.ref n),some (.int 216),some (.int (w:Int)),some (.ref st.length),some (.int (j:Int)),some (.int (at':Int)),some (.int (1+r4)),some (.int room),v8]) ?_ ?_ _ _ _ ⟨rfl,216,v8,ls,rfl,fun _ h=>h,rfl⟩
     · rintro σ st' ⟨rfl,room,v8,ms,_,_,rfl⟩
       exact⟨aI,hnx _ _ ⟨rfl,room,v8,rfl⟩⟩
     · rintro d rest σ st' ⟨rfl,room,v8,ms,hr,hm,rfl⟩ nxt
       match ms,hr,hm with
       |y::ms,hr,hm=>
        obtain⟨rfl,rfl⟩:=List.cons.inj hr
        have y1:=h1 y (hm y List.mem_cons_self)
        have y2:=Int.le_trans (Mx.uZ h1 (hm y List.mem_cons_self)) hP
        have p6:(6:Int)^j≤216:=by
         have:j=0∨j=1∨j=2:=by(first|lia|omega)
         rcases this with rfl|rfl|rfl<;>decide
        exact⟨aI,_,rfl,iK (by(first|lia|omega)) (gK (by(first|lia|omega)) (by(first|lia|omega))) (nxt _ _ ⟨rfl,_,_,ms,rfl,fun x hx=>hm x (List.mem_cons_of_mem _ hx),rfl⟩)⟩
   rintro σ' st' ⟨rfl,room,v8,rfl⟩
   refine a_ (aH e4) (fR hat) (za (Hm ?_))
   generalize ef:(if(if room>1 then room else 1)<1+r4 then(if room>1 then room else 1)else 1+r4)=f
   have hf:1≤f∧f≤6:=by
    rw[←ef]
    split<;>split at* <;>(first|lia|omega)
   clear ef
   refine dc (fv (by(first|lia|omega)) (by(first|lia|omega))) (fF e4 (ll (by(first|lia|omega)) (by rw[List.length_map];(first|lia|omega))) ?_)
   rw[Int.toNat_natCast,ints_set]
   have hx:ls.getD at' 0∈ls:=getD_mem hat
   refine next _ _ ⟨_,_,_,_,_,_,rfl,List.getElem?_set_self l4,by rw[List.length_set];exact hl,fun x hx'=>?_,?_,(B4.cell (List.getElem?_set_ne hnL)).mono (by(first|lia|omega)),(X2.trans (XU.upd (U3.trans U4))).set (Nat.le_refl _)⟩
   · rcases List.mem_or_eq_of_mem_set hx' with h|h
     · exact h1 x h
     · have:=h1 _ hx
       have:=Int.mul_le_mul this hf.1 (by decide) (Int.le_trans (by decide) this)
       rw[h];exact this
   · rw[Mx.AH hat,Int.pow_succ]
     exact Int.mul_le_mul hP hf.2 (by(first|lia|omega)) (Int.le_trans (Int.le_trans (by decide) (Mx.qX h1)) hP)
 · rw[←U1.len,List.getElem?_append_right (Nat.le_refl _),Nat.sub_self];rfl
noncomputable def gv:cO:=fun ds st K=>∃(n:Nat) (b:Int),ds=[.ref n,.int 216]∧Bx st n b∧b≤800000∧∀(fc:Nat) (F B:List (List Int)) (m w:Nat) (ld:Nat→Nat) st',st.length≤fc→st'[fc]?=some (.lst (F.map bU))→1≤m→m≤8→w≤8→1≤w→Mx.cE m w F→Mx.ck F m w ld→Mx.oF F m ld→(∀r∈F,∀x∈r,0≤x∧x≤1000)→kC F ld m≤216→Mx.iS F m w (216*8^6) B m→Bx st' n (b+120)→XU st n st'→K (.tup [.ref fc,gO B]) st'
noncomputable def iD:List Str:=["_law_source_here","_law_most","_law_leads_here","_law_form_here","_law_k"]
noncomputable def sI:DS:=(aG (bf 2 (aP iU (ae (ab 0) (ae (ab 1) aj))))
 (aG (bf 3 (aP jC (ae (ab 0) (ae (ab 2) aj))))
 (aG (hW (dD (ae (dC (.int 2)) aj)) (bE 4) (fG (uj (bQ (ax jN (aP aW (ae (ab 0) (ae (dC (.int 8)) aj))) (dC (.int 3)))) (bQ (ax nP (b_ fQ (ae (ab 3) aj)) (dC (.int 1))))) (jx (nN mm (ab 3) (ae (aP aW (ae (ab 0) (ae (b_ fQ (ae (ab 3) aj)) aj))) aj))) eM))
 (cv (i6 (ae (ab 3) (ae (aP fx (ae (ab 0) (ae (ab 3) aj))) aj)))))))
theorem J3{σ:bG}{st:ag}{K:DK}{n:Nat}{xs:List D}{to:DE}{ta:DA}(ho:∀K',K' (.ref n) st→to σ st K')(e:st[n]?=some (.lst xs))(ha:ta σ st fun ds st2=>(∃ys,st2[n]?=some (.lst ys))∧mm n ds st2 K):nN mm to ta σ st K:=by
 unfold nN
 refine ho _ ?_
 simp only[e]
 exact ha
theorem Kx{st2:ag}{K:DK}{n:Nat}{ys:List D}{i:Int}{j:Nat}{d:D}(e2:st2[n]?=some (.lst ys))(h63: -(2^63)≤i∧i<2^63)(ej:jK ys.length i=some j)(ed:ys[j]?=some d)(k:K d (st2.set n (.lst (ys.eraseIdx j)))):(∃ys,st2[n]?=some (.lst ys))∧mm n [.int i] st2 K:=by
 refine⟨⟨ys,e2⟩,?_⟩
 unfold mm
 simp only[e2,ej,ed]
 exact⟨h63,k⟩
theorem zi{ls:List Int}{w:Nat}{zs:List (Nat×List Int)}(h:Mx.Zs ls w zs):∀k,k≤zs.length→kC (zs.map (·.2)) (Mx.nV zs) k=Mx.PN ((zs.take k).map fun z=>ls.getD z.1 0)
 |0,_=>rfl
 |k+1,hk=>by
  have e:zs.take (k+1)=zs.take k++[zs[k]]:=List.take_succ_eq_append_getElem hk
  rw[e,List.map_append,Mx.Ay,←zi h k (Nat.le_of_lt hk)]
  show kC _ _ k*Mx.g _ k (Mx.nV zs k)=kC _ _ k*(ls.getD (zs[k]).1 0*1)
  obtain⟨h1,h2⟩:=h.mem hk
  unfold Mx.g
  rw[h2.at',Int.mul_one]
  unfold Mx.nV
  rw[Mx.bc hk]
theorem Cc(ls:List Int):(List.range ls.length).map (fun i=>ls.getD i 0)=ls:=by
 refine List.ext_getElem (by simp) fun i h1 h2=>?_
 rw[List.getElem_map,List.getElem_range,Mx.bc h2]
theorem rp:∀ds st K,gv ds st K→ds.length=2∧sI {nx:=fun _ st'=>K .aC st',rt:=K} (bw iD ds) st:=by
 rintro ds st K ⟨n,b,rfl,B,hb,k⟩
 refine⟨rfl,?_⟩
 have hn:=B.lt
 refine⟨n,b,rfl,B,by(first|lia|omega),fun ls w st1 hl w1 w8 h1 hP e1 B1 X1=>?_⟩
 have hlc:st.length≠n:=Nat.ne_of_gt hn
 have hls:∀x∈ls,1≤x∧x≤216:=fun x hx=>⟨h1 x hx,Int.le_trans (Mx.uZ h1 hx) hP⟩
 refine⟨n,st.length,_,ls,w,rfl,B1,by(first|lia|omega),e1,hlc,hl,w8,hls,fun G st2 hG hU e2 B2 X2=>?_⟩
 have hfc:st.length≤st1.length:=X1.len
 have hfn:st1.length≠n:=by(first|lia|omega)
 have X02:=X1.trans X2
 generalize st1.length=fc at hfc hfn e2
 clear X1 X2 B1 e1 hlc st1
 have hz0:∃zs:List (Nat×List Int),G=zs.map (·.2)∧Mx.Zs ls w zs∧1≤zs.length∧zs.length≤8∧Mx.PN (zs.map fun z=>ls.getD z.1 0)≤216:=by
  refine⟨(List.range w).map fun i=>(i,G.getD i []),?_,⟨fun z hz=>?_,?_,h1,hl⟩,by simpa using w1,by simpa using w8,?_⟩
  · rw[List.map_map]
    refine List.ext_getElem (by simp[hG]) fun i h1 h2=>?_
    rw[List.getElem_map,List.getElem_range]
    show G[i]=G.getD i []
    rw[Mx.bc h1]
  · obtain⟨i,hi,rfl⟩:=List.mem_map.mp hz
    rw[List.mem_range]at hi
    exact⟨hi,hU i hi⟩
  · rw[List.pairwise_map]
    exact List.pairwise_lt_range
  · rw[List.map_map]
    have:((fun z:Nat×List Int=>ls.getD z.1 0)∘fun i=>(i,G.getD i []))=fun i=>ls.getD i 0:=rfl
    rw[this,←hl,Cc]
    exact hP
 clear hU hG
 refine eC ⟨by decide,by decide⟩ ?_
 refine gL 2 (fun j σ st'=>∃(zs:List (Nat×List Int)) (v4:Option D),σ=[some (.ref n),some (.int 216),some (.ref st.length),some (.ref fc),v4]∧st'[fc]?=some (.lst ((zs.map (·.2)).map bU))∧Mx.Zs ls w zs∧1≤zs.length∧zs.length≤8∧Mx.PN (zs.map fun z=>ls.getD z.1 0)≤216∧Bx st' n (b+9+64+2*j)∧XU st n st') ?_ ?_ ?_
 · rintro σ st' ⟨zs,v4,rfl,e,hz,z1,z8,hp,B',X'⟩
   have hsm:∀r∈zs.map (·.2),∀x∈r,0≤x∧x≤216:=fun r hr x hx=>hz.small (M:=216) (fun x hx=>(hls x hx).2) (by decide) r hr x hx
   refine⟨n,_,.ref fc,zs.map (·.2),zs.length,w,216,rfl,B',by(first|lia|omega),⟨_,aH e,bN.tup⟩,hz.is,z1,z8,w8,fun r hr x hx=>by have:=hsm r hr x hx;(first|lia|omega),fun T st3 M B3 X3=>⟨Nat.le_of_ble_eq_true rfl,?_⟩⟩
   have e3:=X3.at e hfn
   refine k fc (zs.map (·.2)) T zs.length w (Mx.nV zs) st3 hfc e3 z1 z8 w8 w1 hz.is hz.qY hz.red (fun r hr x hx=>?_) ?_ M (B3.mono (by(first|lia|omega))) (X'.trans X3)
   · have:=hsm r hr x hx
     exact⟨this.1,Int.le_trans this.2 (by decide)⟩
   · rw[zi hz _ (Nat.le_refl _),List.take_length];exact hp
 · rintro j σ st3 rest hj ⟨zs,v4,rfl,e,hz,z1,z8,hp,B3,X3⟩ next
   refine⟨_,rfl,?_⟩
   refine⟨n,8,_,rfl,B3,by(first|lia|omega),by decide,by decide,fun r4 st4 a0 a1 B4 U4=>?_⟩
   have e4:=(U4.same _ hfn).trans e
   have X4:=X3.trans (XU.upd U4)
   refine eq2 (fun _=>eV ?_) fun _=>next _ _ ⟨zs,_,rfl,e4,hz,z1,z8,hp,B4.mono (by(first|lia|omega)),X4⟩
   have lz:((zs.map (·.2)).map bU).length=zs.length:=by rw[List.length_map,List.length_map]
   refine eA (aH e4) (Ci (fun hg=>eV ?_) fun _=>next _ _ ⟨zs,_,rfl,e4,hz,z1,z8,hp,B4.mono (by(first|lia|omega)),X4⟩)
   refine J3 (fun K' q=>q) e4 (eA (aH e4) ⟨n,_,_,rfl,B4,by(first|lia|omega),by(first|lia|omega),by(first|lia|omega),fun r5 st5 c0 c1 B5 U5=>?_⟩)
   obtain⟨p,rfl⟩:=Int.eq_ofNat_of_zero_le c0
   have hp5:p<zs.length:=by(first|lia|omega)
   have e5:=(U5.same _ hfn).trans e4
   have l5:=(List.getElem?_eq_some_iff.mp e5).1
   refine Kx e5 (j:=p) ⟨by(first|lia|omega),by(first|lia|omega)⟩ (by rw[ll (by(first|lia|omega)) (by rw[lz,Int.toNat_natCast];exact hp5),Int.toNat_natCast]) (List.getElem?_eq_getElem (by rw[lz];exact hp5)) ?_
   refine next _ _ ⟨zs.eraseIdx p,_,rfl,?_,hz.erase,?_,?_,?_,(B5.cell (List.getElem?_set_ne hfn)).mono (by(first|lia|omega)),(X4.trans (XU.upd U5)).set hfc⟩
   · rw[List.getElem?_set_self l5,Mx.oX,Mx.oX]
   · rw[List.length_eraseIdx_of_lt hp5];(first|lia|omega)
   · rw[List.length_eraseIdx_of_lt hp5];(first|lia|omega)
   · refine Int.le_trans (Mx.Fx ((List.eraseIdx_sublist zs p).map _) fun x hx=>?_) hp
     obtain⟨z,hzm,rfl⟩:=List.mem_map.mp hx
     exact hz.GO (hz.ur z hzm).1
 · obtain⟨zs,rfl,hz,z1,z8,hp⟩:=hz0
   exact⟨zs,none,rfl,e2,hz,z1,z8,hp,B2.mono (by simp),X02⟩
noncomputable def ij:cO:=fun ds st K=>∃(n:Nat) (b:Int) (w:Nat),ds=[.ref n,.int w]∧Bx st n b∧b≤800000∧w≤8∧∀(r:List Int) st',r.length=w→Bx st' n (b+32)→Upd st n st'→K (bU r) st'
noncomputable def mq:List Str:=["_law_source_here","_law_wide"]
noncomputable def AA:DS:=(cv (b_ eQ (ae (du (dD (ae (ab 1) aj)) [none,some 0] (bE 0) cG (aP eR (ae (ab 1) aj))) aj)))
theorem yJ:∀ds st K,ij ds st K→ds.length=2∧AA {nx:=fun _ st'=>K .aC st',rt:=K} (bw mq ds) st:=by
 rintro ds st K ⟨n,b,w,rfl,B,hb,w8,k⟩
 refine⟨rfl,?_⟩
 refine eC ⟨by(first|lia|omega),by(first|lia|omega)⟩ ⟨cj (by rw[d3];(first|lia|omega)),?_⟩
 rw[Int.toNat_natCast]
 refine gQ (fun rest acc st'=>∃r:List Int,acc=ay r∧r.length+rest.length=w∧Bx st' n (b+4*r.length)∧Upd st n st') ?_ ?_ _ _ _ ⟨[],rfl,by rw[d3];simp,B.mono (by simp),Upd.refl⟩
 · rintro acc st' ⟨r,rfl,hl,B',U⟩
   have hl:r.length=w:=by simpa using hl
   exact⟨trivial,eE rfl (k r st' hl (B'.mono (by(first|lia|omega))) U)⟩
 · rintro x rest acc st' ⟨r,rfl,hl,B',U⟩ next
   have hl2:r.length<w:=by simp at hl;(first|lia|omega)
   refine⟨trivial,_,rfl,?_⟩
   refine⟨n,_,rfl,B',by(first|lia|omega),fun y st2 _ B2 U2=>?_⟩
   show dz _ _ _ _ _ _ _ _ _
   rw[ints_app]
   exact next _ _ ⟨r++[y],rfl,by simp at hl⊢;(first|lia|omega),B2.mono (by simp;(first|lia|omega)),U.trans U2⟩
inductive xV(F:List (List Int))(m w:Nat)(row:Nat→Int)(P:Int):D→Prop
 |int (o:Int) (h0:1≤o) (h:Mx.bq F m w fun c=>o*row c) (hl:∀x:Int,1≤x→x<o→¬Mx.bq F m w fun c=>x*row c):xV F m w row P (.int o)
 |aC (h:∀x:Int,1≤x→x≤P→¬Mx.bq F m w fun c=>x*row c):xV F m w row P .aC
theorem r9.h7{F:List (List Int)}{m w:Nat}{row:Nat→Int}{P:Int}{d d':D}(a:r9 F m w row P d)(b:xV F m w row P d'):d=d'∧(d= .aC∨∃i,d= .int i):=by
 cases a with
 |int o h0 hP h=>
  cases b with
  |int q q0 hq hl=>
   obtain⟨y,hy⟩:=(h q).mp hq
   have l1:o≤q:=Int.le_of_dvd (by(first|lia|omega)) ⟨y,hy⟩
   have l2:q≤o:=Int.not_lt.mp fun z=>hl o (by(first|lia|omega)) z ((h o).mpr (Int.dvd_refl o))
   have e:o=q:=by(first|lia|omega)
   exact⟨by rw[e],.inr ⟨o,rfl⟩⟩
  |aC hl=>exact absurd ((h o).mpr (Int.dvd_refl o)) (hl o (by(first|lia|omega)) hP)
 |aC h=>
  cases b with
  |int q q0 hq hl=>exact absurd hq (h q (by(first|lia|omega)))
  |aC hl=>exact⟨rfl,.inl rfl⟩
noncomputable def j_:cO:=fun ds st K=>∃(d dr:D) (F:List (List Int)) (r:List Int) (m w:Nat) (ld:Nat→Nat),ds=[d,dr]∧gX st d F∧Mx.cE m w F∧Mx.ck F m w ld∧w≤8∧(∀x∈F,∀y∈x,0≤y∧y≤1000)∧kC F ld m≤216∧items? st dr=some (ay r)∧r.length=w∧∀d',xV F m w (fun c=>r.getD c 0) (kC F ld m) d'→K d' st
noncomputable def mf:List Str:=["_law_form_here","_law_row_here","_law_most","_law_step","_law_own","_law_rest","_law_many"]
noncomputable def zW:DS:=(aG (bf 2 (dC (.int 1)))
 (aG (hW (e7 (ab 0)) (bE 3) (bf 2 (ax cX (ab 2) (ax bV (du (e7 (ab 3)) [none] (bE 0) (bQ (ax mJ (ab 0) (dC (.int 0)))) (ab 0)) (dC (.int 0))))))
 (aG (bf 4 (aP iF (ae (ab 0) (ae (ab 1) aj))))
 (aG (bf 5 (ab 4))
 (aG (hW (la (ae (dC (.int 1)) (ae (ax gg (ab 2) (dC (.int 1))) aj))) (bE 6) (aG (fG (lZ (bQ (b_ nc (ae (ab 5) aj)))) (cv (ab 6)) eM)
 (bf 5 (aP iF (ae (ab 0) (ae (du (oU (ae (ab 5) (ae (ab 4) aj))) [none,none] (iE 0 1) cG (ax gg (ab 0) (ab 1))) aj))))))
 (cv (dC .aC)))))))
theorem pV:∀(r:List Int) (l:Nat),(∀c,c<l→r.getD c 0=0)→r.getD l 0≠0→∃t,(r.filter fun x=>decide (x≠0))=r.getD l 0::t
 | [],_,_,h=>(h rfl).elim
 |x::r,0,_,h=>⟨_,by rw[List.filter_cons,if_pos (decide_eq_true (show x≠0 from h))];rfl⟩
 |x::r,l+1,hz,h=>by
  obtain⟨t,e⟩:=pV r l (fun c hc=>hz (c+1) (Nat.succ_lt_succ hc)) h
  have:x=0:=hz 0 (Nat.zero_lt_succ _)
  exact⟨t,by rw[List.filter_cons,if_neg (by simp[this]),e];rfl⟩
theorem uy{ok:ag→Prop}{st:ag}{K:List D→ag→Prop}(aI:ok st):∀(r s:List Int),K (ay (s++r.filter fun x=>decide (x≠0))) st→dz (bE 0) (bQ (ax mJ (ab 0) (dC (.int 0)))) (ab 0) ok [none] (ay r) (ay s) st K:=fun r s k=>by
 refine gQ (fun rest acc st'=>st'=st∧∃r' s':List Int,rest=ay r'∧acc=ay s'∧(s'++r'.filter fun x=>decide (x≠0))=s++r.filter fun x=>decide (x≠0)) ?_ ?_ _ _ _ ⟨rfl,r,s,rfl,rfl,rfl⟩
 · rintro acc st' ⟨rfl,r',s',hr,rfl,e⟩
   match r',hr with
   | [],_=>
     rw[List.filter_nil,List.append_nil]at e
     rw[e]
     exact⟨aI,k⟩
 · rintro d rest acc st' ⟨rfl,r',s',hr,rfl,e⟩ next
   match r',hr,e with
   |x::r',hr,e=>
    obtain⟨rfl,rfl⟩:=List.cons.inj hr
    refine⟨aI,_,rfl,ne2 (fun h=>eV ?_) fun h=>?_⟩
    · refine next _ _ ⟨rfl,r',s'++[x],rfl,ints_app,?_⟩
      rw[List.filter_cons,if_pos (decide_eq_true h)]at e
      rw[List.append_assoc];exact e
    · refine next _ _ ⟨rfl,r',s',rfl,rfl,?_⟩
      rw[List.filter_cons,if_neg (by rw[decide_eq_true_eq];exact fun z=>z h)]at e
      exact e
theorem nK:∀r:List Int,kF (ay r)=some r
 | []=>rfl
 |x::r=>by
  show kF (D.int x::ay r)=_
  unfold kF
  rw[nK r]
  rfl
theorem uN:∀(r s:List Int),(gF (ay r) (ay s)).map (fun d=>match d with| .tup [.int a,.int b]=> .int (a+b)|_=> .aC)=ay (Mx.dR r 1 s)
 | [],_=>rfl
 |_::_,[]=>rfl
 |a::r,b::s=>by
  have:=uN r s
  unfold gF Mx.dR at this⊢
  simp only[ay,List.map_cons,List.zip_cons_cons,List.zipWith_cons_cons]at this⊢
  rw[this,Int.one_mul]
theorem mZ{r:List Int}{w:Nat}(h:r.length=w):(r.any fun n=>decide (n≠0))=false↔∀c,c<w→r.getD c 0=0:=by
 constructor
 · intro e c hc
   have hc':c<r.length:=by(first|lia|omega)
   have:=List.any_eq_false.mp e (r.getD c 0) (getD_mem hc')
   simpa using this
 · intro e
   refine List.any_eq_false.mpr fun x hx=>?_
   obtain⟨i,hi,rfl⟩:=List.mem_iff_getElem.mp hx
   have:=e i (by(first|lia|omega))
   rw[Mx.bc hi]at this
   simpa using this
theorem y8:∀ds st K,j_ ds st K→ds.length=2∧zW {nx:=fun _ st'=>K .aC st',rt:=K} (bw mf ds) st:=by
 rintro ds st K ⟨d,dr,F,r,m,w,ld,rfl,hD,hF,hS,w8,hsm,hP,hr,lr,k⟩
 refine⟨rfl,?_⟩
 obtain⟨da,hd,ra⟩:=id hD
 have lF:=hF.len
 have P1:∀i,i≤m→1≤kC F ld i:=fun i=>by
  induction i with
  |zero=>exact fun _=>Int.le_refl _
  |succ i ih=>
   intro hi
   have h1:=ih (Nat.le_of_lt hi)
   have h2:=(hS.lead i hi).2.1
   exact Int.mul_le_mul h1 (show 1≤Mx.g F i (ld i) by(first|lia|omega)) (by decide) (by(first|lia|omega))
 refine iO hd fun ok aI=>?_
 refine vO aI ra (fun i σ=>∃v3:Option D,σ=[some d,some dr,some (.int (kC F ld i)),v3,none,none,none]) ?_ ?_ ⟨none,rfl⟩
 · rintro σ ⟨v3,rfl⟩
   rw[lF]
   refine⟨d,dr,F,r,m,w,ld,rfl,hD,hF,hS,w8,hsm,hr,lr,fun O lO fO=>?_⟩
   refine eU (rV ⟨by decide,by decide,by have:=P1 m (Nat.le_refl _);(first|lia|omega),by(first|lia|omega)⟩ ?_)
   have en:(kC F ld m+1-1).toNat=(kC F ld m).toNat:=by(first|lia|omega)
   rw[en]
   have pm:=P1 m (Nat.le_refl _)
   refine qL (kC F ld m).toNat (fun j σ st'=>st'=st∧∃(R:List Int) (v6:Option D),σ=[some d,some dr,some (.int (kC F ld m)),v3,some (bU O),some (bU R),v6]∧R.length=w∧Mx.kD F m w ld (fun c=>(1+(j:Int))*r.getD c 0) m (fun c=>R.getD c 0)∧∀x:Int,1≤x→x<1+(j:Int)→¬Mx.bq F m w fun c=>x*r.getD c 0) ?_ ?_ ⟨rfl,O,none,rfl,lO,?_,fun x h1 h2=>absurd h2 (by(first|lia|omega))⟩
   · rintro σ st' ⟨rfl,R,v6,rfl,lR,f,hl⟩
     exact k _ (.aC fun x h1 h2=>hl x h1 (by(first|lia|omega)))
   · rintro j σ st' rest hj ⟨rfl,R,v6,rfl,lR,f,hl⟩ next
     refine⟨_,rfl,?_⟩
     refine wX (nK R) ?_
     have z:=f.zero hS
     cases ea:(R.any fun n=>decide (n≠0))with
     |false=>
      refine eV ?_
      exact k _ (.int _ (by(first|lia|omega)) (z.mp ((mZ lR).mp ea)) hl)
     |true=>
      have nz:¬Mx.bq F m w fun c=>(1+(j:Int))*r.getD c 0:=fun h=>by
       have:=(mZ lR).mpr (z.mpr h)
       rw[this]at ea;cases ea
      refine mR rfl rfl fun ok2 hok2=>⟨cj (by rw[iw,List.length_map,List.length_map];(first|lia|omega)),?_⟩
      refine comp_map (g:=fun d=>match d with| .tup [.int a,.int b]=> .int (a+b)|_=> .aC) (hok2 _ rfl rfl) _ (fun d hd K' q=>?_) ?_
      · obtain⟨x,y,_,_,rfl⟩:=lu hd
        exact⟨_,rfl,eU q⟩
      rw[uN]
      have lS:(Mx.dR R 1 O).length=w:=by rw[Mx.lD (by(first|lia|omega))];exact lR
      refine⟨d,_,F,Mx.dR R 1 O,m,w,ld,rfl,hD,hF,hS,w8,hsm,rfl,lS,fun T lT fT=>?_⟩
      refine next _ _ ⟨rfl,T,_,rfl,lT,?_,fun x h1 h2=>?_⟩
      · have ee:(fun c=>(Mx.dR R 1 O).getD c 0)=fun c=>R.getD c 0+O.getD c 0:=by
         funext c
         rw[Mx.mG (by(first|lia|omega)),Int.one_mul]
        rw[ee]at fT
        have:=f.add fO fT
        have e1:(1+(j:Int)+1)=1+((j+1:Nat):Int):=by(first|lia|omega)
        rw[e1]at this
        exact this
      · by_cases hx:x<1+(j:Int)
        · exact hl x h1 hx
        · have:x=1+(j:Int):=by(first|lia|omega)
          rw[this];exact nz
   · have e1:(fun c=>(1+((0:Nat):Int))*r.getD c 0)=fun c=>r.getD c 0:=by
      funext c
      show(1+0)*_=_
      rw[Int.add_zero,Int.one_mul]
     rw[e1];exact fO
 · rintro i e σ rest hi he ⟨v3,rfl⟩ next
   refine⟨_,rfl,?_⟩
   have him:i<m:=by(first|lia|omega)
   obtain⟨l1,l2,l3⟩:=hS.lead i him
   have wF:=hF.row him
   refine iO he fun ok2 hok2=>⟨cj (by rw[List.length_map];(first|lia|omega)),?_⟩
   refine uy hok2 (F.getD i []) [] ?_
   obtain⟨t,et⟩:=pV (F.getD i []) (ld i) l3 (Int.ne_of_gt l2)
   rw[List.nil_append,et]
   have hmem:F.getD i []∈F:=by rw[Mx.bc hi];exact List.getElem_mem _
   have sm:=hsm _ hmem _ (getD_mem (show ld i<(F.getD i []).length by(first|lia|omega)))
   exact a_ rfl nC (dc (fv (by(first|lia|omega)) (by(first|lia|omega))) (next _ ⟨_,rfl⟩))
noncomputable def dY:cO:=fun ds st K=>∃d:D,ds=[d,d]∧(d= .aC∨∃i,d= .int i)∧K (.bl true) st
noncomputable def kQ:List Str:=["_law_found","_law_due_here"]
noncomputable def yo:DS:=(aG (fG (bQ (ax vL (ab 1) (dC .aC))) (cv (ax vL (ab 0) (dC .aC))) eM)
 (cv (uf (b_ r8 (ae (ab 0) (ae (dC (.ty "int")) aj))) (uf (yj (bQ (b_ r8 (ae (ab 0) (ae (dC (.ty "bool")) aj))))) (ax jN (ab 0) (ab 1))))))
theorem wx:∀ds st K,dY ds st K→ds.length=2∧yo {nx:=fun _ st'=>K .aC st',rt:=K} (bw kQ ds) st:=by
 rintro ds st K ⟨d,rfl,hd,k⟩
 refine⟨rfl,?_⟩
 rcases hd with rfl|⟨i,rfl⟩
 · exact oW rfl (eV (oW rfl k))
 · exact oW rfl (Ab rfl (by decide) (eV (Ab rfl (by decide) (eV (eqT rfl k)))))
structure Wk(st:ag)(n:Nat)(b:Int):Prop where
 hd:Bx st n b
 tb:∃f,st[0]?=some (gf f)
theorem Wk.ne{st:ag}{n:Nat}{b:Int}(W:Wk st n b):0≠n:=by
 obtain⟨_,_,_,e,_⟩:=W.hd.ex
 obtain⟨f,h⟩:=W.tb
 exact Ne.symm (mN e h)
theorem Wk.xu{st st':ag}{n:Nat}{b b':Int}(W:Wk st n b)(H:Bx st' n b')(X:XU st n st'):Wk st' n b':=by
 obtain⟨f,h⟩:=W.tb
 exact⟨H,f,X.at h W.ne⟩
theorem Wk.bk{st st':ag}{n:Nat}{b:Int}(W:Wk st n b)(B:Bk st st'):Wk st' n b:=⟨W.hd.cell (B.fr n W.hd.lt (Ne.symm W.ne)),B.tb⟩
noncomputable def fD:cO:=fun ds st K=>∃(n:Nat) (b:Int),ds=[.ref n]∧Wk st n b∧b≤700000∧∀st',Wk st' n (b+100)→K (.bl true) st'
noncomputable def gR:List Str:=["_law_source_here","_law_wide","_law_numbers","_law_form_here","_law_row_here","_law_due_here","_law_number_here","_law_one","_law_own"]
noncomputable def qB:DS:=(aG (bf 1 (ax gg (dC (.int 2)) (aP aW (ae (ab 0) (ae (dC (.int 3)) aj)))))
 (aG (fG (bQ (ax jN (aP aW (ae (ab 0) (ae (dC (.int 8)) aj))) (dC (.int 5)))) (bf 1 (ax gg (dC (.int 6)) (aP aW (ae (ab 0) (ae (dC (.int 3)) aj))))) eM)
 (aG (bf 2 (du (dD (ae (ab 1) aj)) [none,some 0] (bE 0) cG (ax gg (dC (.int 1)) (aP aW (ae (ab 1) (ae (dC (.int 999)) aj))))))
 (aG (bf 3 (du (dD (ae (ab 1) aj)) [none,some 1,some 2] (bE 0) cG (b_ eQ (ae (du (dD (ae (ab 1) aj)) [none,some 2,some 0] (bE 0) cG (ax cX (ax bV (ab 1) (ab 2)) (b_ qy (ae (ax jN (ab 2) (ab 0)) aj)))) aj))))
 (aG (bf 4 (aP ij (ae (ab 0) (ae (ab 1) aj))))
 (aG (bf 5 (dC (.int 1)))
 (aG (hW (oU (ae (ab 2) (ae (ab 4) aj))) (iE 6 7) (aG (bf 8 (ax iI (ab 6) (aP eW (ae (ab 6) (ae (ab 7) aj)))))
 (bf 5 (ax cX (ax iI (ab 5) (aP eW (ae (ab 5) (ae (ab 8) aj)))) (ab 8)))))
 (cv (aP dY (ae (aP cZ (ae (aP fx (ae (ab 0) (ae (ab 3) aj))) (ae (ab 4) aj))) (ae (ab 5) aj)))))))))))
noncomputable def jL(ns:List Int)(w:Nat):List (List Int):=(List.range w).map fun i=>(List.range w).map fun j=>if i=j then ns.getD i 0 else 0
theorem kI{ns:List Int}{w i j:Nat}(hi:i<w)(hj:j<w):Mx.g (jL ns w) i j=if i=j then ns.getD i 0 else 0:=by
 have e:(jL ns w).getD i []=(List.range w).map fun j=>if i=j then ns.getD i 0 else 0:=by
  unfold jL
  rw[Mx.bc (by simpa using hi),List.getElem_map,List.getElem_range]
 unfold Mx.g
 rw[e,Mx.bc (by simpa using hj),List.getElem_map,List.getElem_range]
theorem yu{ns:List Int}{w:Nat}:Mx.cE w w (jL ns w):=⟨by simp[jL],fun r hr=>by
 unfold jL at hr
 obtain⟨i,_,rfl⟩:=List.mem_map.mp hr
 simp⟩
theorem By{ns:List Int}{w:Nat}(h:∀i,i<w→1≤ns.getD i 0):Mx.ck (jL ns w) w w fun i=>i:=
 ⟨fun i hi=>⟨hi,by rw[kI hi hi,if_pos rfl];have:=h i hi;(first|lia|omega),fun c hc=>by rw[kI hi (Nat.lt_trans hc hi),if_neg (Nat.ne_of_gt hc)]⟩,fun i j hij _=>hij⟩
theorem Hy{ns:List Int}{w:Nat}(h:∀i,i<w→1≤ns.getD i 0):Mx.oF (jL ns w) w fun i=>i:=fun i j hij hj=>by
 rw[kI (Nat.lt_trans hij hj) hj,kI hj hj,if_neg (Nat.ne_of_lt hij),if_pos rfl]
 have:=h j hj
 exact⟨Int.le_refl _,by(first|lia|omega)⟩
theorem BZ{ns:List Int}{w:Nat}(h:∀x∈ns,1≤x∧x≤999)(hl:ns.length=w):∀r∈jL ns w,∀x∈r,0≤x∧x≤999:=fun r hr x hx=>by
 unfold jL at hr
 obtain⟨i,hi,rfl⟩:=List.mem_map.mp hr
 obtain⟨j,_,rfl⟩:=List.mem_map.mp hx
 rw[List.mem_range]at hi
 have:=h _ (getD_mem (show i<ns.length by(first|lia|omega)))
 split
 · (first|lia|omega)
 · exact⟨Int.le_refl _,by decide⟩
theorem Gy{ns:List Int}{w:Nat}{v:Nat→Int}:Mx.bq (jL ns w) w w v↔∀k,k<w→ns.getD k 0∣v k:=by
 constructor
 · rintro⟨z,hz⟩ k hk
   refine⟨z k,?_⟩
   rw[hz k hk,Mx.kU hk fun i hi ne=>by rw[kI hi hk,if_neg ne,Int.mul_zero],kI hk hk,if_pos rfl,Int.mul_comm]
 · intro h
   have h':∀k,∃y:Int,k<w→v k=ns.getD k 0*y:=fun k=>by
    by_cases hk:k<w
    · obtain⟨y,hy⟩:=h k hk
      exact⟨y,fun _=>hy⟩
    · exact⟨0,fun z=>absurd z hk⟩
   refine⟨fun k=>Classical.choose (h' k),fun c hc=>?_⟩
   rw[Mx.kU hc fun i hi ne=>by rw[kI hi hc,if_neg ne,Int.mul_zero],kI hc hc,if_pos rfl,Int.mul_comm]
   exact Classical.choose_spec (h' c) hc
theorem pK:∀ds st K,fD ds st K→ds.length=1∧qB {nx:=fun _ st'=>K .aC st',rt:=K} (bw gR ds) st:=by
 rintro ds st K ⟨n,b,rfl,W,hb,k⟩
 refine⟨rfl,?_⟩
 refine⟨n,3,b,rfl,W.hd,by(first|lia|omega),by decide,by decide,fun r0 st0 a0 a1 B0 U0=>eU ?_⟩
 dsimp only
 refine jU (fun σ' st'=>∃w:Nat,1≤w∧w≤8∧σ'=[some (.ref n),some (.int (w:Int)),none,none,none,none,none,none,none]∧Bx st' n (b+3)∧Upd st n st') (fun nx hnx=>?_) ?_
 · refine⟨n,8,_,rfl,B0,by(first|lia|omega),by decide,by decide,fun r1 st1 c0 c1 B1 U1=>?_⟩
   refine eq2 (fun _=>eV ?_) fun _=>?_
   · refine⟨n,3,_,rfl,B1,by(first|lia|omega),by decide,by decide,fun r2 st2 d0 d1 B2 U2=>eU ?_⟩
     obtain⟨w,ew⟩:=Int.eq_ofNat_of_zero_le (show 0≤6+r2 by(first|lia|omega))
     exact hnx _ _ ⟨w,by(first|lia|omega),by(first|lia|omega),by rw[ew];rfl,B2.mono (by(first|lia|omega)),(U0.trans U1).trans U2⟩
   · obtain⟨w,ew⟩:=Int.eq_ofNat_of_zero_le (show 0≤2+r0 by(first|lia|omega))
     exact hnx _ _ ⟨w,by(first|lia|omega),by(first|lia|omega),by rw[ew];rfl,B1.mono (by(first|lia|omega)),U0.trans U1⟩
 rintro σ' st1 ⟨w,w1,w8,rfl,B1,U1⟩
 refine eC ⟨by(first|lia|omega),by(first|lia|omega)⟩ ⟨cj (by rw[d3];(first|lia|omega)),?_⟩
 rw[Int.toNat_natCast]
 refine gQ (fun rest acc st'=>∃ns:List Int,acc=ay ns∧ns.length+rest.length=w∧(∀x∈ns,1≤x∧x≤999)∧Bx st' n (b+3+ns.length)∧Upd st n st') ?_ ?_ _ _ _ ⟨[],rfl,by rw[d3];simp,by simp,B1.mono (by simp),U1⟩
 rotate_left
 · rintro x rest acc st' ⟨ns,rfl,hl,hx,B',U⟩ next
   have hl2:ns.length<w:=by simp at hl;(first|lia|omega)
   refine⟨trivial,_,rfl,?_⟩
   refine⟨n,999,_,rfl,B',by(first|lia|omega),by decide,by decide,fun y st2 y0 y1 B2 U2=>eU ?_⟩
   show dz _ _ _ _ _ _ _ _ _
   rw[ints_app]
   refine next _ _ ⟨ns++[1+y],rfl,by simp at hl⊢;(first|lia|omega),fun z hz=>?_,B2.mono (by simp;(first|lia|omega)),U.trans U2⟩
   rcases List.mem_append.mp hz with h|h
   · exact hx z h
   · have:z=1+y:=by simpa using h
     subst this;(first|lia|omega)
 rintro acc st2 ⟨ns,rfl,hl,hns,B2,U2⟩
 have hl:ns.length=w:=by simpa using hl
 refine⟨trivial,?_⟩
 have n1:∀i,i<w→1≤ns.getD i 0∧ns.getD i 0≤999:=fun i hi=>hns _ (getD_mem (by(first|lia|omega)))
 refine eC ⟨by(first|lia|omega),by(first|lia|omega)⟩ ⟨cj (by rw[d3];(first|lia|omega)),?_⟩
 rw[Int.toNat_natCast]
 refine jw (fun i=>bU ((List.range w).map fun j=>if i=j then ns.getD i 0 else 0)) w (fun i hi K' q=>⟨_,rfl,?_⟩) ?_
 · refine eC ⟨by(first|lia|omega),by(first|lia|omega)⟩ ⟨cj (by rw[d3];(first|lia|omega)),?_⟩
   rw[Int.toNat_natCast]
   refine jw (fun j=>D.int (if i=j then ns.getD i 0 else 0)) w (fun j hj K2 q2=>⟨_,rfl,?_⟩) ?_
   · have hns':=n1 i hi
     refine a_ rfl (fR (by(first|lia|omega))) (eq2 (fun h=>sq (dc (fv (by decide) (by decide)) ?_)) fun h=>sq (dc (fv (by decide) (by decide)) ?_))
     · rw[if_pos rfl,Int.mul_one]
       rw[if_pos (by(first|lia|omega))]at q2;exact q2
     · rw[if_neg Bool.false_ne_true,Int.mul_zero]
       rw[if_neg (by(first|lia|omega))]at q2;exact q2
   · refine eE rfl ?_
     have er:((List.range w).map fun j=>D.int (if i=j then ns.getD i 0 else 0))=ay ((List.range w).map fun j=>if i=j then ns.getD i 0 else 0):=by unfold ay;rw[List.map_map];rfl
     rw[er];exact q
 have eF:((List.range w).map fun i=>bU ((List.range w).map fun j=>if i=j then ns.getD i 0 else 0))=(jL ns w).map bU:=by unfold jL;rw[List.map_map];rfl
 rw[eF]
 refine⟨n,_,w,rfl,B2,by(first|lia|omega),w8,fun r st3 lr B3 U3=>?_⟩
 refine mR rfl rfl fun ok aI=>?_
 refine i_ (fun rest σ st'=>st'=st3∧∃(t h7:Nat) (v6 v7 v8:Option D),t≤w∧rest=gF (ay (ns.drop t)) (ay (r.drop t))∧σ=[some (.ref n),some (.int (w:Int)),some (.lst (ay ns)),some (.lst ((jL ns w).map bU)),some (bU r),some (.int (h7:Int)),v6,v7,v8]∧0<h7∧∀x:Int,(h7:Int)∣x↔∀k,k<t→ns.getD k 0∣x*r.getD k 0) ?_ ?_ _ _ _ ⟨rfl,0,1,none,none,none,Nat.zero_le _,rfl,rfl,by decide,fun x=>⟨fun _ k hk=>absurd hk (Nat.not_lt_zero _),fun _=>Int.one_dvd x⟩⟩
 · rintro σ st' ⟨rfl,t,h7,v6,v7,v8,ht,hrest,rfl,d0,hdue⟩
   have et:t=w:=by
    have:=congrArg List.length hrest
    rw[iw,List.length_map,List.length_map,List.length_drop,List.length_drop,List.length_nil]at this
    (first|lia|omega)
   subst et
   refine⟨aI _ rfl rfl,?_⟩
   have hsm:=BZ hns hl
   refine⟨n,_,_,jL ns t,t,t,999,rfl,B3,by(first|lia|omega),⟨_,rfl,bN.tup⟩,yu,w1,w8,w8,fun r hr x hx=>by have:=hsm r hr x hx;(first|lia|omega),fun T st4 M B4 X4=>?_⟩
   have W4:=W.xu B4 ((XU.upd (U2.trans U3)).trans X4)
   obtain⟨f4,t4⟩:=W4.tb
   have fr:xw T t t (jL ns t) t fun i=>i:=⟨M.is,yu,By fun i hi=>(n1 i hi).1,Hy fun i hi=>(n1 i hi).1,M.same.symm,Mx.rh M.is fun r hr x hx=>Nat.le_trans (M.bd r hr x hx) (by decide),M.lo,M.hi,w8⟩
   refine⟨gO T,bU r,T,jL ns t,r,t,t,t,(fun i=>i),f4,rfl,pe,fr,rfl,lr,fun i q hi=>?_,t4,fun st5 d5 B5 ord=>?_⟩
   · by_cases hq:q<t
     · rw[kI hi hq]
       have:=n1 i hi
       split
       · (first|lia|omega)
       · decide
     · unfold Mx.g
       rw[Mx.jP (by rw[yu.row hi];(first|lia|omega))]
       decide
   have e5:d5= .int (h7:Int):=by
    have key:∀x:Int,Mx.bq (jL ns t) t t (fun c=>x*r.getD c 0)↔(h7:Int)∣x:=fun x=>Gy.trans (hdue x).symm
    cases ord with
    |int o h0 hP h=>
     have h1:o∣(h7:Int):=(h _).mp ((key _).mpr (Int.dvd_refl _))
     have h2:(h7:Int)∣o:=(key _).mp ((h _).mpr (Int.dvd_refl _))
     rw[Int.dvd_antisymm (Int.le_of_lt h0) (by(first|lia|omega)) h1 h2]
    |aC h=>exact absurd ((key _).mpr (Int.dvd_refl _)) (h _ (by(first|lia|omega)))
   subst e5
   have W5:=W4.bk B5
   exact⟨_,rfl,.inr ⟨_,rfl⟩,k _ ⟨W5.hd.mono (by(first|lia|omega)),W5.tb⟩⟩
 · rintro x rest σ st' ⟨rfl,t,h7,v6,v7,v8,ht,hrest,rfl,d0,hdue⟩ next
   have htw:t<w:=by
    have:=congrArg List.length hrest
    rw[iw,List.length_map,List.length_map,List.length_drop,List.length_drop,List.length_cons]at this
    (first|lia|omega)
   have en:ns.drop t=ns.getD t 0::ns.drop (t+1):=by rw[Mx.bc (by(first|lia|omega))];exact List.drop_eq_getElem_cons (by(first|lia|omega))
   have er:r.drop t=r.getD t 0::r.drop (t+1):=by rw[Mx.bc (by(first|lia|omega))];exact List.drop_eq_getElem_cons (by(first|lia|omega))
   rw[en,er]at hrest
   obtain⟨rfl,rfl⟩:=List.cons.inj (show x::rest=D.tup [.int (ns.getD t 0),.int (r.getD t 0)]::gF (ay (ns.drop (t+1))) (ay (r.drop (t+1)))from hrest)
   have hnt:=n1 t htw
   generalize ens:ns.getD t 0=nt at hnt
   generalize ert:r.getD t 0=rt
   obtain⟨q,rfl⟩:=Int.eq_ofNat_of_zero_le (show 0≤nt by(first|lia|omega))
   refine⟨aI _ rfl rfl,_,rfl,_,_,rfl,?_⟩
   have q0:0<q:=by(first|lia|omega)
   have g0:0<Nat.gcd q rt.natAbs:=Nat.gcd_pos_of_pos_left _ q0
   have gl:Nat.gcd q rt.natAbs≤q:=Nat.le_of_dvd q0 (Nat.gcd_dvd_left _ _)
   have lk:=Mx.oN q0 rt
   rw[Int.natAbs_natCast]
   have ef:∀a c:Nat,(a:Int).fdiv (c:Int)=((a/c:Nat):Int):=fun a c=>by rw[Int.fdiv_eq_ediv_of_nonneg _ (Int.natCast_nonneg _)];rfl
   refine iK (by(first|lia|omega)) (gK (by(first|lia|omega)) (by(first|lia|omega))) ?_
   rw[ef]
   have o0:0<q/Nat.gcd q rt.natAbs:=Nat.div_pos gl g0
   have ol:q/Nat.gcd q rt.natAbs≤q:=Nat.div_le_self _ _
   generalize q/Nat.gcd q rt.natAbs=own at lk o0 ol
   refine⟨_,_,rfl,?_⟩
   rw[Int.natAbs_natCast,Int.natAbs_natCast]
   have k0:0<Nat.gcd h7 own:=Nat.gcd_pos_of_pos_left _ d0
   have kl:Nat.gcd h7 own≤own:=Nat.le_of_dvd o0 (Nat.gcd_dvd_right _ _)
   have kd:Nat.gcd h7 own≤h7:=Nat.le_of_dvd d0 (Nat.gcd_dvd_left _ _)
   refine iK (by(first|lia|omega)) (gK (by(first|lia|omega)) (by(first|lia|omega))) ?_
   rw[ef]
   refine dc (fv (by(first|lia|omega)) (by(first|lia|omega))) ?_
   rw[show((h7/Nat.gcd h7 own:Nat):Int)*(own:Int)=((h7/Nat.gcd h7 own*own:Nat):Int)from rfl]
   refine next _ _ ⟨rfl,t+1,_,_,_,_,htw,rfl,rfl,Nat.mul_pos (Nat.div_pos kd k0) o0,fun x=>?_⟩
   rw[Mx.DF,hdue x,←lk x]
   constructor
   · rintro⟨h1,h2⟩ k hk
     by_cases h:k<t
     · exact h1 k h
     · have:k=t:=by(first|lia|omega)
       subst this
       rw[ens,ert];exact h2
   · intro h
     exact⟨fun k hk=>h k (by(first|lia|omega)),by have:=h t (Nat.lt_succ_self t);rw[ens,ert]at this;exact this⟩
theorem Bk.trans{st st1 st2:ag}(a:Bk st st1)(b:Bk st1 st2):Bk st st2:=⟨Nat.le_trans a.le b.le,fun m h g=>(b.fr m (Nat.lt_of_lt_of_le h a.le) g).trans (a.fr m h g),b.tb⟩
noncomputable def eB:cO:=fun ds st K=>∃(r:List Int) (w:Nat) (f:Bool),ds=[bU r]∧r.length=w∧w≤8∧st[0]?=some (gf f)∧∀st',Bk st st'→K (.bl true) st'
noncomputable def fI:List Str:=["_law_row_here","_law_wide","_law_due_here"]
noncomputable def n_:DS:=(aG (bf 1 (b_ fQ (ae (ab 0) aj)))
 (aG (bf 2 (xt (bQ (b_ nc (ae (ab 0) aj))) (dC .aC) (dC (.int 1))))
 (aG (fG (lZ (bQ (aP dY (ae (aP cZ (ae (i6 (ae (ax cX (i6 (ae (dC (.int 0)) aj)) (ab 1)) aj)) (ae (ab 0) aj))) (ae (ab 2) aj))))) (cv (dC (.bl false))) eM)
 (cv (aP dY (ae (aP cZ (ae (i6 (ae (ax cX (i6 (ae (dC (.int 0)) aj)) (ab 1)) aj)) (ae (ax cX (i6 (ae (dC (.int 0)) aj)) (ab 1)) aj))) (ae (dC (.int 1)) aj)))))))
theorem qR{w:Nat}(w8:w≤8):xw [List.replicate w 0] 1 w [] 0 fun _=>0:=by
 have z:∀k q,k<1→Mx.g [List.replicate w 0] k q=0:=fun k q hk=>by
  have:k=0:=by(first|lia|omega)
  subst this
  exact Mx.dQ _ _
 refine⟨⟨rfl,fun r hr=>?_⟩,⟨rfl,fun r hr=>by cases hr⟩,⟨fun i hi=>absurd hi (Nat.not_lt_zero _),fun i j _ hj=>absurd hj (Nat.not_lt_zero _)⟩,fun i j _ hj=>absurd hj (Nat.not_lt_zero _),⟨fun k hk=>Mx.bq.zero fun q _=>z k q hk,fun k hk=>absurd hk (Nat.not_lt_zero _)⟩,fun i q _ hi=>by rw[z i q hi];exact Nat.zero_le _,Nat.le_refl _,by decide,w8⟩
 have:r=List.replicate w 0:=by simpa using hr
 rw[this,List.length_replicate]
theorem qF{w:Nat}{r:List Int}{P:Int}{d:D}(lr:r.length=w)(o:r9 [] 0 w (fun c=>r.getD c 0) P d):d=if(r.any fun n=>decide (n≠0))=true then .aC else .int 1:=by
 cases e:(r.any fun n=>decide (n≠0))with
 |false=>
  have hz:=(mZ lr).mp e
  have l1:Mx.bq ([]:List (List Int)) 0 w fun c=>1*r.getD c 0:=Mx.bq.zero fun c hc=>by rw[hz c hc];rfl
  cases o with
  |int q h0 hP h=>
   have:=(h 1).mp l1
   rw[Int.eq_one_of_dvd_one (Int.le_of_lt h0) this];rfl
  |aC h=>exact absurd l1 (h 1 (by decide))
 |true=>
  cases o with
  |int q h0 hP h=>
   obtain⟨z,hz⟩:=(h q).mpr (Int.dvd_refl q)
   have:(r.any fun n=>decide (n≠0))=false:=(mZ lr).mpr fun c hc=>by
    have e1:q*r.getD c 0=0:=hz c hc
    rcases Int.mul_eq_zero.mp e1 with h'|h'
    · (first|lia|omega)
    · exact h'
   rw[this]at e;cases e
  |aC h=>rfl
theorem nB:∀ds st K,eB ds st K→ds.length=1∧n_ {nx:=fun _ st'=>K .aC st',rt:=K} (bw fI ds) st:=by
 rintro ds st K ⟨r,w,f,rfl,lr,w8,t,k⟩
 refine⟨rfl,?_⟩
 have lr':(ay r).length=w:=by rw[List.length_map,lr]
 refine eA rfl ?_
 rw[lr']
 have vac:∀i q,i<0→(Mx.g ([]:List (List Int)) i q).natAbs<2^62:=fun i q hi=>absurd hi (Nat.not_lt_zero _)
 have hm: -(2^63)≤(w:Int)∧(w:Int)<2^63∧ [D.int 0].length*(w:Int).toNat≤sizeLine:=⟨by(first|lia|omega),by(first|lia|omega),cj (by simp;(first|lia|omega))⟩
 have h7:∀K':DK,K' (if(r.any fun n=>decide (n≠0))=true then .aC else .int 1) st→xt (bQ (b_ nc (ae (ab 0) aj))) (dC .aC) (dC (.int 1)) [some (bU r),some (.int (w:Int)),none] st K':=fun K' q=>by
  refine wX (nK r) ?_
  cases e:(r.any fun n=>decide (n≠0))with
  |false=>rw[e]at q;exact q
  |true=>rw[e]at q;exact q
 refine h7 _ ?_
 refine⟨Nat.le_of_ble_eq_true rfl,sD hm ?_⟩
 rw[Int.toNat_natCast,ni]
 refine⟨Nat.le_of_ble_eq_true rfl,?_⟩
 refine⟨gO [List.replicate w 0],bU r,[List.replicate w 0],[],r,1,w,0,(fun _=>0),f,rfl,pe,qR w8,rfl,lr,vac,t,fun st1 d1 B1 o1=>?_⟩
 rw[qF lr o1]
 refine⟨_,rfl,?_,?_⟩
 · cases (r.any fun n=>decide (n≠0))with
   |false=>exact .inr ⟨1,rfl⟩
   |true=>exact .inl rfl
 refine⟨Nat.le_of_ble_eq_true rfl,sD hm ?_⟩
 rw[Int.toNat_natCast,ni]
 refine⟨Nat.le_of_ble_eq_true rfl,⟨Nat.le_of_ble_eq_true rfl,sD hm ?_⟩⟩
 rw[Int.toNat_natCast,ni]
 obtain⟨f1,t1⟩:=B1.tb
 have lz:(List.replicate w (0:Int)).length=w:=List.length_replicate
 refine⟨gO [List.replicate w 0],bU (List.replicate w 0),[List.replicate w 0],[],List.replicate w 0,1,w,0,(fun _=>0),f1,rfl,pe,qR w8,rfl,lz,vac,t1,fun st2 d2 B2 o2=>?_⟩
 have e2:d2= .int 1:=by
  rw[qF lz o2,(mZ lz).mpr fun c _=>Mx.dQ _ _];rfl
 subst e2
 exact⟨_,rfl,.inr ⟨1,rfl⟩,k _ (B1.trans B2)⟩
noncomputable abbrev yV:cO:=zc Gk
noncomputable def uu:List Str:=["_law_script","_law_k","_law_source_here","_law_form_here","_law_rows","_law_row_here","_law_handed","_law_one","_law_other"]
noncomputable def Ja:DS:=(aG (hW (dD (ae (dC (.int 3)) aj)) (bE 1) (aG (bf 2 (aP iu (ae (ab 0) (ae (ab 1) aj))))
 (aG (AS (iE 3 4) (aP gv (ae (ab 2) (ae (dC (.int 216)) aj))))
 (aG (bf 5 (aP ij (ae (ab 2) (ae (b_ fQ (ae (ax bV (ab 3) (dC (.int 0))) aj)) aj))))
 (aG (fG (bQ (ax jN (aP aW (ae (ab 2) (ae (dC (.int 4)) aj))) (dC (.int 1)))) (bf 5 (b_ eQ (ae (du (oU (ae (ax bV (ab 3) (dC (.int 0))) (ae (ax bV (ab 3) (mT i5 (dC (.int 1)))) aj))) [none,none] (iE 0 1) cG (ax nJ (ax cX (dC (.int 2)) (ab 0)) (ab 1))) aj))) eM)
 (aG (bf 6 (i6 (ae (du (e7 (ab 4)) [none] (bE 0) cG (b_ ia (ae (ab 0) aj))) (ae (b_ ia (ae (ab 5) aj)) aj))))
 (aG (fG (lZ (bQ (aP dY (ae (aP cZ (ae (ax bV (ab 6) (dC (.int 0))) (ae (ax bV (ab 6) (dC (.int 1))) aj))) (ae (aP j_ (ae (ab 3) (ae (ab 5) aj))) aj))))) (cv (dC (.bl false))) eM)
 (aG (fG (bQ (ax sh (ab 6) (i6 (ae (du (e7 (ab 4)) [none] (bE 0) cG (b_ ia (ae (ab 0) aj))) (ae (b_ ia (ae (ab 5) aj)) aj))))) (cv (dC (.bl false))) eM)
 (aG (va 7 8 (ae (aP eR (ae (ab 2) aj)) (ae (aP eR (ae (ab 2) aj)) aj)))
 (aG (bf 7 (b_ sv (ae (dC (.int 1)) (ae (b_ mw (ae (ab 7) aj)) aj))))
 (aG (fG (lZ (bQ (aP dY (ae (aP cZ (ae (i6 (ae (i6 (ae (ab 7) aj)) aj)) (ae (i6 (ae (ab 8) aj)) aj))) (ae (ax iI (ab 7) (aP eW (ae (ab 7) (ae (ab 8) aj)))) aj))))) (cv (dC (.bl false))) eM)
 (fG (yW (lZ (bQ (aP fD (ae (ab 2) aj)))) (lZ (bQ (aP eB (ae (ab 5) aj))))) (cv (dC (.bl false))) eM))))))))))))
 (cv (dC (.bl true))))
theorem xC:∀(r s:List Int),(gF (ay r) (ay s)).map (fun d=>match d with| .tup [.int a,.int b]=> .int (2*a-b)|_=> .aC)=ay (List.zipWith (fun a b=>2*a-b) r s)
 | [],_=>rfl
 |_::_,[]=>rfl
 |a::r,b::s=>by
  have:=xC r s
  unfold gF at this⊢
  simp only[ay,List.map_cons,List.zip_cons_cons,List.zipWith_cons_cons]at this⊢
  rw[this]
theorem DZ{F:List (List Int)}{m:Nat}(h:F.length=m+1):dJ (F.map bU) (-1)=some (bU (F.getD m [])):=by
 have hm:m<F.length:=by(first|lia|omega)
 have e:jK (F.map bU).length (-1)=some m:=by
  unfold jK
  rw[if_neg (by decide),List.length_map,h,if_pos (by(first|lia|omega))]
  congr 1;(first|lia|omega)
 unfold dJ
 rw[e]
 show(F.map bU)[m]?=_
 rw[List.getElem?_map,List.getElem?_eq_getElem hm,Mx.bc hm];rfl
theorem Bz{A:List (List Int)}{k:Nat}(h:k<A.length):dJ (A.map bU) (k:Int)=some (bU (A.getD k [])):=by
 refine g7 ?_
 rw[List.getElem?_map,List.getElem?_eq_getElem h,Mx.bc h];rfl
theorem An{A:List (List Int)}{r:List Int}:pl 40 (.tup [.lst (A.map ba),.lst (ay r)])=true:=by
 unfold pl
 refine List.all_eq_true.mpr fun d hd=>?_
 rcases List.mem_cons.mp hd with rfl|hd
 · exact Bt
 · have:d= .lst (ay r):=by simpa using hd
   subst this
   unfold pl
   exact w6
theorem Ey{o:Int}{v:Nat→Int}:Mx.bq [[o]] 1 1 v↔o∣v 0:=by
 constructor
 · rintro⟨z,hz⟩
   refine⟨z 0,?_⟩
   rw[hz 0 (by decide)]
   show 0+z 0*o=o*z 0
   rw[Int.zero_add,Int.mul_comm]
 · rintro⟨y,hy⟩
   refine⟨fun _=>y,fun c hc=>?_⟩
   have:c=0:=by(first|lia|omega)
   subst this
   show _=0+y*o
   rw[hy,Int.zero_add,Int.mul_comm]
theorem Ec{o:Nat}(h0:1≤o)(h:o≤1000000000000):xw [[(o:Int)]] 1 1 [[(o:Int)]] 1 fun _=>0:=by
 have is:Mx.cE 1 1 [[(o:Int)]]:=⟨rfl,fun r hr=>by
  have:r=[(o:Int)]:=by simpa using hr
  rw[this];rfl⟩
 have g0:Mx.g [[(o:Int)]] 0 0=o:=rfl
 refine⟨is,is,⟨fun i hi=>?_,fun i j hij hj=>by(first|lia|omega)⟩,fun i j hij hj=>by(first|lia|omega),Mx.d4.refl _ _ _,Mx.rh is fun r hr x hx=>?_,by decide,by decide,by decide⟩
 · have:i=0:=by(first|lia|omega)
   subst this
   exact⟨by decide,by rw[g0];(first|lia|omega),fun c hc=>absurd hc (Nat.not_lt_zero _)⟩
 · have:r=[(o:Int)]:=by simpa using hr
   subst this
   have:x=(o:Int):=by simpa using hx
   subst this
   rw[Int.natAbs_natCast]
   exact Nat.le_trans h (by decide)
theorem AK{o:Nat}(h:o≤1000000000000)(i q:Nat)(hi:i<1):(Mx.g [[(o:Int)]] i q).natAbs<2^62:=by
 have:i=0:=by(first|lia|omega)
 subst this
 cases q with
 |zero=>
  show((o:Int)).natAbs<2^62
  rw[Int.natAbs_natCast];(first|lia|omega)
 |succ q=>exact(by decide:(0:Int).natAbs<2^62)
theorem Dq{F:List (List Int)}{m w:Nat}(hF:Mx.cE m w F)(h:∀r∈F,∀x∈r,0≤x∧x≤1000)(i q:Nat)(hi:i<m):(Mx.g F i q).natAbs<2^62:=by
 have:=Mx.rh (M:=1000) hF (fun r hr x hx=>by have:=h r hr x hx;(first|lia|omega)) i q (Nat.zero_le _) hi
 (first|lia|omega)
theorem Fz:∀ds st K,yV ds st K→ds.length=1∧Ja {nx:=fun _ st'=>K .aC st',rt:=K} (bw uu ds) st:=by
 rintro ds st K ⟨ns,rfl,hl,hst,k⟩
 refine⟨rfl,?_⟩
 have t0:st[0]?=some (gf false):=by rw[hst];rfl
 clear hst
 refine eC ⟨by decide,by decide⟩ ?_
 refine gL 3 (fun j σ st'=>∃(f:Bool) (v1 v2 v3 v4 v5 v6 v7 v8:Option D),σ=[some (.lst (ns.map .int)),v1,v2,v3,v4,v5,v6,v7,v8]∧st'[0]?=some (gf f)) ?_ ?_ ⟨false,none,none,none,none,none,none,none,none,rfl,t0⟩
 · rintro σ st' _
   exact k _
 rintro j σ st0 rest hj ⟨f0,v1,v2,v3,v4,v5,v6,v7,v8,rfl,t0⟩ next
 refine⟨_,rfl,?_⟩
 have h0:0<st0.length:=(List.getElem?_eq_some_iff.mp t0).1
 refine⟨ns,j,rfl,by(first|lia|omega),hl,fun st1 B1 X1=>?_⟩
 have W1:Wk st1 st0.length 4000:=⟨B1,f0,(X1.same 0 h0).trans t0⟩
 have hn0:0<st0.length:=h0
 generalize st0.length=n at W1 hn0
 clear B1 X1 t0 h0
 have l1:n<st1.length:=W1.hd.lt
 refine⟨n,_,rfl,W1.hd,by decide,fun fc F B m w ld st2 hfc eF m1 m8 w8 w1 qb stF rdF smF pl M B2 X2=>⟨_,rfl,?_⟩⟩
 have W2:=W1.xu B2 X2
 have fcn:fc≠n:=by(first|lia|omega)
 have fc0:fc≠0:=by(first|lia|omega)
 clear W1 B2 X2 l1 hfc
 have lF:=qb.len
 have rw0:=qb.row (i:=0) m1
 have E7:dJ (F.map bU) 0=some (bU (F.getD 0 [])):=Bz (k:=0) (by(first|lia|omega))
 refine a_ (aH eF) E7 (eA rfl ?_)
 rw[List.length_map,rw0]
 refine⟨n,_,w,rfl,W2.hd,by decide,w8,fun r0 st3 lr0 B3 U3=>?_⟩
 have W3:=W2.xu B3 (XU.upd U3)
 have eF3:=(U3.same _ fcn).trans eF
 clear W2 B3 U3 eF
 dsimp only
 refine jU (fun σ' st'=>∃r:List Int,r.length=w∧σ'=[some (.lst (ns.map .int)),some (.int (j:Int)),some (.ref n),some (.ref fc),some (gO B),some (bU r),v6,v7,v8]∧st'[fc]?=some (.lst (F.map bU))∧Wk st' n 5000) (fun nx hnx=>?_) ?_
 · refine⟨n,4,_,rfl,W3.hd,by decide,by decide,by decide,fun q st4 a0 a1 B4 U4=>?_⟩
   have W4:=W3.xu B4 (XU.upd U4)
   have eF4:=(U4.same _ fcn).trans eF3
   have W5:Wk st4 n 5000:=⟨W4.hd.mono (by decide),W4.tb⟩
   refine eq2 (fun _=>eV ?_) fun _=>hnx _ _ ⟨r0,lr0,rfl,eF4,W5⟩
   obtain⟨m',em⟩:∃m',m=m'+1:=⟨m-1,by(first|lia|omega)⟩
   have rl:=qb.row (i:=m') (by(first|lia|omega))
   refine a_ (aH eF4) E7 (iV (a_ (aH eF4) (DZ (m:=m') (by(first|lia|omega))) ?_))
   refine mR rfl rfl fun ok aI=>⟨cj (by rw[iw,List.length_map,List.length_map];(first|lia|omega)),?_⟩
   refine comp_map (g:=fun d=>match d with| .tup [.int a,.int b]=> .int (2*a-b)|_=> .aC) (aI _ rfl rfl) _ (fun d hd K' q=>?_) ?_
   · obtain⟨x,y,_,_,rfl⟩:=lu hd
     exact⟨_,rfl,dc (hV (by decide) (by decide)) (oR q)⟩
   rw[xC]
   exact eE rfl (hnx _ _ ⟨_,by rw[List.length_zipWith];(first|lia|omega),rfl,eF4,W5⟩)
 clear W3 eF3 lr0 r0
 rintro σ' st4 ⟨r,lr,rfl,eF,W4⟩
 have vQ:=M.is
 have lB:=vQ.len
 refine mK ⟨cj (by rw[List.length_map];(first|lia|omega)),?_⟩
 refine fS ba trivial bN.tup (fun d r hr he K' q=>⟨_,rfl,g_ he q⟩) (g_ rfl ⟨Nat.le_of_ble_eq_true rfl,?_⟩)
 obtain⟨f4,t4⟩:=W4.tb
 have fr:xw B m w F m ld:=⟨vQ,qb,stF,rdF,M.same.symm,Mx.rh vQ fun r hr x hx=>Nat.le_trans (M.bd r hr x hx) (by decide),m1,m8,w8⟩
 refine a_ rfl nC (a_ rfl (by rfl) ⟨.lst (B.map ba),.lst (ay r),B,F,r,m,w,m,ld,f4,rfl,⟨_,rfl,bN.lst⟩,fr,rfl,lr,Dq qb smF,t4,fun st5 d5 B5 ord=>?_⟩)
 have W5:=W4.bk B5
 have eF5:=(B5.fr fc (List.getElem?_eq_some_iff.mp eF).1 fc0).trans eF
 refine⟨.ref fc,bU r,F,r,m,w,ld,rfl,⟨_,aH eF5,bN.tup⟩,qb,stF,w8,smF,pl,rfl,lr,fun d6 h7=>?_⟩
 obtain⟨rfl,hd⟩:=ord.h7 h7
 refine⟨_,rfl,hd,?_⟩
 clear W4 t4 eF eF5 B5 ord h7 hd
 refine mK ⟨cj (by rw[List.length_map];(first|lia|omega)),?_⟩
 refine fS ba trivial bN.tup (fun d r hr he K' q=>⟨_,rfl,g_ he q⟩) (g_ rfl ⟨Nat.le_of_ble_eq_true rfl,BL An ?_⟩)
 refine⟨n,_,rfl,W5.hd,by decide,fun a st6 ha B6 U6=>⟨n,_,rfl,B6,by decide,fun c st7 hc B7 U7=>?_⟩⟩
 have W7:=W5.xu B7 (XU.upd (U6.trans U7))
 clear W5 B6 B7 U6 U7
 refine mI (za ?_)
 obtain⟨o,eo,o1,ol⟩:∃o:Nat,(if((a.natAbs:Nat):Int)>1 then((a.natAbs:Nat):Int)else 1)=(o:Int)∧1≤o∧o≤1000000000000:=by
  by_cases h:((a.natAbs:Nat):Int)>1
  · exact⟨a.natAbs,by rw[if_pos h],by(first|lia|omega),ha⟩
  · exact⟨1,by rw[if_neg h];rfl,by decide,by decide⟩
 rw[eo]
 obtain⟨f7,t7⟩:=W7.tb
 refine⟨Nat.le_of_ble_eq_true rfl,Nat.le_of_ble_eq_true rfl,Nat.le_of_ble_eq_true rfl,?_⟩
 refine⟨gO [[(o:Int)]],bU [c],[[(o:Int)]],[[(o:Int)]],[c],1,1,1,(fun _=>0),f7,rfl,pe,Ec o1 ol,rfl,rfl,AK ol,t7,fun st8 d8 B8 ord=>?_⟩
 have W8:=W7.bk B8
 have g0:0<Nat.gcd o c.natAbs:=Nat.gcd_pos_of_pos_left _ o1
 have gl:Nat.gcd o c.natAbs≤o:=Nat.le_of_dvd o1 (Nat.gcd_dvd_left _ _)
 have lk:=Mx.oN o1 c
 have e8:d8= .int ((o/Nat.gcd o c.natAbs:Nat):Int):=by
  have key:∀x:Int,Mx.bq [[(o:Int)]] 1 1 (fun q=>x* [c].getD q 0)↔((o/Nat.gcd o c.natAbs:Nat):Int)∣x:=fun x=>Ey.trans (lk x)
  cases ord with
  |int q h0 hP h=>
   have h1:=(h _).mp ((key _).mpr (Int.dvd_refl _))
   have h2:=(key _).mp ((h _).mpr (Int.dvd_refl _))
   rw[Int.dvd_antisymm (Int.le_of_lt h0) (Int.natCast_nonneg _) h1 h2]
  |aC h=>
   have:=Nat.div_pos gl g0
   exact absurd ((key _).mpr (Int.dvd_refl _)) (h _ (by intro z;rw[Int.natCast_eq_zero.mp z]at this;exact Nat.lt_irrefl _ this))
 subst e8
 refine⟨_,_,rfl,?_⟩
 rw[Int.natAbs_natCast]
 refine iK (by(first|lia|omega)) (gK (by(first|lia|omega)) (by(first|lia|omega))) ?_
 rw[show(o:Int).fdiv ((Nat.gcd o c.natAbs:Nat):Int)=((o/Nat.gcd o c.natAbs:Nat):Int)from by rw[Int.fdiv_eq_ediv_of_nonneg _ (Int.natCast_nonneg _)];rfl]
 refine⟨_,rfl,.inr ⟨_,rfl⟩,?_⟩
 refine⟨n,_,rfl,W8,by decide,fun st9 W9=>?_⟩
 obtain⟨f9,t9⟩:=W9.tb
 refine⟨r,w,f9,rfl,lr,w8,t9,fun st10 B10=>?_⟩
 obtain⟨f10,t10⟩:=B10.tb
 exact next _ _ ⟨f10,_,_,_,_,_,_,_,_,rfl,t10⟩
end Prog
namespace Row
open PySem L2 L3 Prog
open PySem.Spec hiding items?
open PyProof.Rows hiding St
noncomputable def top(i:Nat):Stmt:=PySem.Challenge.pw_latticeworks_k28_how_often_it_comes_roun.main.body.getD i (.Pass ⟨0,0,0,0⟩)
theorem eD:(("tuple":Str))≠"__name__":=by decide+kernel
theorem gB:(("list":Str))≠"__name__":=by decide+kernel
theorem d_:(("len":Str))≠"__name__":=by decide+kernel
theorem m4:(("abs":Str))≠"__name__":=by decide+kernel
theorem vR:(("int":Str))≠"__name__":=by decide+kernel
theorem ze:(("max":Str))≠"__name__":=by decide+kernel
theorem GU:(("min":Str))≠"__name__":=by decide+kernel
theorem zJ:(("any":Str))≠"__name__":=by decide+kernel
theorem nQ:(("isinstance":Str))≠"__name__":=by decide+kernel
theorem E2:(("bool":Str))≠"__name__":=by decide+kernel
structure Bl(mg:Str→Option Value):Prop where
 fw:mg "tuple"=none
 ph:mg "zip"=none
 dA:mg "range"=none
 wz:mg "enumerate"=none
 iy:mg "list"=none
 fJ:mg "len"=none
 pv:mg "abs"=none
 AR:mg "sorted"=none
 yC:mg "int"=none
 Cu:mg "max"=none
 Jr:mg "min"=none
 CT:mg "any"=none
 oO:mg "isinstance"=none
 GN:mg "bool"=none
structure ClsAt(K:PySem.W.Frag)(mg:Str→Option Value)(x:Str)(C:Addr):Prop where
 cl:lI K C
 mg:mg x=some (.ref C)
 K3:PySem.W.makesIn K C=true
 kp:PySem.W.keepIn K (.ref C)=true
structure MethAt(K:PySem.W.Frag)(C:Addr)(m qual:Str)(st:Stmt)(ps:List Str)(f:Addr)(fd:FuncData):Prop where
 fn:mX K m qual st f fd
 me:Meth K C m f
 bd:Binds K fd ps []
structure Kl(K:PySem.W.Frag)(mg:Str→Option Value):Prop where
 aZ:ClsAt K mg "Bench" aq
 bD:gG K aq "body"
 cR:gG K aq "turn"
 bC:gG K aq "back_columns"
section
variable {P:Program}{w:World}{K:PySem.W.Frag}{mg:Str→Option Value}{base:Heap}
noncomputable abbrev fq:Stmt:=top 1
theorem oy:VS (af fq) ma ["tuple"]:=⟨by decide+kernel⟩
theorem x3:bo ma ["rows"] (af fq):=⟨rfl,rfl,rfl,by decide+kernel,rfl,by decide+kernel,by decide+kernel⟩
theorem x8{f:Addr}{fd:FuncData}(B:Bl mg)(Q:Kl K mg)(F:aB K mg "as_rows" "as_rows" fq ["rows"] f fd):
 aw P w K mg base aJ 1 f fd ["rows"] (aO je):=
 cD (N:=ma) F.fn x3 (fun cdv A outer s H E hr=>(aE (bx (eO ft (aa (d7 (Nc:=["row"]) (br.look (af fq) ["rows"] (by decide+kernel)) (fX (oy.nm 0)) (fun _ _ _ _=>(de (show(["row"]:List Str).Nodup by decide+kernel) (by first|exact Or.inl rfl|exact Or.inr rfl) (by first|exact .inl rfl|exact .inr rfl))) (fun _ _ _ _=>cF) (fun _ _ _ _=>(eO ft (aa cP ai) B.fw rfl eD (by decide+kernel) rfl)) cy) ai) B.fw rfl eD (oy.d 0) (oy.g 0))))) xU
noncomputable abbrev gI:Stmt:=top 2
theorem sr:VS (af gI) pA ["zip"]:=⟨by decide+kernel⟩
theorem BM:bo pA ["row","times","other"] (af gI):=⟨rfl,rfl,rfl,by decide+kernel,rfl,by decide+kernel,by decide+kernel⟩
theorem AV{f:Addr}{fd:FuncData}(B:Bl mg)(Q:Kl K mg)(F:aB K mg "added" "added" gI ["row","times","other"] f fd):
 aw P w K mg base aJ 1 f fd ["row","times","other"] (aO iC):=
 cD (N:=pA) F.fn BM (fun cdv A outer s H E hr=>(aE (bx (d7 (Nc:=["one","two","times"]) (br.look (af gI) ["row","times","other"] (by decide+kernel)) (pq (sr.g 0) B.ph (aa (sr.nm 0) (aa (sr.nm 2) ai))) (fun _ _ _ _=>(mi rfl (show(["one","two","times"]:List Str).Nodup by decide+kernel) (by first|exact Or.inl rfl|exact Or.inr rfl) (by first|exact .inl rfl|exact .inr rfl) (by first|exact Or.inl rfl|exact Or.inr rfl) (by first|exact .inl rfl|exact .inr rfl))) (fun _ _ _ _=>cF) (fun _ _ _ _=>(bp fW cP (bp dy cP cP))) mF)))) Bd
noncomputable abbrev gd:Stmt:=top 3
theorem qm:VS (af gd) nM ["tuple"]:=⟨by decide+kernel⟩
theorem Ao:bo nM ["rows","place"] (af gd):=⟨rfl,rfl,rfl,by decide+kernel,rfl,by decide+kernel,by decide+kernel⟩
theorem Ae{f:Addr}{fd:FuncData}(B:Bl mg)(Q:Kl K mg)(F:aB K mg "column" "column" gd ["rows","place"] f fd):
 aw P w K mg base aJ 1 f fd ["rows","place"] (aO lQ):=
 cD (N:=nM) F.fn Ao (fun cdv A outer s H E hr=>(aE (bx (eO ft (aa (d7 (Nc:=["row","place"]) (br.look (af gd) ["rows","place"] (by decide+kernel)) (fX (qm.nm 0)) (fun _ _ _ _=>(de (show(["row","place"]:List Str).Nodup by decide+kernel) (by first|exact Or.inl rfl|exact Or.inr rfl) (by first|exact .inl rfl|exact .inr rfl))) (fun _ _ _ _=>cF) (fun _ _ _ _=>(bA cP cP)) cy) ai) B.fw rfl eD (qm.d 0) (qm.g 0))))) AI
noncomputable abbrev dg:Stmt:=top 4
theorem iX:VS (af dg) iZ ["range","tuple"]:=⟨by decide+kernel⟩
theorem sM:bo iZ ["rows","wide"] (af dg):=⟨rfl,rfl,rfl,by decide+kernel,rfl,by decide+kernel,by decide+kernel⟩
theorem sG{f:Addr}{fd:FuncData}(B:Bl mg)(Q:Kl K mg)(F:aB K mg "turned_over" "turned_over" dg ["rows","wide"] f fd){a_column:Addr}{d_column:FuncData}(D_column:aB K mg "column" "column" gd ["rows","place"] a_column d_column)(G_column:aw P w K mg base aJ 1 a_column d_column ["rows","place"] (aO lQ)):
 aw P w K mg base aJ 2 f fd ["rows","wide"] (aO g6):=
 cD (N:=iZ) F.fn sM (fun cdv A outer s H E hr=>(aE (bx (eO ft (aa (d7 (Nc:=["place","rows"]) (br.look (af dg) ["rows","wide"] (by decide+kernel)) (dM (iX.g 0) B.dA (aa (iX.nm 1) ai)) (fun _ _ _ _=>(de (show(["place","rows"]:List Str).Nodup by decide+kernel) (by first|exact Or.inl rfl|exact Or.inr rfl) (by first|exact .inl rfl|exact .inr rfl))) (fun _ _ _ _=>cF) (fun _ _ _ _=>(bg D_column G_column (hr.mono (by decide)) (aa cP (aa cP ai)) (by decide+kernel) rfl)) cy) ai) B.fw rfl eD (iX.d 1) (iX.g 1))))) r_
noncomputable abbrev eG:Stmt:=top 5
theorem kK:VS (af eG) kJ ["range","tuple"]:=⟨by decide+kernel⟩
theorem wu:bo kJ ["n","place"] (af eG):=⟨rfl,rfl,rfl,by decide+kernel,rfl,by decide+kernel,by decide+kernel⟩
theorem wL{f:Addr}{fd:FuncData}(B:Bl mg)(Q:Kl K mg)(F:aB K mg "unit_row" "unit_row" eG ["n","place"] f fd):
 aw P w K mg base aJ 1 f fd ["n","place"] (aO jj):=
 cD (N:=kJ) F.fn wu (fun cdv A outer s H E hr=>(aE (bx (eO ft (aa (d7 (Nc:=["k","place"]) (br.look (af eG) ["n","place"] (by decide+kernel)) (dM (kK.g 0) B.dA (aa (kK.nm 0) ai)) (fun _ _ _ _=>(de (show(["k","place"]:List Str).Nodup by decide+kernel) (by first|exact Or.inl rfl|exact Or.inr rfl) (by first|exact .inl rfl|exact .inr rfl))) (fun _ _ _ _=>cF) (fun _ _ _ _=>(xY (cV (mE hr) (cx _) cP cP) av av)) cy) ai) B.fw rfl eD (kK.d 1) (kK.g 1))))) wN
noncomputable abbrev dS:Stmt:=top 6
theorem j7:VS (af dS) j9 ["range","tuple"]:=⟨by decide+kernel⟩
theorem vJ:bo j9 ["n"] (af dS):=⟨rfl,rfl,rfl,by decide+kernel,rfl,by decide+kernel,by decide+kernel⟩
theorem u0{f:Addr}{fd:FuncData}(B:Bl mg)(Q:Kl K mg)(F:aB K mg "unit_rows" "unit_rows" dS ["n"] f fd){a_unit_row:Addr}{d_unit_row:FuncData}(D_unit_row:aB K mg "unit_row" "unit_row" eG ["n","place"] a_unit_row d_unit_row)(G_unit_row:aw P w K mg base aJ 1 a_unit_row d_unit_row ["n","place"] (aO jj)):
 aw P w K mg base aJ 2 f fd ["n"] (aO g8):=
 cD (N:=j9) F.fn vJ (fun cdv A outer s H E hr=>(aE (bx (eO ft (aa (d7 (Nc:=["place","n"]) (br.look (af dS) ["n"] (by decide+kernel)) (dM (j7.g 0) B.dA (aa (j7.nm 0) ai)) (fun _ _ _ _=>(de (show(["place","n"]:List Str).Nodup by decide+kernel) (by first|exact Or.inl rfl|exact Or.inr rfl) (by first|exact .inl rfl|exact .inr rfl))) (fun _ _ _ _=>cF) (fun _ _ _ _=>(bg D_unit_row G_unit_row (hr.mono (by decide)) (aa cP (aa cP ai)) (by decide+kernel) rfl)) cy) ai) B.fw rfl eD (j7.d 1) (j7.g 1))))) u7
noncomputable abbrev fU:Stmt:=top 8
theorem mj:VS (af fU) lY ["enumerate"]:=⟨by decide+kernel⟩
theorem qU:bo lY ["row"] (af fU):=⟨rfl,rfl,rfl,by decide+kernel,rfl,by decide+kernel,by decide+kernel⟩
theorem xS{f:Addr}{fd:FuncData}(B:Bl mg)(Q:Kl K mg)(F:aB K mg "lead_of" "lead_of" fU ["row"] f fd):
 aw P w K mg base aJ 1 f fd ["row"] (aO i7):=
 cD (N:=lY) F.fn qU (fun cdv A outer s H E hr=>(ao (fy (Gn (mj.g 0) B.wz (aa (mj.nm 0) ai)) (mi rfl qU.nd (by first|exact Or.inl rfl|exact Or.inr rfl) (by first|exact .inl rfl|exact .inr rfl) (by first|exact Or.inl rfl|exact Or.inr rfl) (by first|exact .inl rfl|exact .inr rfl)) (aE (eH (cV uA (cx _) (mj.nm 2) av) (aE (bx (mj.nm 1))) dU)))
  (aE (bx m6)))) yF
noncomputable abbrev cz:Stmt:=top 9
theorem iB:VS (af cz) fY []:=⟨by decide+kernel⟩
theorem hZ:bo fY ["top","bottom"] (af cz):=⟨rfl,rfl,rfl,by decide+kernel,rfl,by decide+kernel,by decide+kernel⟩
theorem nW{f:Addr}{fd:FuncData}(B:Bl mg)(Q:Kl K mg)(F:aB K mg "nearest_quotient" "nearest_quotient" cz ["top","bottom"] f fd):
 aw P w K mg base aJ 1 f fd ["top","bottom"] (aO eS):=
 cD (N:=fY) F.fn hZ (fun cdv A outer s H E hr=>(aE (bx (bp (wR hr rfl hZ.gen hZ.co) (bp fW (bp dy av (iB.nm 0)) (iB.nm 1)) (bp dy av (iB.nm 1)))))) oa
noncomputable abbrev eL:Stmt:=top 10
theorem cS:VS (af eL) j8 ["list"]:=⟨by decide+kernel⟩
theorem oh:bo j8 ["rows","k","other"] (af eL):=⟨rfl,rfl,rfl,by decide+kernel,rfl,by decide+kernel,by decide+kernel⟩
theorem ve{f:Addr}{fd:FuncData}(B:Bl mg)(Q:Kl K mg)(F:aB K mg "exchanged" "exchanged" eL ["rows","k","other"] f fd):
 aw P w K mg base aJ 1 f fd ["rows","k","other"] (aO gc):=
 cD (N:=j8) F.fn oh (fun cdv A outer s H E hr=>(ao (aR oh.nd (cS.l 3) (eO DH (aa (cS.nm 0) ai) B.iy rfl gB (cS.d 0) (cS.g 0)))
  (ao (fC (bA (cS.nm 0) (cS.nm 2)) (cS.nm 3) (cS.nm 1))
  (ao (fC (bA (cS.nm 0) (cS.nm 1)) (cS.nm 3) (cS.nm 2))
  (aE (bx (cS.nm 3))))))) uO
noncomputable abbrev fo:Stmt:=top 11
theorem Ax:VS (af fo) mn []:=⟨by decide+kernel⟩
theorem xZ:bo mn ["row"] (af fo):=⟨rfl,rfl,rfl,by decide+kernel,rfl,by decide+kernel,by decide+kernel⟩
theorem x5{f:Addr}{fd:FuncData}(B:Bl mg)(Q:Kl K mg)(F:aB K mg "negated" "negated" fo ["row"] f fd):
 aw P w K mg base aJ 1 f fd ["row"] (aO iq):=
 cD (N:=mn) F.fn xZ (fun cdv A outer s H E hr=>(aE (bx (d7 (Nc:=["number"]) (br.look (af fo) ["row"] (by decide+kernel)) (fX (Ax.nm 0)) (fun _ _ _ _=>(de (show(["number"]:List Str).Nodup by decide+kernel) (by first|exact Or.inl rfl|exact Or.inr rfl) (by first|exact .inl rfl|exact .inr rfl))) (fun _ _ _ _=>cF) (fun _ _ _ _=>(j4 cP)) cy)))) yE
noncomputable abbrev bX:Stmt:=inClass (top 12) 0
theorem bH:VS (af bX) gZ ["len","unit_rows"]:=⟨by decide+kernel⟩
theorem pF:bo gZ ["self","rows"] (af bX):=⟨rfl,rfl,rfl,by decide+kernel,rfl,by decide+kernel,by decide+kernel⟩
theorem pH{f:Addr}{fd:FuncData}(B:Bl mg)(Q:Kl K mg)(F:MethAt K aq "__init__" "Bench.__init__" bX ["self","rows"] f fd){a_unit_rows:Addr}{d_unit_rows:FuncData}(D_unit_rows:aB K mg "unit_rows" "unit_rows" dS ["n"] a_unit_rows d_unit_rows)(G_unit_rows:aw P w K mg base aJ 2 a_unit_rows d_unit_rows ["n"] (aO g8)):
 aw P w K mg base aJ 3 f fd ["self","rows"] (aO fB):=
 cD (N:=gZ) F.fn pF (fun cdv A outer s H E hr=>(ao (lg Q.aZ.cl Q.bD (bH.nm 0) (sA (Nc:=["row"]) (br.look (af bX) ["self","rows"] (by decide+kernel)) (fX (bH.nm 1)) (fun _ _ _ _=>(de (show(["row"]:List Str).Nodup by decide+kernel) (by first|exact Or.inl rfl|exact Or.inr rfl) (by first|exact .inl rfl|exact .inr rfl))) (fun _ _ _ _=>cF) (fun _ _ _ _=>(eO iR (aa cP ai) B.iy rfl gB (by decide+kernel) rfl)) cy))
  (ao (lg Q.aZ.cl Q.cR (bH.nm 0) (sA (Nc:=["row"]) (br.look (af bX) ["self","rows"] (by decide+kernel)) (fX (bg D_unit_rows G_unit_rows (hr.mono (by decide)) (aa (dP fL (aa (bH.nm 1) ai) B.fJ rfl d_ (bH.d 0) (bH.g 0)) ai) (bH.d 1) (bH.g 1))) (fun _ _ _ _=>(de (show(["row"]:List Str).Nodup by decide+kernel) (by first|exact Or.inl rfl|exact Or.inr rfl) (by first|exact .inl rfl|exact .inr rfl))) (fun _ _ _ _=>cF) (fun _ _ _ _=>(eO iR (aa cP ai) B.iy rfl gB (by decide+kernel) rfl)) cy))
  (aE (lg Q.aZ.cl Q.bC (bH.nm 0) (sA (Nc:=["row"]) (br.look (af bX) ["self","rows"] (by decide+kernel)) (fX (bg D_unit_rows G_unit_rows (hr.mono (by decide)) (aa (dP fL (aa (bH.nm 1) ai) B.fJ rfl d_ (bH.d 0) (bH.g 0)) ai) (bH.d 1) (bH.g 1))) (fun _ _ _ _=>(de (show(["row"]:List Str).Nodup by decide+kernel) (by first|exact Or.inl rfl|exact Or.inr rfl) (by first|exact .inl rfl|exact .inr rfl))) (fun _ _ _ _=>cF) (fun _ _ _ _=>(eO iR (aa cP ai) B.iy rfl gB (by decide+kernel) rfl)) cy)))))) pJ
noncomputable abbrev dF:Stmt:=inClass (top 12) 1
theorem aX:VS (af dF) ju ["added"]:=⟨by decide+kernel⟩
theorem t6:bo ju ["self","k","times","other"] (af dF):=⟨rfl,rfl,rfl,by decide+kernel,rfl,by decide+kernel,by decide+kernel⟩
theorem tP{f:Addr}{fd:FuncData}(B:Bl mg)(Q:Kl K mg)(F:MethAt K aq "take" "Bench.take" dF ["self","k","times","other"] f fd){a_added:Addr}{d_added:FuncData}(D_added:aB K mg "added" "added" gI ["row","times","other"] a_added d_added)(G_added:aw P w K mg base aJ 1 a_added d_added ["row","times","other"] (aO iC)):
 aw P w K mg base aJ 2 f fd ["self","k","times","other"] (aO fA):=
 cD (N:=ju) F.fn t6 (fun cdv A outer s H E hr=>(ao (fC (bg D_added G_added (hr.mono (by decide)) (aa (bA (cW Q.aZ.cl Q.bD (aX.nm 0)) (aX.nm 1)) (aa (j4 (aX.nm 2)) (aa (bA (cW Q.aZ.cl Q.bD (aX.nm 0)) (aX.nm 3)) ai))) (aX.d 0) (aX.g 0)) (cW Q.aZ.cl Q.bD (aX.nm 0)) (aX.nm 1))
  (ao (fC (bg D_added G_added (hr.mono (by decide)) (aa (bA (cW Q.aZ.cl Q.cR (aX.nm 0)) (aX.nm 1)) (aa (j4 (aX.nm 2)) (aa (bA (cW Q.aZ.cl Q.cR (aX.nm 0)) (aX.nm 3)) ai))) (aX.d 0) (aX.g 0)) (cW Q.aZ.cl Q.cR (aX.nm 0)) (aX.nm 1))
  (aE (fC (bg D_added G_added (hr.mono (by decide)) (aa (bA (cW Q.aZ.cl Q.bC (aX.nm 0)) (aX.nm 3)) (aa (aX.nm 2) (aa (bA (cW Q.aZ.cl Q.bC (aX.nm 0)) (aX.nm 1)) ai))) (aX.d 0) (aX.g 0)) (cW Q.aZ.cl Q.bC (aX.nm 0)) (aX.nm 3)))))) t8
noncomputable abbrev cM:Stmt:=inClass (top 12) 2
theorem bj:VS (af cM) gW ["exchanged"]:=⟨by decide+kernel⟩
theorem pN:bo gW ["self","k","other"] (af cM):=⟨rfl,rfl,rfl,by decide+kernel,rfl,by decide+kernel,by decide+kernel⟩
theorem pP{f:Addr}{fd:FuncData}(B:Bl mg)(Q:Kl K mg)(F:MethAt K aq "exchange" "Bench.exchange" cM ["self","k","other"] f fd){a_exchanged:Addr}{d_exchanged:FuncData}(D_exchanged:aB K mg "exchanged" "exchanged" eL ["rows","k","other"] a_exchanged d_exchanged)(G_exchanged:aw P w K mg base aJ 1 a_exchanged d_exchanged ["rows","k","other"] (aO gc)):
 aw P w K mg base aJ 2 f fd ["self","k","other"] (aO fz):=
 cD (N:=gW) F.fn pN (fun cdv A outer s H E hr=>(ao (lg Q.aZ.cl Q.bD (bj.nm 0) (bg D_exchanged G_exchanged (hr.mono (by decide)) (aa (cW Q.aZ.cl Q.bD (bj.nm 0)) (aa (bj.nm 1) (aa (bj.nm 2) ai))) (bj.d 0) (bj.g 0)))
  (ao (lg Q.aZ.cl Q.cR (bj.nm 0) (bg D_exchanged G_exchanged (hr.mono (by decide)) (aa (cW Q.aZ.cl Q.cR (bj.nm 0)) (aa (bj.nm 1) (aa (bj.nm 2) ai))) (bj.d 0) (bj.g 0)))
  (aE (lg Q.aZ.cl Q.bC (bj.nm 0) (bg D_exchanged G_exchanged (hr.mono (by decide)) (aa (cW Q.aZ.cl Q.bC (bj.nm 0)) (aa (bj.nm 1) (aa (bj.nm 2) ai))) (bj.d 0) (bj.g 0))))))) pM
noncomputable abbrev cn:Stmt:=inClass (top 12) 3
theorem aS:VS (af cn) fK ["negated"]:=⟨by decide+kernel⟩
theorem m_:bo fK ["self","k"] (af cn):=⟨rfl,rfl,rfl,by decide+kernel,rfl,by decide+kernel,by decide+kernel⟩
theorem nr{f:Addr}{fd:FuncData}(B:Bl mg)(Q:Kl K mg)(F:MethAt K aq "change_sign" "Bench.change_sign" cn ["self","k"] f fd){a_negated:Addr}{d_negated:FuncData}(D_negated:aB K mg "negated" "negated" fo ["row"] a_negated d_negated)(G_negated:aw P w K mg base aJ 1 a_negated d_negated ["row"] (aO iq)):
 aw P w K mg base aJ 2 f fd ["self","k"] (aO eh):=
 cD (N:=fK) F.fn m_ (fun cdv A outer s H E hr=>(ao (fC (bg D_negated G_negated (hr.mono (by decide)) (aa (bA (cW Q.aZ.cl Q.bD (aS.nm 0)) (aS.nm 1)) ai) (aS.d 0) (aS.g 0)) (cW Q.aZ.cl Q.bD (aS.nm 0)) (aS.nm 1))
  (ao (fC (bg D_negated G_negated (hr.mono (by decide)) (aa (bA (cW Q.aZ.cl Q.cR (aS.nm 0)) (aS.nm 1)) ai) (aS.d 0) (aS.g 0)) (cW Q.aZ.cl Q.cR (aS.nm 0)) (aS.nm 1))
  (aE (fC (bg D_negated G_negated (hr.mono (by decide)) (aa (bA (cW Q.aZ.cl Q.bC (aS.nm 0)) (aS.nm 1)) ai) (aS.d 0) (aS.g 0)) (cW Q.aZ.cl Q.bC (aS.nm 0)) (aS.nm 1)))))) nq
noncomputable abbrev bP:Stmt:=inClass (top 12) 4
theorem cT:VS (af bP) gp ["len","range","sorted"]:=⟨by decide+kernel⟩
theorem ko:bo gp ["self","top","place"] (af bP):=⟨rfl,rfl,rfl,by decide+kernel,rfl,by decide+kernel,by decide+kernel⟩
theorem oz{f:Addr}{fd:FuncData}(B:Bl mg)(Q:Kl K mg)(F:MethAt K aq "live_rows" "Bench.live_rows" bP ["self","top","place"] f fd)(FC:Hd K "live_rows" "Bench.live_rows" bP f fd 107)(hC:PySem.W.codeHdIn K 107 105=true):
 aw P w K mg base aJ 3 f fd ["self","top","place"] (aO d9):=
 GS (N:=gp) FC ko (fun A outer s H E hr=>(ao (o7 ko.nd (cT.l 3) (Nc:=["k","self","place"]) (br.look (af bP) ["self","top","place","live"] (by decide+kernel)) (qr (cT.g 1) B.dA (aa (cT.nm 1) (aa (dP fL (aa (cW Q.aZ.cl Q.bD (cT.nm 0)) ai) B.fJ rfl d_ (cT.d 0) (cT.g 0)) ai))) (fun _ _ _ _=>(de (show(["k","self","place"]:List Str).Nodup by decide+kernel) (by first|exact Or.inl rfl|exact Or.inr rfl) (by first|exact .inl rfl|exact .inr rfl))) (fun _ _ _ _=>(uE (cV uA (cx _) (bA (bA (cW Q.aZ.cl Q.bD cP) cP) cP) av))) (fun _ _ _ _=>cP) cy)
  (aE (bx (EU (c0:=107) (kE.look (Nc:=["k","self","place"]) (fr:=[none,some 0,some 2]) (p:="k") (br.look (af bP) ["self","top","place","live"] (by decide+kernel))) rfl hr rfl hC (fun _ _ _ _=>(dP pD (aa (bA (bA (cW Q.aZ.cl Q.bD cP) cP) cP) ai) B.pv rfl m4 (by decide+kernel) rfl)) (cT.nm 3) (cT.g 2) B.AR))))) oA
noncomputable abbrev di:Stmt:=inClass (top 12) 5
theorem az:VS (af di) iJ ["len","nearest_quotient"]:=⟨by decide+kernel⟩
theorem fZ:bo iJ ["self","top","place"] (af di):=⟨rfl,rfl,rfl,by decide+kernel,rfl,by decide+kernel,by decide+kernel⟩
theorem rf{f:Addr}{fd:FuncData}(B:Bl mg)(Q:Kl K mg)(F:MethAt K aq "gather" "Bench.gather" di ["self","top","place"] f fd){a_Bench_live_rows:Addr}{d_Bench_live_rows:FuncData}(D_Bench_live_rows:MethAt K aq "live_rows" "Bench.live_rows" bP ["self","top","place"] a_Bench_live_rows d_Bench_live_rows)(G_Bench_live_rows:aw P w K mg base aJ 3 a_Bench_live_rows d_Bench_live_rows ["self","top","place"] (aO d9)){a_nearest_quotient:Addr}{d_nearest_quotient:FuncData}(D_nearest_quotient:aB K mg "nearest_quotient" "nearest_quotient" cz ["top","bottom"] a_nearest_quotient d_nearest_quotient)(G_nearest_quotient:aw P w K mg base aJ 1 a_nearest_quotient d_nearest_quotient ["top","bottom"] (aO eS)){a_Bench_take:Addr}{d_Bench_take:FuncData}(D_Bench_take:MethAt K aq "take" "Bench.take" dF ["self","k","times","other"] a_Bench_take d_Bench_take)(G_Bench_take:aw P w K mg base aJ 2 a_Bench_take d_Bench_take ["self","k","times","other"] (aO fA)){a_Bench_exchange:Addr}{d_Bench_exchange:FuncData}(D_Bench_exchange:MethAt K aq "exchange" "Bench.exchange" cM ["self","k","other"] a_Bench_exchange d_Bench_exchange)(G_Bench_exchange:aw P w K mg base aJ 2 a_Bench_exchange d_Bench_exchange ["self","k","other"] (aO fz)){a_Bench_change_sign:Addr}{d_Bench_change_sign:FuncData}(D_Bench_change_sign:MethAt K aq "change_sign" "Bench.change_sign" cn ["self","k"] a_Bench_change_sign d_Bench_change_sign)(G_Bench_change_sign:aw P w K mg base aJ 2 a_Bench_change_sign d_Bench_change_sign ["self","k"] (aO eh)):
 aw P w K mg base aJ 4 f fd ["self","top","place"] (aO gE):=
 cD (N:=iJ) F.fn fZ (fun cdv A outer s H E hr=>(ao (aR fZ.nd (az.l 3) (kj (az.nm 0) Q.aZ.cl D_Bench_live_rows.me G_Bench_live_rows (hr.mono (by decide)) D_Bench_live_rows.bd (aa (az.nm 1) (aa (az.nm 2) ai))))
  (ao (qg (cV uB (cx _) (dP fL (aa (az.nm 3) ai) B.fJ rfl d_ (az.d 0) (az.g 0)) av) (ao (aR fZ.nd (az.l 4) (bA (az.nm 3) (j4 av)))
  (ao (aR fZ.nd (az.l 5) (bA (az.nm 3) (j4 av)))
  (ao (jh (kj (az.nm 0) Q.aZ.cl D_Bench_take.me G_Bench_take (hr.mono (by decide)) D_Bench_take.bd (aa (az.nm 4) (aa (bg D_nearest_quotient G_nearest_quotient (hr.mono (by decide)) (aa (bA (bA (cW Q.aZ.cl Q.bD (az.nm 0)) (az.nm 4)) (az.nm 2)) (aa (bA (bA (cW Q.aZ.cl Q.bD (az.nm 0)) (az.nm 5)) (az.nm 2)) ai)) (az.d 1) (az.g 1)) (aa (az.nm 5) ai)))))
  (aE (aR fZ.nd (az.l 3) (kj (az.nm 0) Q.aZ.cl D_Bench_live_rows.me G_Bench_live_rows (hr.mono (by decide)) D_Bench_live_rows.bd (aa (az.nm 1) (aa (az.nm 2) ai)))))))))
  (ao (eH (cV (mE hr) (cx _) (dP fL (aa (az.nm 3) ai) B.fJ rfl d_ (az.d 0) (az.g 0)) av) (aE (bx oZ)) dU)
  (ao (jh (kj (az.nm 0) Q.aZ.cl D_Bench_exchange.me G_Bench_exchange (hr.mono (by decide)) D_Bench_exchange.bd (aa (az.nm 1) (aa (bA (az.nm 3) av) ai))))
  (ao (eH (cV Bc (cx _) (bA (bA (cW Q.aZ.cl Q.bD (az.nm 0)) (az.nm 1)) (az.nm 2)) av) (aE (jh (kj (az.nm 0) Q.aZ.cl D_Bench_change_sign.me G_Bench_change_sign (hr.mono (by decide)) D_Bench_change_sign.bd (aa (az.nm 1) ai)))) dU)
  (aE (bx oZ)))))))) rE
noncomputable abbrev cq:Stmt:=inClass (top 12) 6
theorem bM:VS (af cq) fM ["range"]:=⟨by decide+kernel⟩
theorem fj:bo fM ["self","top","place"] (af cq):=⟨rfl,rfl,rfl,by decide+kernel,rfl,by decide+kernel,by decide+kernel⟩
theorem nv{f:Addr}{fd:FuncData}(B:Bl mg)(Q:Kl K mg)(F:MethAt K aq "lower_above" "Bench.lower_above" cq ["self","top","place"] f fd){a_Bench_take:Addr}{d_Bench_take:FuncData}(D_Bench_take:MethAt K aq "take" "Bench.take" dF ["self","k","times","other"] a_Bench_take d_Bench_take)(G_Bench_take:aw P w K mg base aJ 2 a_Bench_take d_Bench_take ["self","k","times","other"] (aO fA)):
 aw P w K mg base aJ 3 f fd ["self","top","place"] (aO eg):=
 cD (N:=fM) F.fn fj (fun cdv A outer s H E hr=>(aE (fy (dM (bM.g 0) B.dA (aa (bM.nm 1) ai)) (de fj.nd (by first|exact Or.inl rfl|exact Or.inr rfl) (by first|exact .inl rfl|exact .inr rfl)) (aE (jh (kj (bM.nm 0) Q.aZ.cl D_Bench_take.me G_Bench_take (hr.mono (by decide)) D_Bench_take.bd (aa (bM.nm 3) (aa (bp (wR hr rfl fj.gen fj.co) (bA (bA (cW Q.aZ.cl Q.bD (bM.nm 0)) (bM.nm 3)) (bM.nm 2)) (bA (bA (cW Q.aZ.cl Q.bD (bM.nm 0)) (bM.nm 1)) (bM.nm 2))) (aa (bM.nm 1) ai))))))))) nj
noncomputable abbrev fh:Stmt:=top 13
theorem bb:VS (af fh) kR ["Bench","len","range","turned_over","as_rows"]:=⟨by decide+kernel⟩
theorem g9:bo kR ["rows"] (af fh):=⟨rfl,rfl,rfl,by decide+kernel,rfl,by decide+kernel,by decide+kernel⟩
theorem wK{f:Addr}{fd:FuncData}(B:Bl mg)(Q:Kl K mg)(F:aB K mg "standing" "standing" fh ["rows"] f fd){a_Bench___init__:Addr}{d_Bench___init__:FuncData}(D_Bench___init__:MethAt K aq "__init__" "Bench.__init__" bX ["self","rows"] a_Bench___init__ d_Bench___init__)(G_Bench___init__:aw P w K mg base aJ 3 a_Bench___init__ d_Bench___init__ ["self","rows"] (aO fB)){a_Bench_gather:Addr}{d_Bench_gather:FuncData}(D_Bench_gather:MethAt K aq "gather" "Bench.gather" di ["self","top","place"] a_Bench_gather d_Bench_gather)(G_Bench_gather:aw P w K mg base aJ 4 a_Bench_gather d_Bench_gather ["self","top","place"] (aO gE)){a_Bench_lower_above:Addr}{d_Bench_lower_above:FuncData}(D_Bench_lower_above:MethAt K aq "lower_above" "Bench.lower_above" cq ["self","top","place"] a_Bench_lower_above d_Bench_lower_above)(G_Bench_lower_above:aw P w K mg base aJ 3 a_Bench_lower_above d_Bench_lower_above ["self","top","place"] (aO eg)){a_turned_over:Addr}{d_turned_over:FuncData}(D_turned_over:aB K mg "turned_over" "turned_over" dg ["rows","wide"] a_turned_over d_turned_over)(G_turned_over:aw P w K mg base aJ 2 a_turned_over d_turned_over ["rows","wide"] (aO g6)){a_as_rows:Addr}{d_as_rows:FuncData}(D_as_rows:aB K mg "as_rows" "as_rows" fq ["rows"] a_as_rows d_as_rows)(G_as_rows:aw P w K mg base aJ 1 a_as_rows d_as_rows ["rows"] (aO je)):
 aw P w K mg base aJ 5 f fd ["rows"] (aO jE):=
 cD (N:=kR) F.fn g9 (fun cdv A outer s H E hr=>(ao (aR g9.nd (bb.l 1) (Hv ⟨Q.aZ.K3,D_Bench___init__.me.at_,D_Bench___init__.me.fn,Q.aZ.kp⟩ G_Bench___init__ (hr.mono (by decide)) (bb.g 0) Q.aZ.mg D_Bench___init__.bd (aa (bb.nm 0) ai) (bb.d 0)))
  (ao (aR g9.nd (bb.l 2) av)
  (ao (fy (dM (bb.g 2) B.dA (aa (dP fL (aa (bA (bb.nm 0) av) ai) B.fJ rfl d_ (bb.d 1) (bb.g 1)) ai)) (de g9.nd (by first|exact Or.inl rfl|exact Or.inr rfl) (by first|exact .inl rfl|exact .inr rfl)) (aE (eH (kc (kj (bb.nm 1) Q.aZ.cl D_Bench_gather.me G_Bench_gather (hr.mono (by decide)) D_Bench_gather.bd (aa (bb.nm 2) (aa (bb.nm 3) ai)))) (ao (jh (kj (bb.nm 1) Q.aZ.cl D_Bench_lower_above.me G_Bench_lower_above (hr.mono (by decide)) D_Bench_lower_above.bd (aa (bb.nm 2) (aa (bb.nm 3) ai))))
  (aE (GB g9.nd (bb.l 2) av Hr))) dU)))
  (ao (aR g9.nd (bb.l 4) (bg D_turned_over G_turned_over (hr.mono (by decide)) (aa (cW Q.aZ.cl Q.bC (bb.nm 1)) (aa (dP fL (aa (bb.nm 0) ai) B.fJ rfl d_ (bb.d 1) (bb.g 1)) ai)) (bb.d 3) (bb.g 3)))
  (aE (bx (iH (aa (bg D_as_rows G_as_rows (hr.mono (by decide)) (aa (Ds (cW Q.aZ.cl Q.bD (bb.nm 1)) Ep (Dj (bb.nm 2))) ai) (bb.d 4) (bb.g 4)) (aa (bg D_as_rows G_as_rows (hr.mono (by decide)) (aa (cW Q.aZ.cl Q.cR (bb.nm 1)) ai) (bb.d 4) (bb.g 4)) (aa (bb.nm 4) ai))))))))))) wB
noncomputable abbrev gY:Stmt:=top 15
theorem c_:VS (af gY) m7 ["abs"]:=⟨by decide+kernel⟩
theorem jc:bo m7 ["one","other"] (af gY):=⟨rfl,rfl,rfl,by decide+kernel,rfl,by decide+kernel,by decide+kernel⟩
theorem y_{f:Addr}{fd:FuncData}(B:Bl mg)(Q:Kl K mg)(F:aB K mg "common" "common" gY ["one","other"] f fd):
 aw P w K mg base aJ 1 f fd ["one","other"] (aO lK):=
 cD (N:=m7) F.fn jc (fun cdv A outer s H E hr=>(ao (aR jc.nd (c_.l 2) (dP pD (aa (c_.nm 0) ai) B.pv rfl m4 (c_.d 0) (c_.g 0)))
  (ao (aR jc.nd (c_.l 3) (dP pD (aa (c_.nm 1) ai) B.pv rfl m4 (c_.d 0) (c_.g 0)))
  (ao (qg (cV uA (cx _) (c_.nm 3) av) (ao (aR jc.nd (c_.l 4) (bp kG (c_.nm 2) (c_.nm 3)))
  (ao (aR jc.nd (c_.l 2) (c_.nm 3))
  (aE (aR jc.nd (c_.l 3) (c_.nm 4))))))
  (aE (bx (c_.nm 2))))))) zD
noncomputable abbrev fV:Stmt:=top 17
theorem oK:VS (af fV) l_ ["standing"]:=⟨by decide+kernel⟩
theorem yy:bo l_ ["rows"] (af fV):=⟨rfl,rfl,rfl,by decide+kernel,rfl,by decide+kernel,by decide+kernel⟩
theorem yb{f:Addr}{fd:FuncData}(B:Bl mg)(Q:Kl K mg)(F:aB K mg "form_of" "form_of" fV ["rows"] f fd){a_standing:Addr}{d_standing:FuncData}(D_standing:aB K mg "standing" "standing" fh ["rows"] a_standing d_standing)(G_standing:aw P w K mg base aJ 5 a_standing d_standing ["rows"] (aO jE)):
 aw P w K mg base aJ 6 f fd ["rows"] (aO kq):=
 cD (N:=l_) F.fn yy (fun cdv A outer s H E hr=>(aE (bx (bA (bg D_standing G_standing (hr.mono (by decide)) (aa (oK.nm 0) ai) (oK.d 0) (oK.g 0)) av)))) xM
noncomputable abbrev cQ:Stmt:=top 18
theorem aD:VS (af cQ) jt ["list","form_of","lead_of","common","added"]:=⟨by decide+kernel⟩
theorem dH:bo jt ["rows","row"] (af cQ):=⟨rfl,rfl,rfl,by decide+kernel,rfl,by decide+kernel,by decide+kernel⟩
theorem tT{f:Addr}{fd:FuncData}(B:Bl mg)(Q:Kl K mg)(F:aB K mg "rest_order" "rest_order" cQ ["rows","row"] f fd){a_form_of:Addr}{d_form_of:FuncData}(D_form_of:aB K mg "form_of" "form_of" fV ["rows"] a_form_of d_form_of)(G_form_of:aw P w K mg base aJ 6 a_form_of d_form_of ["rows"] (aO kq)){a_lead_of:Addr}{d_lead_of:FuncData}(D_lead_of:aB K mg "lead_of" "lead_of" fU ["row"] a_lead_of d_lead_of)(G_lead_of:aw P w K mg base aJ 1 a_lead_of d_lead_of ["row"] (aO i7)){a_common:Addr}{d_common:FuncData}(D_common:aB K mg "common" "common" gY ["one","other"] a_common d_common)(G_common:aw P w K mg base aJ 1 a_common d_common ["one","other"] (aO lK)){a_added:Addr}{d_added:FuncData}(D_added:aB K mg "added" "added" gI ["row","times","other"] a_added d_added)(G_added:aw P w K mg base aJ 1 a_added d_added ["row","times","other"] (aO iC)):
 aw P w K mg base aJ 7 f fd ["rows","row"] (aO cZ):=
 cD (N:=jt) F.fn dH (fun cdv A outer s H E hr=>(ao (aR dH.nd (aD.l 2) av)
  (ao (aR dH.nd (aD.l 3) (eO iR (aa (aD.nm 1) ai) B.iy rfl gB (aD.d 0) (aD.g 0)))
  (ao (fy (fX (bg D_form_of G_form_of (hr.mono (by decide)) (aa (aD.nm 0) ai) (aD.d 1) (aD.g 1))) (de dH.nd (by first|exact Or.inl rfl|exact Or.inr rfl) (by first|exact .inl rfl|exact .inr rfl)) (ao (aR dH.nd (aD.l 5) (bg D_lead_of G_lead_of (hr.mono (by decide)) (aa (aD.nm 4) ai) (aD.d 2) (aD.g 2)))
  (ao (aR dH.nd (aD.l 6) (bp ji (bA (aD.nm 4) (aD.nm 5)) (bg D_common G_common (hr.mono (by decide)) (aa (bA (aD.nm 4) (aD.nm 5)) (aa (bA (aD.nm 3) (aD.nm 5)) ai)) (aD.d 3) (aD.g 3))))
  (ao (aR dH.nd (aD.l 2) (bp dy (aD.nm 2) (aD.nm 6)))
  (ao (o7 dH.nd (aD.l 3) (Nc:=["number","lacks"]) (br.look (af cQ) ["rows","row","order","left","each","lead","lacks"] (by decide+kernel)) (fX (aD.nm 3)) (fun _ _ _ _=>(de (show(["number","lacks"]:List Str).Nodup by decide+kernel) (by first|exact Or.inl rfl|exact Or.inr rfl) (by first|exact .inl rfl|exact .inr rfl))) (fun _ _ _ _=>cF) (fun _ _ _ _=>(bp dy cP cP)) cy)
  (aE (aR dH.nd (aD.l 3) (bg D_added G_added (hr.mono (by decide)) (aa (aD.nm 3) (aa (j4 (bp ji (bA (aD.nm 3) (aD.nm 5)) (bA (aD.nm 4) (aD.nm 5)))) (aa (aD.nm 4) ai))) (aD.d 4) (aD.g 4)))))))))
  (aE (bx (xY (cV A4 (cx _) (bg D_lead_of G_lead_of (hr.mono (by decide)) (aa (aD.nm 3) ai) (aD.d 2) (aD.g 2)) m6) (aD.nm 2) m6))))))) tS
noncomputable abbrev dZ:Stmt:=top 20
theorem bY:VS (af dZ) jv ["len","int"]:=⟨by decide+kernel⟩
theorem ky:bo jv ["_law_script","_law_k"] (af dZ):=⟨rfl,rfl,rfl,by decide+kernel,rfl,by decide+kernel,by decide+kernel⟩
theorem tW{f:Addr}{fd:FuncData}(B:Bl mg)(Q:Kl K mg)(F:aB K mg "_law_source" "_law_source" dZ ["_law_script","_law_k"] f fd):
 aw P w K mg base aJ 1 f fd ["_law_script","_law_k"] (aO iu):=
 cD (N:=jv) F.fn ky (fun cdv A outer s H E hr=>(ao (aR ky.nd (bY.l 2) av)
  (ao (eH (cV uB (cx _) (dP fL (aa (bY.nm 0) ai) B.fJ rfl d_ (bY.d 0) (bY.g 0)) av) (aE (aR ky.nd (bY.l 2) (bA (bY.nm 0) (bp kG (bY.nm 1) (dP fL (aa (bY.nm 0) ai) B.fJ rfl d_ (bY.d 0) (bY.g 0)))))) dU)
  (aE (bx (Cg (aa (bp dy (bY.nm 2) (eO Cw (aa (uo Ki (cx _) (bY.nm 2) (bp ud av av)) ai) B.yC rfl vR (bY.d 1) (bY.g 1))) (aa (bY.nm 2) (aa (bp dy av (bY.nm 1)) ai))))))))) tN
noncomputable abbrev cL:Stmt:=top 21
theorem cf:VS (af cL) kO []:=⟨by decide+kernel⟩
theorem j0:bo kO ["_law_source_here","_law_many"] (af cL):=⟨rfl,rfl,rfl,by decide+kernel,rfl,by decide+kernel,by decide+kernel⟩
theorem we{f:Addr}{fd:FuncData}(B:Bl mg)(Q:Kl K mg)(F:aB K mg "_law_take" "_law_take" cL ["_law_source_here","_law_many"] f fd):
 aw P w K mg base aJ 1 f fd ["_law_source_here","_law_many"] (aO aW):=
 cD (N:=kO) F.fn j0 (fun cdv A outer s H E hr=>(ao (eH (cV uB (cx _) (bA (cf.nm 0) av) av) (ao (aR j0.nd (cf.l 2) (bp kG (bA (cf.nm 0) av) (cf.nm 1)))
  (ao (fC (bp ji (bA (cf.nm 0) av) (cf.nm 1)) (cf.nm 0) av)
  (aE (bx (cf.nm 2))))) dU)
  (ao (fC (bp fW (bA (cf.nm 0) av) av) (cf.nm 0) av)
  (ao (aR j0.nd (cf.l 3) (bp kG (bp dy (bp fW (bp fW (bp kG (bA (cf.nm 0) av) av) (bp dy av (bA (cf.nm 0) av))) av) av) av))
  (ao (aR j0.nd (cf.l 3) (bp fW (bp kG (bp dy (cf.nm 3) (cf.nm 3)) av) (bp dy av (bA (cf.nm 0) av))))
  (aE (bx (bp kG (bp ji (bp kG (bp dy (cf.nm 3) av) av) av) (cf.nm 1))))))))) wy
noncomputable abbrev dE:Stmt:=top 22
theorem bz:VS (af dE) js ["_law_take"]:=⟨by decide+kernel⟩
theorem nU:bo js ["_law_source_here"] (af dE):=⟨rfl,rfl,rfl,by decide+kernel,rfl,by decide+kernel,by decide+kernel⟩
theorem tY{f:Addr}{fd:FuncData}(B:Bl mg)(Q:Kl K mg)(F:aB K mg "_law_number" "_law_number" dE ["_law_source_here"] f fd){a_law_take:Addr}{d_law_take:FuncData}(D_law_take:aB K mg "_law_take" "_law_take" cL ["_law_source_here","_law_many"] a_law_take d_law_take)(G_law_take:aw P w K mg base aJ 1 a_law_take d_law_take ["_law_source_here","_law_many"] (aO aW)):
 aw P w K mg base aJ 2 f fd ["_law_source_here"] (aO eR):=
 cD (N:=js) F.fn nU (fun cdv A outer s H E hr=>(ao (aR nU.nd (bz.l 1) (bg D_law_take G_law_take (hr.mono (by decide)) (aa (bz.nm 0) (aa av ai)) (bz.d 0) (bz.g 0)))
  (ao (eH (cV Bc (cx _) (bz.nm 1) av) (aE (bx (bp rB (bg D_law_take G_law_take (hr.mono (by decide)) (aa (bz.nm 0) (aa av ai)) (bz.d 0) (bz.g 0)) av))) dU)
  (ao (eH (cV Bc (cx _) (bz.nm 1) av) (aE (bx (bp rB (bg D_law_take G_law_take (hr.mono (by decide)) (aa (bz.nm 0) (aa av ai)) (bz.d 0) (bz.g 0)) av))) dU)
  (aE (bx (bp dy (bp fW (bp dy (bg D_law_take G_law_take (hr.mono (by decide)) (aa (bz.nm 0) (aa (bp ud av av) ai)) (bz.d 0) (bz.g 0)) (bp ud av av)) (bg D_law_take G_law_take (hr.mono (by decide)) (aa (bz.nm 0) (aa (bp ud av av) ai)) (bz.d 0) (bz.g 0))) (bp rB av (bp dy av (bg D_law_take G_law_take (hr.mono (by decide)) (aa (bz.nm 0) (aa av ai)) (bz.d 0) (bz.g 0))))))))))) t5
noncomputable abbrev cC:Stmt:=top 23
theorem df:VS (af cC) jJ ["abs"]:=⟨by decide+kernel⟩
theorem kv:bo jJ ["_law_one","_law_other"] (af cC):=⟨rfl,rfl,rfl,by decide+kernel,rfl,by decide+kernel,by decide+kernel⟩
theorem tQ{f:Addr}{fd:FuncData}(B:Bl mg)(Q:Kl K mg)(F:aB K mg "_law_common" "_law_common" cC ["_law_one","_law_other"] f fd):
 aw P w K mg base aJ 1 f fd ["_law_one","_law_other"] (aO eW):=
 cD (N:=jJ) F.fn kv (fun cdv A outer s H E hr=>(ao (vE kv.nd (by decide) (show(af cC).names.lookup ("_law_one":Str)=some .local by decide+kernel) (show(af cC).names.lookup ("_law_other":Str)=some .local by decide+kernel) (aa (dP pD (aa (df.nm 0) ai) B.pv rfl m4 (df.d 0) (df.g 0)) (aa (dP pD (aa (df.nm 1) ai) B.pv rfl m4 (df.d 0) (df.g 0)) ai)))
  (ao (qg (cV uB (cx _) (df.nm 1) av) (aE (vE kv.nd (by decide) (show(af cC).names.lookup ("_law_one":Str)=some .local by decide+kernel) (show(af cC).names.lookup ("_law_other":Str)=some .local by decide+kernel) (aa (df.nm 1) (aa (bp kG (df.nm 0) (df.nm 1)) ai)))))
  (aE (bx (df.nm 0)))))) tZ
noncomputable abbrev cA:Stmt:=top 24
theorem au:VS (af cA) jr ["_law_take","range","len","zip","tuple"]:=⟨by decide+kernel⟩
theorem fb:bo jr ["_law_source_here","_law_rows"] (af cA):=⟨rfl,rfl,rfl,by decide+kernel,rfl,by decide+kernel,by decide+kernel⟩
theorem tX{f:Addr}{fd:FuncData}(B:Bl mg)(Q:Kl K mg)(F:aB K mg "_law_turned" "_law_turned" cA ["_law_source_here","_law_rows"] f fd){a_law_take:Addr}{d_law_take:FuncData}(D_law_take:aB K mg "_law_take" "_law_take" cL ["_law_source_here","_law_many"] a_law_take d_law_take)(G_law_take:aw P w K mg base aJ 1 a_law_take d_law_take ["_law_source_here","_law_many"] (aO aW)):
 aw P w K mg base aJ 2 f fd ["_law_source_here","_law_rows"] (aO fx):=
 cD (N:=jr) F.fn fb (fun cdv A outer s H E hr=>(ao (B9 fb.nd (au.l 2) (Nc:=["_law_row_here"]) (br.look (af cA) ["_law_source_here","_law_rows","_law_made","_law_k","_law_i","_law_j","_law_how","_law_by"] (by decide+kernel)) (fX (au.nm 1)) (fun _ _ _ _=>(de (show(["_law_row_here"]:List Str).Nodup by decide+kernel) (by first|exact Or.inl rfl|exact Or.inr rfl) (by first|exact .inl rfl|exact .inr rfl))) (fun _ _ _ _=>cF) (fun _ _ _ _=>(eO iR (aa cP ai) B.iy rfl gB (by decide+kernel) rfl)) cy)
  (ao (fy (dM (au.g 1) B.dA (aa (bg D_law_take G_law_take (hr.mono (by decide)) (aa (au.nm 0) (aa av ai)) (au.d 0) (au.g 0)) ai)) (de fb.nd (by first|exact Or.inl rfl|exact Or.inr rfl) (by first|exact .inl rfl|exact .inr rfl)) (ao (aR fb.nd (au.l 4) (bg D_law_take G_law_take (hr.mono (by decide)) (aa (au.nm 0) (aa (dP fL (aa (au.nm 2) ai) B.fJ rfl d_ (au.d 2) (au.g 2)) ai)) (au.d 0) (au.g 0)))
  (ao (aR fb.nd (au.l 5) (bg D_law_take G_law_take (hr.mono (by decide)) (aa (au.nm 0) (aa (dP fL (aa (au.nm 2) ai) B.fJ rfl d_ (au.d 2) (au.g 2)) ai)) (au.d 0) (au.g 0)))
  (ao (aR fb.nd (au.l 6) (bg D_law_take G_law_take (hr.mono (by decide)) (aa (au.nm 0) (aa av ai)) (au.d 0) (au.g 0)))
  (aE (eH (cV (mE hr) (cx _) (au.nm 4) (au.nm 5)) (aE (sW (d7 (Nc:=["_law_one"]) (br.look (af cA) ["_law_source_here","_law_rows","_law_made","_law_k","_law_i","_law_j","_law_how","_law_by"] (by decide+kernel)) (fX (bA (au.nm 2) (au.nm 4))) (fun _ _ _ _=>(de (show(["_law_one"]:List Str).Nodup by decide+kernel) (by first|exact Or.inl rfl|exact Or.inr rfl) (by first|exact .inl rfl|exact .inr rfl))) (fun _ _ _ _=>cF) (fun _ _ _ _=>(j4 cP)) cy) (au.nm 2) (au.nm 4))) (aE (eH (cV (mE hr) (cx _) (au.nm 6) av) (aE (Eh (au.nm 2) (au.nm 4) (au.nm 2) (au.nm 5) (iH (aa (bA (au.nm 2) (au.nm 5)) (aa (bA (au.nm 2) (au.nm 4)) ai))))) (ao (aR fb.nd (au.l 7) (bA (uq (aa av (aa (j4 av) (aa av (aa (j4 av) ai))))) (bg D_law_take G_law_take (hr.mono (by decide)) (aa (au.nm 0) (aa av ai)) (au.d 0) (au.g 0))))
  (aE (sW (d7 (Nc:=["_law_one","_law_other","_law_by"]) (br.look (af cA) ["_law_source_here","_law_rows","_law_made","_law_k","_law_i","_law_j","_law_how","_law_by"] (by decide+kernel)) (pq (au.g 3) B.ph (aa (bA (au.nm 2) (au.nm 4)) (aa (bA (au.nm 2) (au.nm 5)) ai))) (fun _ _ _ _=>(mi rfl (show(["_law_one","_law_other","_law_by"]:List Str).Nodup by decide+kernel) (by first|exact Or.inl rfl|exact Or.inr rfl) (by first|exact .inl rfl|exact .inr rfl) (by first|exact Or.inl rfl|exact Or.inr rfl) (by first|exact .inl rfl|exact .inr rfl))) (fun _ _ _ _=>cF) (fun _ _ _ _=>(bp fW cP (bp dy cP cP))) mF) (au.nm 2) (au.nm 4))))))))))))
  (aE (bx (eO ft (aa (d7 (Nc:=["_law_row_here"]) (br.look (af cA) ["_law_source_here","_law_rows","_law_made","_law_k","_law_i","_law_j","_law_how","_law_by"] (by decide+kernel)) (fX (au.nm 2)) (fun _ _ _ _=>(de (show(["_law_row_here"]:List Str).Nodup by decide+kernel) (by first|exact Or.inl rfl|exact Or.inr rfl) (by first|exact .inl rfl|exact .inr rfl))) (fun _ _ _ _=>cF) (fun _ _ _ _=>(eO ft (aa cP ai) B.fw rfl eD (by decide+kernel) rfl)) cy) ai) B.fw rfl eD (au.d 4) (au.g 4))))))) tM
noncomputable abbrev fi:Stmt:=top 25
theorem bB:VS (af fi) kH ["len","range","_law_take","tuple"]:=⟨by decide+kernel⟩
theorem iP:bo kH ["_law_source_here","_law_leads_here"] (af fi):=⟨rfl,rfl,rfl,by decide+kernel,rfl,by decide+kernel,by decide+kernel⟩
theorem wm{f:Addr}{fd:FuncData}(B:Bl mg)(Q:Kl K mg)(F:aB K mg "_law_form" "_law_form" fi ["_law_source_here","_law_leads_here"] f fd){a_law_take:Addr}{d_law_take:FuncData}(D_law_take:aB K mg "_law_take" "_law_take" cL ["_law_source_here","_law_many"] a_law_take d_law_take)(G_law_take:aw P w K mg base aJ 1 a_law_take d_law_take ["_law_source_here","_law_many"] (aO aW)):
 aw P w K mg base aJ 2 f fd ["_law_source_here","_law_leads_here"] (aO jC):=
 cD (N:=kH) F.fn iP (fun cdv A outer s H E hr=>(ao (aR iP.nd (bB.l 2) (Cg ai))
  (ao (fy (dM (bB.g 1) B.dA (aa (dP fL (aa (bB.nm 1) ai) B.fJ rfl d_ (bB.d 0) (bB.g 0)) ai)) (de iP.nd (by first|exact Or.inl rfl|exact Or.inr rfl) (by first|exact .inl rfl|exact .inr rfl)) (ao (aR iP.nd (bB.l 4) (bp E6 (bp dy (uq (aa av ai)) (bB.nm 3)) (uq (aa (bA (bB.nm 1) (bB.nm 3)) ai))))
  (ao (fy (qr (bB.g 1) B.dA (aa (bp fW (bB.nm 3) av) (aa (dP fL (aa (bB.nm 1) ai) B.fJ rfl d_ (bB.d 0) (bB.g 0)) ai))) (de iP.nd (by first|exact Or.inl rfl|exact Or.inr rfl) (by first|exact .inl rfl|exact .inr rfl)) (aE (jh (tm (bB.nm 4) (bg D_law_take G_law_take (hr.mono (by decide)) (aa (bB.nm 0) (aa (bA (bB.nm 1) (bB.nm 5)) ai)) (bB.d 2) (bB.g 2))))))
  (aE (jh (tm (bB.nm 2) (eO ft (aa (bB.nm 4) ai) B.fw rfl eD (bB.d 3) (bB.g 3))))))))
  (aE (bx (bB.nm 2)))))) wI
noncomputable abbrev dW:Stmt:=top 26
theorem bL:VS (af dW) kL ["list","len","range","zip","tuple"]:=⟨by decide+kernel⟩
theorem hO:bo kL ["_law_form_here","_law_row_here"] (af dW):=⟨rfl,rfl,rfl,by decide+kernel,rfl,by decide+kernel,by decide+kernel⟩
theorem wC{f:Addr}{fd:FuncData}(B:Bl mg)(Q:Kl K mg)(F:aB K mg "_law_fall" "_law_fall" dW ["_law_form_here","_law_row_here"] f fd):
 aw P w K mg base aJ 1 f fd ["_law_form_here","_law_row_here"] (aO iF):=
 cD (N:=kL) F.fn hO (fun cdv A outer s H E hr=>(ao (aR hO.nd (bL.l 2) (eO iR (aa (bL.nm 1) ai) B.iy rfl gB (bL.d 0) (bL.g 0)))
  (ao (fy (fX (bL.nm 0)) (de hO.nd (by first|exact Or.inl rfl|exact Or.inr rfl) (by first|exact .inl rfl|exact .inr rfl)) (ao (aR hO.nd (bL.l 4) (bA (d7 (Nc:=["_law_k","_law_step"]) (br.look (af dW) ["_law_form_here","_law_row_here","_law_rest","_law_step","_law_lead","_law_many"] (by decide+kernel)) (dM (bL.g 2) B.dA (aa (dP fL (aa (bL.nm 3) ai) B.fJ rfl d_ (bL.d 1) (bL.g 1)) ai)) (fun _ _ _ _=>(de (show(["_law_k","_law_step"]:List Str).Nodup by decide+kernel) (by first|exact Or.inl rfl|exact Or.inr rfl) (by first|exact .inl rfl|exact .inr rfl))) (fun _ _ _ _=>(uE (cV uA (cx _) (bA cP cP) av))) (fun _ _ _ _=>cP) cy) av))
  (ao (aR hO.nd (bL.l 5) (bp ji (bA (bL.nm 2) (bL.nm 4)) (bA (bL.nm 3) (bL.nm 4))))
  (aE (o7 hO.nd (bL.l 2) (Nc:=["_law_one","_law_other","_law_many"]) (br.look (af dW) ["_law_form_here","_law_row_here","_law_rest","_law_step","_law_lead","_law_many"] (by decide+kernel)) (pq (bL.g 3) B.ph (aa (bL.nm 2) (aa (bL.nm 3) ai))) (fun _ _ _ _=>(mi rfl (show(["_law_one","_law_other","_law_many"]:List Str).Nodup by decide+kernel) (by first|exact Or.inl rfl|exact Or.inr rfl) (by first|exact .inl rfl|exact .inr rfl) (by first|exact Or.inl rfl|exact Or.inr rfl) (by first|exact .inl rfl|exact .inr rfl))) (fun _ _ _ _=>cF) (fun _ _ _ _=>(bp rB cP (bp dy cP cP))) mF)))))
  (aE (bx (eO ft (aa (bL.nm 2) ai) B.fw rfl eD (bL.d 4) (bL.g 4))))))) wA
noncomputable abbrev eJ:Stmt:=top 27
theorem aF:VS (af eJ) j5 ["_law_take","range","max","min"]:=⟨by decide+kernel⟩
theorem dG:bo j5 ["_law_source_here","_law_most"] (af eJ):=⟨rfl,rfl,rfl,by decide+kernel,rfl,by decide+kernel,by decide+kernel⟩
theorem vo{f:Addr}{fd:FuncData}(B:Bl mg)(Q:Kl K mg)(F:aB K mg "_law_leads" "_law_leads" eJ ["_law_source_here","_law_most"] f fd){a_law_take:Addr}{d_law_take:FuncData}(D_law_take:aB K mg "_law_take" "_law_take" cL ["_law_source_here","_law_many"] a_law_take d_law_take)(G_law_take:aw P w K mg base aJ 1 a_law_take d_law_take ["_law_source_here","_law_many"] (aO aW)):
 aw P w K mg base aJ 2 f fd ["_law_source_here","_law_most"] (aO iU):=
 cD (N:=j5) F.fn dG (fun cdv A outer s H E hr=>(ao (aR dG.nd (aF.l 2) (bp fW av (bg D_law_take G_law_take (hr.mono (by decide)) (aa (aF.nm 0) (aa av ai)) (aF.d 0) (aF.g 0))))
  (ao (eH (cV (mE hr) (cx _) (bg D_law_take G_law_take (hr.mono (by decide)) (aa (aF.nm 0) (aa av ai)) (aF.d 0) (aF.g 0)) av) (aE (aR dG.nd (aF.l 2) (bp fW av (bg D_law_take G_law_take (hr.mono (by decide)) (aa (aF.nm 0) (aa av ai)) (aF.d 0) (aF.g 0))))) dU)
  (ao (aR dG.nd (aF.l 3) (bp GZ (uq (aa av ai)) (aF.nm 2)))
  (ao (fy (dM (aF.g 1) B.dA (aa av ai)) (de dG.nd (by first|exact Or.inl rfl|exact Or.inr rfl) (by first|exact .inl rfl|exact .inr rfl)) (ao (aR dG.nd (aF.l 5) (bg D_law_take G_law_take (hr.mono (by decide)) (aa (aF.nm 0) (aa (aF.nm 2) ai)) (aF.d 0) (aF.g 0)))
  (ao (aR dG.nd (aF.l 6) (bp fW av (bg D_law_take G_law_take (hr.mono (by decide)) (aa (aF.nm 0) (aa av ai)) (aF.d 0) (aF.g 0))))
  (ao (aR dG.nd (aF.l 7) (aF.nm 1))
  (ao (fy (fX (aF.nm 3)) (de dG.nd (by first|exact Or.inl rfl|exact Or.inr rfl) (by first|exact .inl rfl|exact .inr rfl)) (aE (aR dG.nd (aF.l 7) (bp ji (aF.nm 7) (aF.nm 8)))))
  (aE (fC (bp dy (bA (aF.nm 3) (aF.nm 5)) (dP (Im rfl) (aa (aF.nm 6) (aa (dP (C7 rfl) (aa av (aa (aF.nm 7) ai)) B.Cu rfl ze (aF.d 2) (aF.g 2)) ai)) B.Jr rfl GU (aF.d 3) (aF.g 3))) (aF.nm 3) (aF.nm 5))))))))
  (aE (bx (aF.nm 3)))))))) uX
noncomputable abbrev dq:Stmt:=top 28
theorem aK:VS (af dq) iD ["_law_leads","_law_form","range","_law_take","len","_law_turned"]:=⟨by decide+kernel⟩
theorem ib:bo iD ["_law_source_here","_law_most"] (af dq):=⟨rfl,rfl,rfl,by decide+kernel,rfl,by decide+kernel,by decide+kernel⟩
theorem q_{f:Addr}{fd:FuncData}(B:Bl mg)(Q:Kl K mg)(F:aB K mg "_law_standing" "_law_standing" dq ["_law_source_here","_law_most"] f fd){a_law_leads:Addr}{d_law_leads:FuncData}(D_law_leads:aB K mg "_law_leads" "_law_leads" eJ ["_law_source_here","_law_most"] a_law_leads d_law_leads)(G_law_leads:aw P w K mg base aJ 2 a_law_leads d_law_leads ["_law_source_here","_law_most"] (aO iU)){a_law_form:Addr}{d_law_form:FuncData}(D_law_form:aB K mg "_law_form" "_law_form" fi ["_law_source_here","_law_leads_here"] a_law_form d_law_form)(G_law_form:aw P w K mg base aJ 2 a_law_form d_law_form ["_law_source_here","_law_leads_here"] (aO jC)){a_law_take:Addr}{d_law_take:FuncData}(D_law_take:aB K mg "_law_take" "_law_take" cL ["_law_source_here","_law_many"] a_law_take d_law_take)(G_law_take:aw P w K mg base aJ 1 a_law_take d_law_take ["_law_source_here","_law_many"] (aO aW)){a_law_turned:Addr}{d_law_turned:FuncData}(D_law_turned:aB K mg "_law_turned" "_law_turned" cA ["_law_source_here","_law_rows"] a_law_turned d_law_turned)(G_law_turned:aw P w K mg base aJ 2 a_law_turned d_law_turned ["_law_source_here","_law_rows"] (aO fx)):
 aw P w K mg base aJ 3 f fd ["_law_source_here","_law_most"] (aO gv):=
 cD (N:=iD) F.fn ib (fun cdv A outer s H E hr=>(ao (aR ib.nd (aK.l 2) (bg D_law_leads G_law_leads (hr.mono (by decide)) (aa (aK.nm 0) (aa (aK.nm 1) ai)) (aK.d 0) (aK.g 0)))
  (ao (aR ib.nd (aK.l 3) (bg D_law_form G_law_form (hr.mono (by decide)) (aa (aK.nm 0) (aa (aK.nm 2) ai)) (aK.d 1) (aK.g 1)))
  (ao (fy (dM (aK.g 2) B.dA (aa av ai)) (de ib.nd (by first|exact Or.inl rfl|exact Or.inr rfl) (by first|exact .inl rfl|exact .inr rfl)) (aE (eH (CH (Gp (cV (mE hr) (cx _) (bg D_law_take G_law_take (hr.mono (by decide)) (aa (aK.nm 0) (aa av ai)) (aK.d 3) (aK.g 3)) av) (E4 (cV uB (cx _) (dP fL (aa (aK.nm 3) ai) B.fJ rfl d_ (aK.d 4) (aK.g 4)) av)))) (aE (jh (Gm (aK.nm 3) (bg D_law_take G_law_take (hr.mono (by decide)) (aa (aK.nm 0) (aa (dP fL (aa (aK.nm 3) ai) B.fJ rfl d_ (aK.d 4) (aK.g 4)) ai)) (aK.d 3) (aK.g 3))))) dU)))
  (aE (bx (iH (aa (aK.nm 3) (aa (bg D_law_turned G_law_turned (hr.mono (by decide)) (aa (aK.nm 0) (aa (aK.nm 3) ai)) (aK.d 5) (aK.g 5)) ai))))))))) rp
noncomputable abbrev eN:Stmt:=top 29
theorem lV:VS (af eN) mq ["range","tuple"]:=⟨by decide+kernel⟩
theorem yI:bo mq ["_law_source_here","_law_wide"] (af eN):=⟨rfl,rfl,rfl,by decide+kernel,rfl,by decide+kernel,by decide+kernel⟩
theorem yn{f:Addr}{fd:FuncData}(B:Bl mg)(Q:Kl K mg)(F:aB K mg "_law_row" "_law_row" eN ["_law_source_here","_law_wide"] f fd){a_law_number:Addr}{d_law_number:FuncData}(D_law_number:aB K mg "_law_number" "_law_number" dE ["_law_source_here"] a_law_number d_law_number)(G_law_number:aw P w K mg base aJ 2 a_law_number d_law_number ["_law_source_here"] (aO eR)):
 aw P w K mg base aJ 3 f fd ["_law_source_here","_law_wide"] (aO ij):=
 cD (N:=mq) F.fn yI (fun cdv A outer s H E hr=>(aE (bx (eO ft (aa (d7 (Nc:=["_law_j","_law_source_here"]) (br.look (af eN) ["_law_source_here","_law_wide"] (by decide+kernel)) (dM (lV.g 0) B.dA (aa (lV.nm 1) ai)) (fun _ _ _ _=>(de (show(["_law_j","_law_source_here"]:List Str).Nodup by decide+kernel) (by first|exact Or.inl rfl|exact Or.inr rfl) (by first|exact .inl rfl|exact .inr rfl))) (fun _ _ _ _=>cF) (fun _ _ _ _=>(bg D_law_number G_law_number (hr.mono (by decide)) (aa cP ai) (by decide+kernel) rfl)) cy) ai) B.fw rfl eD (lV.d 1) (lV.g 1))))) yJ
noncomputable abbrev eX:Stmt:=top 30
theorem bK:VS (af eX) mf ["_law_fall","range","any","zip"]:=⟨by decide+kernel⟩
theorem gb:bo mf ["_law_form_here","_law_row_here"] (af eX):=⟨rfl,rfl,rfl,by decide+kernel,rfl,by decide+kernel,by decide+kernel⟩
theorem xQ{f:Addr}{fd:FuncData}(B:Bl mg)(Q:Kl K mg)(F:aB K mg "_law_due" "_law_due" eX ["_law_form_here","_law_row_here"] f fd){a_law_fall:Addr}{d_law_fall:FuncData}(D_law_fall:aB K mg "_law_fall" "_law_fall" dW ["_law_form_here","_law_row_here"] a_law_fall d_law_fall)(G_law_fall:aw P w K mg base aJ 1 a_law_fall d_law_fall ["_law_form_here","_law_row_here"] (aO iF)):
 aw P w K mg base aJ 2 f fd ["_law_form_here","_law_row_here"] (aO j_):=
 cD (N:=mf) F.fn gb (fun cdv A outer s H E hr=>(ao (aR gb.nd (bK.l 2) av)
  (ao (fy (fX (bK.nm 0)) (de gb.nd (by first|exact Or.inl rfl|exact Or.inr rfl) (by first|exact .inl rfl|exact .inr rfl)) (aE (aR gb.nd (bK.l 2) (bp dy (bK.nm 2) (bA (d7 (Nc:=["_law_one"]) (br.look (af eX) ["_law_form_here","_law_row_here","_law_most","_law_step","_law_own","_law_rest","_law_many"] (by decide+kernel)) (fX (bK.nm 3)) (fun _ _ _ _=>(de (show(["_law_one"]:List Str).Nodup by decide+kernel) (by first|exact Or.inl rfl|exact Or.inr rfl) (by first|exact .inl rfl|exact .inr rfl))) (fun _ _ _ _=>(uE (cV uA (cx _) cP av))) (fun _ _ _ _=>cP) cy) av)))))
  (ao (aR gb.nd (bK.l 4) (bg D_law_fall G_law_fall (hr.mono (by decide)) (aa (bK.nm 0) (aa (bK.nm 1) ai)) (bK.d 0) (bK.g 0)))
  (ao (aR gb.nd (bK.l 5) (bK.nm 4))
  (ao (fy (qr (bK.g 1) B.dA (aa av (aa (bp fW (bK.nm 2) av) ai))) (de gb.nd (by first|exact Or.inl rfl|exact Or.inr rfl) (by first|exact .inl rfl|exact .inr rfl)) (ao (eH (mW (kc (dP (Aq rfl) (aa (bK.nm 5) ai) B.CT rfl zJ (bK.d 2) (bK.g 2)))) (aE (bx (bK.nm 6))) dU)
  (aE (aR gb.nd (bK.l 5) (bg D_law_fall G_law_fall (hr.mono (by decide)) (aa (bK.nm 0) (aa (d7 (Nc:=["_law_a","_law_b"]) (br.look (af eX) ["_law_form_here","_law_row_here","_law_most","_law_step","_law_own","_law_rest","_law_many"] (by decide+kernel)) (pq (bK.g 3) B.ph (aa (bK.nm 5) (aa (bK.nm 4) ai))) (fun _ _ _ _=>(mi rfl (show(["_law_a","_law_b"]:List Str).Nodup by decide+kernel) (by first|exact Or.inl rfl|exact Or.inr rfl) (by first|exact .inl rfl|exact .inr rfl) (by first|exact Or.inl rfl|exact Or.inr rfl) (by first|exact .inl rfl|exact .inr rfl))) (fun _ _ _ _=>cF) (fun _ _ _ _=>(bp fW cP cP)) mF) ai)) (bK.d 0) (bK.g 0))))))
  (aE (bx m6)))))))) y8
noncomputable abbrev dX:Stmt:=top 31
theorem cU:VS (af dX) kQ ["int","isinstance","bool"]:=⟨by decide+kernel⟩
theorem wQ:bo kQ ["_law_found","_law_due_here"] (af dX):=⟨rfl,rfl,rfl,by decide+kernel,rfl,by decide+kernel,by decide+kernel⟩
theorem wG{f:Addr}{fd:FuncData}(B:Bl mg)(Q:Kl K mg)(F:aB K mg "_law_same" "_law_same" dX ["_law_found","_law_due_here"] f fd):
 aw P w K mg base aJ 1 f fd ["_law_found","_law_due_here"] (aO dY):=
 cD (N:=kQ) F.fn wQ (fun cdv A outer s H E hr=>(ao (eH (cV A4 (cx _) (cU.nm 1) m6) (aE (bx (uo A4 (cx _) (cU.nm 0) m6))) dU)
  (aE (bx (CF (dP CK (aa (cU.nm 0) (aa (Fo B.yC rfl vR (cU.d 0) (cU.g 0)) ai)) B.oO rfl nQ (cU.d 1) (cU.g 1)) (CF (Iz (dP CK (aa (cU.nm 0) (aa (Fo B.GN rfl E2 (cU.d 2) (cU.g 2)) ai)) B.oO rfl nQ (cU.d 1) (cU.g 1))) (IJ (uo (mE hr) (cx _) (cU.nm 0) (cU.nm 1))))))))) wx
noncomputable abbrev cg:Stmt:=top 32
theorem ak:VS (af cg) gR ["_law_take","range","_law_row","zip","_law_common","_law_turned","rest_order","_law_same"]:=⟨by decide+kernel⟩
theorem cw:bo gR ["_law_source_here"] (af cg):=⟨rfl,rfl,rfl,by decide+kernel,rfl,by decide+kernel,by decide+kernel⟩
theorem pE{f:Addr}{fd:FuncData}(B:Bl mg)(Q:Kl K mg)(F:aB K mg "_law_grid_right" "_law_grid_right" cg ["_law_source_here"] f fd){a_law_take:Addr}{d_law_take:FuncData}(D_law_take:aB K mg "_law_take" "_law_take" cL ["_law_source_here","_law_many"] a_law_take d_law_take)(G_law_take:aw P w K mg base aJ 1 a_law_take d_law_take ["_law_source_here","_law_many"] (aO aW)){a_law_row:Addr}{d_law_row:FuncData}(D_law_row:aB K mg "_law_row" "_law_row" eN ["_law_source_here","_law_wide"] a_law_row d_law_row)(G_law_row:aw P w K mg base aJ 3 a_law_row d_law_row ["_law_source_here","_law_wide"] (aO ij)){a_law_common:Addr}{d_law_common:FuncData}(D_law_common:aB K mg "_law_common" "_law_common" cC ["_law_one","_law_other"] a_law_common d_law_common)(G_law_common:aw P w K mg base aJ 1 a_law_common d_law_common ["_law_one","_law_other"] (aO eW)){a_law_turned:Addr}{d_law_turned:FuncData}(D_law_turned:aB K mg "_law_turned" "_law_turned" cA ["_law_source_here","_law_rows"] a_law_turned d_law_turned)(G_law_turned:aw P w K mg base aJ 2 a_law_turned d_law_turned ["_law_source_here","_law_rows"] (aO fx)){a_rest_order:Addr}{d_rest_order:FuncData}(D_rest_order:aB K mg "rest_order" "rest_order" cQ ["rows","row"] a_rest_order d_rest_order)(G_rest_order:aw P w K mg base aJ 7 a_rest_order d_rest_order ["rows","row"] (aO cZ)){a_law_same:Addr}{d_law_same:FuncData}(D_law_same:aB K mg "_law_same" "_law_same" dX ["_law_found","_law_due_here"] a_law_same d_law_same)(G_law_same:aw P w K mg base aJ 1 a_law_same d_law_same ["_law_found","_law_due_here"] (aO dY)):
 aw P w K mg base aJ 8 f fd ["_law_source_here"] (aO fD):=
 cD (N:=gR) F.fn cw (fun cdv A outer s H E hr=>(ao (aR cw.nd (ak.l 1) (bp fW av (bg D_law_take G_law_take (hr.mono (by decide)) (aa (ak.nm 0) (aa av ai)) (ak.d 0) (ak.g 0))))
  (ao (eH (cV (mE hr) (cx _) (bg D_law_take G_law_take (hr.mono (by decide)) (aa (ak.nm 0) (aa av ai)) (ak.d 0) (ak.g 0)) av) (aE (aR cw.nd (ak.l 1) (bp fW av (bg D_law_take G_law_take (hr.mono (by decide)) (aa (ak.nm 0) (aa av ai)) (ak.d 0) (ak.g 0))))) dU)
  (ao (Eu cw.nd (ak.l 2) (d7 (Nc:=["_law_k","_law_source_here"]) (br.look (af cg) ["_law_source_here","_law_wide","_law_numbers","_law_form_here","_law_row_here","_law_due_here","_law_number_here","_law_one","_law_own"] (by decide+kernel)) (dM (ak.g 1) B.dA (aa (ak.nm 1) ai)) (fun _ _ _ _=>(de (show(["_law_k","_law_source_here"]:List Str).Nodup by decide+kernel) (by first|exact Or.inl rfl|exact Or.inr rfl) (by first|exact .inl rfl|exact .inr rfl))) (fun _ _ _ _=>cF) (fun _ _ _ _=>(bp fW av (bg D_law_take G_law_take (hr.mono (by decide)) (aa cP (aa av ai)) (by decide+kernel) rfl))) cy))
  (ao (o7 cw.nd (ak.l 3) (Nc:=["_law_i","_law_wide","_law_numbers"]) (br.look (af cg) ["_law_source_here","_law_wide","_law_numbers","_law_form_here","_law_row_here","_law_due_here","_law_number_here","_law_one","_law_own"] (by decide+kernel)) (dM (ak.g 1) B.dA (aa (ak.nm 1) ai)) (fun _ _ _ _=>(de (show(["_law_i","_law_wide","_law_numbers"]:List Str).Nodup by decide+kernel) (by first|exact Or.inl rfl|exact Or.inr rfl) (by first|exact .inl rfl|exact .inr rfl))) (fun _ _ _ _=>cF) (fun _ _ _ _=>(eO ft (aa (d7 (Nc:=["_law_j","_law_numbers","_law_i"]) (br.Iq (by decide+kernel)) (dM rfl B.dA (aa cP ai)) (fun _ _ _ _=>(de (show(["_law_j","_law_numbers","_law_i"]:List Str).Nodup by decide+kernel) (by first|exact Or.inl rfl|exact Or.inr rfl) (by first|exact .inl rfl|exact .inr rfl))) (fun _ _ _ _=>cF) (fun _ _ _ _=>(bp dy (bA cP cP) (eO Cw (aa (uo (mE hr) (cx _) cP cP) ai) B.yC rfl vR (by decide+kernel) rfl))) cy) ai) B.fw rfl eD (by decide+kernel) rfl)) cy)
  (ao (aR cw.nd (ak.l 4) (bg D_law_row G_law_row (hr.mono (by decide)) (aa (ak.nm 0) (aa (ak.nm 1) ai)) (ak.d 2) (ak.g 2)))
  (ao (aR cw.nd (ak.l 5) av)
  (ao (fy (pq (ak.g 3) B.ph (aa (ak.nm 2) (aa (ak.nm 4) ai))) (mi rfl cw.nd (by first|exact Or.inl rfl|exact Or.inr rfl) (by first|exact .inl rfl|exact .inr rfl) (by first|exact Or.inl rfl|exact Or.inr rfl) (by first|exact .inl rfl|exact .inr rfl)) (ao (aR cw.nd (ak.l 8) (bp ji (ak.nm 6) (bg D_law_common G_law_common (hr.mono (by decide)) (aa (ak.nm 6) (aa (ak.nm 7) ai)) (ak.d 4) (ak.g 4))))
  (aE (aR cw.nd (ak.l 5) (bp dy (bp ji (ak.nm 5) (bg D_law_common G_law_common (hr.mono (by decide)) (aa (ak.nm 5) (aa (ak.nm 8) ai)) (ak.d 4) (ak.g 4))) (ak.nm 8))))))
  (aE (bx (bg D_law_same G_law_same (hr.mono (by decide)) (aa (bg D_rest_order G_rest_order (hr.mono (by decide)) (aa (bg D_law_turned G_law_turned (hr.mono (by decide)) (aa (ak.nm 0) (aa (ak.nm 3) ai)) (ak.d 5) (ak.g 5)) (aa (ak.nm 4) ai)) (ak.d 6) (ak.g 6)) (aa (ak.nm 5) ai)) (ak.d 7) (ak.g 7)))))))))))) pK
noncomputable abbrev cm:Stmt:=top 33
theorem aM:VS (af cm) fI ["len","any","rest_order","_law_same"]:=⟨by decide+kernel⟩
theorem gT:bo fI ["_law_row_here"] (af cm):=⟨rfl,rfl,rfl,by decide+kernel,rfl,by decide+kernel,by decide+kernel⟩
theorem nF{f:Addr}{fd:FuncData}(B:Bl mg)(Q:Kl K mg)(F:aB K mg "_law_noughts_right" "_law_noughts_right" cm ["_law_row_here"] f fd){a_rest_order:Addr}{d_rest_order:FuncData}(D_rest_order:aB K mg "rest_order" "rest_order" cQ ["rows","row"] a_rest_order d_rest_order)(G_rest_order:aw P w K mg base aJ 7 a_rest_order d_rest_order ["rows","row"] (aO cZ)){a_law_same:Addr}{d_law_same:FuncData}(D_law_same:aB K mg "_law_same" "_law_same" dX ["_law_found","_law_due_here"] a_law_same d_law_same)(G_law_same:aw P w K mg base aJ 1 a_law_same d_law_same ["_law_found","_law_due_here"] (aO dY)):
 aw P w K mg base aJ 8 f fd ["_law_row_here"] (aO eB):=
 cD (N:=fI) F.fn gT (fun cdv A outer s H E hr=>(ao (aR gT.nd (aM.l 1) (dP fL (aa (aM.nm 0) ai) B.fJ rfl d_ (aM.d 0) (aM.g 0)))
  (ao (aR gT.nd (aM.l 2) (xY (kc (dP (Aq rfl) (aa (aM.nm 0) ai) B.CT rfl zJ (aM.d 1) (aM.g 1))) m6 av))
  (ao (eH (mW (kc (bg D_law_same G_law_same (hr.mono (by decide)) (aa (bg D_rest_order G_rest_order (hr.mono (by decide)) (aa (iH (aa (bp dy (iH (aa av ai)) (aM.nm 1)) ai)) (aa (aM.nm 0) ai)) (aM.d 2) (aM.g 2)) (aa (aM.nm 2) ai)) (aM.d 3) (aM.g 3)))) (aE (bx oZ)) dU)
  (aE (bx (bg D_law_same G_law_same (hr.mono (by decide)) (aa (bg D_rest_order G_rest_order (hr.mono (by decide)) (aa (iH (aa (bp dy (iH (aa av ai)) (aM.nm 1)) ai)) (aa (bp dy (iH (aa av ai)) (aM.nm 1)) ai)) (aM.d 2) (aM.g 2)) (aa av ai)) (aM.d 3) (aM.g 3)))))))) nB
noncomputable abbrev gn:Stmt:=top 34
theorem aQ:VS (af gn) uu ["range","_law_source","_law_standing","len","_law_row","_law_take","zip","tuple","list","_law_due","rest_order","_law_same","_law_number","abs","max","_law_common","_law_grid_right","_law_noughts_right"]:=⟨by decide+kernel⟩
theorem jn:bo uu ["_law_script"] (af gn):=⟨rfl,rfl,rfl,by decide+kernel,rfl,by decide+kernel,by decide+kernel⟩
theorem Ho{f:Addr}{fd:FuncData}(B:Bl mg)(Q:Kl K mg)(F:aB K mg "law" "law" gn ["_law_script"] f fd){a_law_source:Addr}{d_law_source:FuncData}(D_law_source:aB K mg "_law_source" "_law_source" dZ ["_law_script","_law_k"] a_law_source d_law_source)(G_law_source:aw P w K mg base aJ 1 a_law_source d_law_source ["_law_script","_law_k"] (aO iu)){a_law_standing:Addr}{d_law_standing:FuncData}(D_law_standing:aB K mg "_law_standing" "_law_standing" dq ["_law_source_here","_law_most"] a_law_standing d_law_standing)(G_law_standing:aw P w K mg base aJ 3 a_law_standing d_law_standing ["_law_source_here","_law_most"] (aO gv)){a_law_row:Addr}{d_law_row:FuncData}(D_law_row:aB K mg "_law_row" "_law_row" eN ["_law_source_here","_law_wide"] a_law_row d_law_row)(G_law_row:aw P w K mg base aJ 3 a_law_row d_law_row ["_law_source_here","_law_wide"] (aO ij)){a_law_take:Addr}{d_law_take:FuncData}(D_law_take:aB K mg "_law_take" "_law_take" cL ["_law_source_here","_law_many"] a_law_take d_law_take)(G_law_take:aw P w K mg base aJ 1 a_law_take d_law_take ["_law_source_here","_law_many"] (aO aW)){a_law_due:Addr}{d_law_due:FuncData}(D_law_due:aB K mg "_law_due" "_law_due" eX ["_law_form_here","_law_row_here"] a_law_due d_law_due)(G_law_due:aw P w K mg base aJ 2 a_law_due d_law_due ["_law_form_here","_law_row_here"] (aO j_)){a_rest_order:Addr}{d_rest_order:FuncData}(D_rest_order:aB K mg "rest_order" "rest_order" cQ ["rows","row"] a_rest_order d_rest_order)(G_rest_order:aw P w K mg base aJ 7 a_rest_order d_rest_order ["rows","row"] (aO cZ)){a_law_same:Addr}{d_law_same:FuncData}(D_law_same:aB K mg "_law_same" "_law_same" dX ["_law_found","_law_due_here"] a_law_same d_law_same)(G_law_same:aw P w K mg base aJ 1 a_law_same d_law_same ["_law_found","_law_due_here"] (aO dY)){a_law_number:Addr}{d_law_number:FuncData}(D_law_number:aB K mg "_law_number" "_law_number" dE ["_law_source_here"] a_law_number d_law_number)(G_law_number:aw P w K mg base aJ 2 a_law_number d_law_number ["_law_source_here"] (aO eR)){a_law_common:Addr}{d_law_common:FuncData}(D_law_common:aB K mg "_law_common" "_law_common" cC ["_law_one","_law_other"] a_law_common d_law_common)(G_law_common:aw P w K mg base aJ 1 a_law_common d_law_common ["_law_one","_law_other"] (aO eW)){a_law_grid_right:Addr}{d_law_grid_right:FuncData}(D_law_grid_right:aB K mg "_law_grid_right" "_law_grid_right" cg ["_law_source_here"] a_law_grid_right d_law_grid_right)(G_law_grid_right:aw P w K mg base aJ 8 a_law_grid_right d_law_grid_right ["_law_source_here"] (aO fD)){a_law_noughts_right:Addr}{d_law_noughts_right:FuncData}(D_law_noughts_right:aB K mg "_law_noughts_right" "_law_noughts_right" cm ["_law_row_here"] a_law_noughts_right d_law_noughts_right)(G_law_noughts_right:aw P w K mg base aJ 8 a_law_noughts_right d_law_noughts_right ["_law_row_here"] (aO eB)):
 aw P w K mg base aJ 9 f fd ["_law_script"] (aO yV):=
 cD (N:=uu) F.fn jn (fun cdv A outer s H E hr=>(ao (fy (dM (aQ.g 0) B.dA (aa av ai)) (de jn.nd (by first|exact Or.inl rfl|exact Or.inr rfl) (by first|exact .inl rfl|exact .inr rfl)) (ao (aR jn.nd (aQ.l 2) (bg D_law_source G_law_source (hr.mono (by decide)) (aa (aQ.nm 0) (aa (aQ.nm 1) ai)) (aQ.d 1) (aQ.g 1)))
  (ao (Hx (bg D_law_standing G_law_standing (hr.mono (by decide)) (aa (aQ.nm 2) (aa av ai)) (aQ.d 2) (aQ.g 2)) (mi rfl jn.nd (by first|exact Or.inl rfl|exact Or.inr rfl) (by first|exact .inl rfl|exact .inr rfl) (by first|exact Or.inl rfl|exact Or.inr rfl) (by first|exact .inl rfl|exact .inr rfl)))
  (ao (aR jn.nd (aQ.l 5) (bg D_law_row G_law_row (hr.mono (by decide)) (aa (aQ.nm 2) (aa (dP fL (aa (bA (aQ.nm 3) av) ai) B.fJ rfl d_ (aQ.d 3) (aQ.g 3)) ai)) (aQ.d 4) (aQ.g 4)))
  (ao (eH (cV (mE hr) (cx _) (bg D_law_take G_law_take (hr.mono (by decide)) (aa (aQ.nm 2) (aa av ai)) (aQ.d 5) (aQ.g 5)) av) (aE (aR jn.nd (aQ.l 5) (eO ft (aa (d7 (Nc:=["_law_a","_law_b"]) (br.look (af gn) ["_law_script","_law_k","_law_source_here","_law_form_here","_law_rows","_law_row_here","_law_handed","_law_one","_law_other"] (by decide+kernel)) (pq (aQ.g 6) B.ph (aa (bA (aQ.nm 3) av) (aa (bA (aQ.nm 3) (j4 av)) ai))) (fun _ _ _ _=>(mi rfl (show(["_law_a","_law_b"]:List Str).Nodup by decide+kernel) (by first|exact Or.inl rfl|exact Or.inr rfl) (by first|exact .inl rfl|exact .inr rfl) (by first|exact Or.inl rfl|exact Or.inr rfl) (by first|exact .inl rfl|exact .inr rfl))) (fun _ _ _ _=>cF) (fun _ _ _ _=>(bp rB (bp dy av cP) cP)) mF) ai) B.fw rfl eD (aQ.d 7) (aQ.g 7)))) dU)
  (ao (aR jn.nd (aQ.l 6) (iH (aa (d7 (Nc:=["_law_one"]) (br.look (af gn) ["_law_script","_law_k","_law_source_here","_law_form_here","_law_rows","_law_row_here","_law_handed","_law_one","_law_other"] (by decide+kernel)) (fX (aQ.nm 4)) (fun _ _ _ _=>(de (show(["_law_one"]:List Str).Nodup by decide+kernel) (by first|exact Or.inl rfl|exact Or.inr rfl) (by first|exact .inl rfl|exact .inr rfl))) (fun _ _ _ _=>cF) (fun _ _ _ _=>(eO iR (aa cP ai) B.iy rfl gB (by decide+kernel) rfl)) cy) (aa (eO iR (aa (aQ.nm 5) ai) B.iy rfl gB (aQ.d 8) (aQ.g 8)) ai))))
  (ao (eH (mW (kc (bg D_law_same G_law_same (hr.mono (by decide)) (aa (bg D_rest_order G_rest_order (hr.mono (by decide)) (aa (bA (aQ.nm 6) av) (aa (bA (aQ.nm 6) av) ai)) (aQ.d 10) (aQ.g 10)) (aa (bg D_law_due G_law_due (hr.mono (by decide)) (aa (aQ.nm 3) (aa (aQ.nm 5) ai)) (aQ.d 9) (aQ.g 9)) ai)) (aQ.d 11) (aQ.g 11)))) (aE (bx oZ)) dU)
  (ao (eH (cV (H_ hr) (cx _) (aQ.nm 6) (iH (aa (d7 (Nc:=["_law_one"]) (br.look (af gn) ["_law_script","_law_k","_law_source_here","_law_form_here","_law_rows","_law_row_here","_law_handed","_law_one","_law_other"] (by decide+kernel)) (fX (aQ.nm 4)) (fun _ _ _ _=>(de (show(["_law_one"]:List Str).Nodup by decide+kernel) (by first|exact Or.inl rfl|exact Or.inr rfl) (by first|exact .inl rfl|exact .inr rfl))) (fun _ _ _ _=>cF) (fun _ _ _ _=>(eO iR (aa cP ai) B.iy rfl gB (by decide+kernel) rfl)) cy) (aa (eO iR (aa (aQ.nm 5) ai) B.iy rfl gB (aQ.d 8) (aQ.g 8)) ai)))) (aE (bx oZ)) dU)
  (ao (vE jn.nd (by decide) (show(af gn).names.lookup ("_law_one":Str)=some .local by decide+kernel) (show(af gn).names.lookup ("_law_other":Str)=some .local by decide+kernel) (aa (bg D_law_number G_law_number (hr.mono (by decide)) (aa (aQ.nm 2) ai) (aQ.d 12) (aQ.g 12)) (aa (bg D_law_number G_law_number (hr.mono (by decide)) (aa (aQ.nm 2) ai) (aQ.d 12) (aQ.g 12)) ai)))
  (ao (aR jn.nd (aQ.l 7) (dP (C7 rfl) (aa av (aa (dP pD (aa (aQ.nm 7) ai) B.pv rfl m4 (aQ.d 13) (aQ.g 13)) ai)) B.Cu rfl ze (aQ.d 14) (aQ.g 14)))
  (ao (eH (mW (kc (bg D_law_same G_law_same (hr.mono (by decide)) (aa (bg D_rest_order G_rest_order (hr.mono (by decide)) (aa (iH (aa (iH (aa (aQ.nm 7) ai)) ai)) (aa (iH (aa (aQ.nm 8) ai)) ai)) (aQ.d 10) (aQ.g 10)) (aa (bp ji (aQ.nm 7) (bg D_law_common G_law_common (hr.mono (by decide)) (aa (aQ.nm 7) (aa (aQ.nm 8) ai)) (aQ.d 15) (aQ.g 15))) ai)) (aQ.d 11) (aQ.g 11)))) (aE (bx oZ)) dU)
  (aE (eH (CH (Jd (mW (kc (bg D_law_grid_right G_law_grid_right (hr.mono (by decide)) (aa (aQ.nm 2) ai) (aQ.d 16) (aQ.g 16)))) (FN (mW (kc (bg D_law_noughts_right G_law_noughts_right (hr.mono (by decide)) (aa (aQ.nm 5) ai) (aQ.d 17) (aQ.g 17))))))) (aE (bx oZ)) dU)))))))))))))
  (aE (bx oZ)))) Fz
end
theorem all_mk{l:PySem.W.OpenLaw}{w:World}{K:PySem.W.Frag}{h:Heap}{mg:Str→Option Value}{fa:Addr}(X:K.In h)(G:h.Ns mainGlobals mg)(hfa:mg "law"=some (.ref fa))
 {od0 an0:Option Addr} {sl0:Array (Option Value)} {oc0 kV0 dc0 pm0 cd0 ct0:Value} {f0:Addr}
 {od1 an1:Option Addr} {sl1:Array (Option Value)} {oc1 kV1 dc1 pm1 cd1 ct1:Value} {f1:Addr}
 {od2 an2:Option Addr} {sl2:Array (Option Value)} {oc2 kV2 dc2 pm2 cd2 ct2:Value} {f2:Addr}
 {od3 an3:Option Addr} {sl3:Array (Option Value)} {oc3 kV3 dc3 pm3 cd3 ct3:Value} {f3:Addr}
 {od4 an4:Option Addr} {sl4:Array (Option Value)} {oc4 kV4 dc4 pm4 cd4 ct4:Value} {f4:Addr}
 {od5 an5:Option Addr} {sl5:Array (Option Value)} {oc5 kV5 dc5 pm5 cd5 ct5:Value} {f5:Addr}
 {od6 an6:Option Addr} {sl6:Array (Option Value)} {oc6 kV6 dc6 pm6 cd6 ct6:Value} {f6:Addr}
 {od7 an7:Option Addr} {sl7:Array (Option Value)} {oc7 kV7 dc7 pm7 cd7 ct7:Value} {f7:Addr}
 {od8 an8:Option Addr} {sl8:Array (Option Value)} {oc8 kV8 dc8 pm8 cd8 ct8:Value} {f8:Addr}
 {od9 an9:Option Addr} {sl9:Array (Option Value)} {oc9 kV9 dc9 pm9 cd9 ct9:Value} {f9:Addr}
 {od10 an10:Option Addr} {sl10:Array (Option Value)} {oc10 kV10 dc10 pm10 cd10 ct10:Value} {f10:Addr}
 {od11 an11:Option Addr} {sl11:Array (Option Value)} {oc11 kV11 dc11 pm11 cd11 ct11:Value} {f11:Addr}
 {od12 an12:Option Addr} {sl12:Array (Option Value)} {oc12 kV12 dc12 pm12 cd12 ct12:Value} {f12:Addr}
 {od13 an13:Option Addr} {sl13:Array (Option Value)} {oc13 kV13 dc13 pm13 cd13 ct13:Value} {f13:Addr}
 {od14 an14:Option Addr} {sl14:Array (Option Value)} {oc14 kV14 dc14 pm14 ct14:Value} {f14:Addr}
 {od15 an15:Option Addr} {sl15:Array (Option Value)} {oc15 kV15 dc15 pm15 cd15 ct15:Value} {f15:Addr}
 {od16 an16:Option Addr} {sl16:Array (Option Value)} {oc16 kV16 dc16 pm16 cd16 ct16:Value} {f16:Addr}
 {od17 an17:Option Addr} {sl17:Array (Option Value)} {oc17 kV17 dc17 pm17 cd17 ct17:Value} {f17:Addr}
 {od18 an18:Option Addr} {sl18:Array (Option Value)} {oc18 kV18 dc18 pm18 cd18 ct18:Value} {f18:Addr}
 {od19 an19:Option Addr} {sl19:Array (Option Value)} {oc19 kV19 dc19 pm19 cd19 ct19:Value} {f19:Addr}
 {od20 an20:Option Addr} {sl20:Array (Option Value)} {oc20 kV20 dc20 pm20 cd20 ct20:Value} {f20:Addr}
 {od21 an21:Option Addr} {sl21:Array (Option Value)} {oc21 kV21 dc21 pm21 cd21 ct21:Value} {f21:Addr}
 {od22 an22:Option Addr} {sl22:Array (Option Value)} {oc22 kV22 dc22 pm22 cd22 ct22:Value} {f22:Addr}
 {od23 an23:Option Addr} {sl23:Array (Option Value)} {oc23 kV23 dc23 pm23 cd23 ct23:Value} {f23:Addr}
 {od24 an24:Option Addr} {sl24:Array (Option Value)} {oc24 kV24 dc24 pm24 cd24 ct24:Value} {f24:Addr}
 {od25 an25:Option Addr} {sl25:Array (Option Value)} {oc25 kV25 dc25 pm25 cd25 ct25:Value} {f25:Addr}
 {od26 an26:Option Addr} {sl26:Array (Option Value)} {oc26 kV26 dc26 pm26 cd26 ct26:Value} {f26:Addr}
 {od27 an27:Option Addr} {sl27:Array (Option Value)} {oc27 kV27 dc27 pm27 cd27 ct27:Value} {f27:Addr}
 {od28 an28:Option Addr} {sl28:Array (Option Value)} {oc28 kV28 dc28 pm28 cd28 ct28:Value} {f28:Addr}
 {od29 an29:Option Addr} {sl29:Array (Option Value)} {oc29 kV29 dc29 pm29 cd29 ct29:Value} {f29:Addr}
 {od30 an30:Option Addr} {sl30:Array (Option Value)} {oc30 kV30 dc30 pm30 cd30 ct30:Value} {f30:Addr}
 {od31 an31:Option Addr} {sl31:Array (Option Value)} {oc31 kV31 dc31 pm31 cd31 ct31:Value} {f31:Addr}
 {od32 an32:Option Addr} {sl32:Array (Option Value)} {oc32 kV32 dc32 pm32 cd32 ct32:Value} {f32:Addr}
 {od33 an33:Option Addr} {sl33:Array (Option Value)} {oc33 kV33 dc33 pm33 cd33 ct33:Value} {f33:Addr}
 {od34 an34:Option Addr} {sl34:Array (Option Value)} {oc34 kV34 dc34 pm34 cd34 ct34:Value} {f34:Addr}
 {od35 an35:Option Addr} {sl35:Array (Option Value)} {oc35 kV35 dc35 pm35 cd35 ct35:Value} {f35:Addr}
 (a0:PySem.W.nsIn K mainGlobals "as_rows"=some (some (.ref f0))) (l0:K.lookup f0=some ⟨oc0,od0,.func (PySem.W.fnOf "as_rows" "as_rows" (bh fq) (aY fq) (af fq) .none kV0 dc0 pm0 an0 cd0 ct0),sl0⟩) (c0:PySem.W.codeIn K cd0 "as_rows"=true) (k0:PySem.W.keepIn K (.ref f0)=true)
 (a1:PySem.W.nsIn K mainGlobals "added"=some (some (.ref f1))) (l1:K.lookup f1=some ⟨oc1,od1,.func (PySem.W.fnOf "added" "added" (bh gI) (aY gI) (af gI) .none kV1 dc1 pm1 an1 cd1 ct1),sl1⟩) (c1:PySem.W.codeIn K cd1 "added"=true) (k1:PySem.W.keepIn K (.ref f1)=true)
 (a2:PySem.W.nsIn K mainGlobals "column"=some (some (.ref f2))) (l2:K.lookup f2=some ⟨oc2,od2,.func (PySem.W.fnOf "column" "column" (bh gd) (aY gd) (af gd) .none kV2 dc2 pm2 an2 cd2 ct2),sl2⟩) (c2:PySem.W.codeIn K cd2 "column"=true) (k2:PySem.W.keepIn K (.ref f2)=true)
 (a3:PySem.W.nsIn K mainGlobals "turned_over"=some (some (.ref f3))) (l3:K.lookup f3=some ⟨oc3,od3,.func (PySem.W.fnOf "turned_over" "turned_over" (bh dg) (aY dg) (af dg) .none kV3 dc3 pm3 an3 cd3 ct3),sl3⟩) (c3:PySem.W.codeIn K cd3 "turned_over"=true) (k3:PySem.W.keepIn K (.ref f3)=true)
 (a4:PySem.W.nsIn K mainGlobals "unit_row"=some (some (.ref f4))) (l4:K.lookup f4=some ⟨oc4,od4,.func (PySem.W.fnOf "unit_row" "unit_row" (bh eG) (aY eG) (af eG) .none kV4 dc4 pm4 an4 cd4 ct4),sl4⟩) (c4:PySem.W.codeIn K cd4 "unit_row"=true) (k4:PySem.W.keepIn K (.ref f4)=true)
 (a5:PySem.W.nsIn K mainGlobals "unit_rows"=some (some (.ref f5))) (l5:K.lookup f5=some ⟨oc5,od5,.func (PySem.W.fnOf "unit_rows" "unit_rows" (bh dS) (aY dS) (af dS) .none kV5 dc5 pm5 an5 cd5 ct5),sl5⟩) (c5:PySem.W.codeIn K cd5 "unit_rows"=true) (k5:PySem.W.keepIn K (.ref f5)=true)
 (a6:PySem.W.nsIn K mainGlobals "lead_of"=some (some (.ref f6))) (l6:K.lookup f6=some ⟨oc6,od6,.func (PySem.W.fnOf "lead_of" "lead_of" (bh fU) (aY fU) (af fU) .none kV6 dc6 pm6 an6 cd6 ct6),sl6⟩) (c6:PySem.W.codeIn K cd6 "lead_of"=true) (k6:PySem.W.keepIn K (.ref f6)=true)
 (a7:PySem.W.nsIn K mainGlobals "nearest_quotient"=some (some (.ref f7))) (l7:K.lookup f7=some ⟨oc7,od7,.func (PySem.W.fnOf "nearest_quotient" "nearest_quotient" (bh cz) (aY cz) (af cz) .none kV7 dc7 pm7 an7 cd7 ct7),sl7⟩) (c7:PySem.W.codeIn K cd7 "nearest_quotient"=true) (k7:PySem.W.keepIn K (.ref f7)=true)
 (a8:PySem.W.nsIn K mainGlobals "exchanged"=some (some (.ref f8))) (l8:K.lookup f8=some ⟨oc8,od8,.func (PySem.W.fnOf "exchanged" "exchanged" (bh eL) (aY eL) (af eL) .none kV8 dc8 pm8 an8 cd8 ct8),sl8⟩) (c8:PySem.W.codeIn K cd8 "exchanged"=true) (k8:PySem.W.keepIn K (.ref f8)=true)
 (a9:PySem.W.nsIn K mainGlobals "negated"=some (some (.ref f9))) (l9:K.lookup f9=some ⟨oc9,od9,.func (PySem.W.fnOf "negated" "negated" (bh fo) (aY fo) (af fo) .none kV9 dc9 pm9 an9 cd9 ct9),sl9⟩) (c9:PySem.W.codeIn K cd9 "negated"=true) (k9:PySem.W.keepIn K (.ref f9)=true)
 (a10:PySem.W.findIn K (.ref aq) "__init__"=some (some (.ref f10))) (i10:PySem.W.isFn K (.ref f10)=true) (l10:K.lookup f10=some ⟨oc10,od10,.func (PySem.W.fnOf "__init__" "Bench.__init__" (bh bX) (aY bX) (af bX) .none kV10 dc10 pm10 an10 cd10 ct10),sl10⟩) (c10:PySem.W.codeIn K cd10 "Bench.__init__"=true) (k10:PySem.W.keepIn K (.ref f10)=true)
 (a11:PySem.W.findIn K (.ref aq) "take"=some (some (.ref f11))) (i11:PySem.W.isFn K (.ref f11)=true) (l11:K.lookup f11=some ⟨oc11,od11,.func (PySem.W.fnOf "take" "Bench.take" (bh dF) (aY dF) (af dF) .none kV11 dc11 pm11 an11 cd11 ct11),sl11⟩) (c11:PySem.W.codeIn K cd11 "Bench.take"=true) (k11:PySem.W.keepIn K (.ref f11)=true)
 (a12:PySem.W.findIn K (.ref aq) "exchange"=some (some (.ref f12))) (i12:PySem.W.isFn K (.ref f12)=true) (l12:K.lookup f12=some ⟨oc12,od12,.func (PySem.W.fnOf "exchange" "Bench.exchange" (bh cM) (aY cM) (af cM) .none kV12 dc12 pm12 an12 cd12 ct12),sl12⟩) (c12:PySem.W.codeIn K cd12 "Bench.exchange"=true) (k12:PySem.W.keepIn K (.ref f12)=true)
 (a13:PySem.W.findIn K (.ref aq) "change_sign"=some (some (.ref f13))) (i13:PySem.W.isFn K (.ref f13)=true) (l13:K.lookup f13=some ⟨oc13,od13,.func (PySem.W.fnOf "change_sign" "Bench.change_sign" (bh cn) (aY cn) (af cn) .none kV13 dc13 pm13 an13 cd13 ct13),sl13⟩) (c13:PySem.W.codeIn K cd13 "Bench.change_sign"=true) (k13:PySem.W.keepIn K (.ref f13)=true)
 (a14:PySem.W.findIn K (.ref aq) "live_rows"=some (some (.ref f14))) (i14:PySem.W.isFn K (.ref f14)=true) (l14:K.lookup f14=some ⟨oc14,od14,.func (PySem.W.fnOf "live_rows" "Bench.live_rows" (bh bP) (aY bP) (af bP) .none kV14 dc14 pm14 an14 (.ref 107) ct14),sl14⟩) (c14:PySem.W.codeIn K (.ref 107) "Bench.live_rows"=true) (k14:PySem.W.keepIn K (.ref f14)=true)
 (hC14:PySem.W.codeHdIn K 107 105=true)
 (a15:PySem.W.findIn K (.ref aq) "gather"=some (some (.ref f15))) (i15:PySem.W.isFn K (.ref f15)=true) (l15:K.lookup f15=some ⟨oc15,od15,.func (PySem.W.fnOf "gather" "Bench.gather" (bh di) (aY di) (af di) .none kV15 dc15 pm15 an15 cd15 ct15),sl15⟩) (c15:PySem.W.codeIn K cd15 "Bench.gather"=true) (k15:PySem.W.keepIn K (.ref f15)=true)
 (a16:PySem.W.findIn K (.ref aq) "lower_above"=some (some (.ref f16))) (i16:PySem.W.isFn K (.ref f16)=true) (l16:K.lookup f16=some ⟨oc16,od16,.func (PySem.W.fnOf "lower_above" "Bench.lower_above" (bh cq) (aY cq) (af cq) .none kV16 dc16 pm16 an16 cd16 ct16),sl16⟩) (c16:PySem.W.codeIn K cd16 "Bench.lower_above"=true) (k16:PySem.W.keepIn K (.ref f16)=true)
 (a17:PySem.W.nsIn K mainGlobals "standing"=some (some (.ref f17))) (l17:K.lookup f17=some ⟨oc17,od17,.func (PySem.W.fnOf "standing" "standing" (bh fh) (aY fh) (af fh) .none kV17 dc17 pm17 an17 cd17 ct17),sl17⟩) (c17:PySem.W.codeIn K cd17 "standing"=true) (k17:PySem.W.keepIn K (.ref f17)=true)
 (a18:PySem.W.nsIn K mainGlobals "common"=some (some (.ref f18))) (l18:K.lookup f18=some ⟨oc18,od18,.func (PySem.W.fnOf "common" "common" (bh gY) (aY gY) (af gY) .none kV18 dc18 pm18 an18 cd18 ct18),sl18⟩) (c18:PySem.W.codeIn K cd18 "common"=true) (k18:PySem.W.keepIn K (.ref f18)=true)
 (a19:PySem.W.nsIn K mainGlobals "form_of"=some (some (.ref f19))) (l19:K.lookup f19=some ⟨oc19,od19,.func (PySem.W.fnOf "form_of" "form_of" (bh fV) (aY fV) (af fV) .none kV19 dc19 pm19 an19 cd19 ct19),sl19⟩) (c19:PySem.W.codeIn K cd19 "form_of"=true) (k19:PySem.W.keepIn K (.ref f19)=true)
 (a20:PySem.W.nsIn K mainGlobals "rest_order"=some (some (.ref f20))) (l20:K.lookup f20=some ⟨oc20,od20,.func (PySem.W.fnOf "rest_order" "rest_order" (bh cQ) (aY cQ) (af cQ) .none kV20 dc20 pm20 an20 cd20 ct20),sl20⟩) (c20:PySem.W.codeIn K cd20 "rest_order"=true) (k20:PySem.W.keepIn K (.ref f20)=true)
 (a21:PySem.W.nsIn K mainGlobals "_law_source"=some (some (.ref f21))) (l21:K.lookup f21=some ⟨oc21,od21,.func (PySem.W.fnOf "_law_source" "_law_source" (bh dZ) (aY dZ) (af dZ) .none kV21 dc21 pm21 an21 cd21 ct21),sl21⟩) (c21:PySem.W.codeIn K cd21 "_law_source"=true) (k21:PySem.W.keepIn K (.ref f21)=true)
 (a22:PySem.W.nsIn K mainGlobals "_law_take"=some (some (.ref f22))) (l22:K.lookup f22=some ⟨oc22,od22,.func (PySem.W.fnOf "_law_take" "_law_take" (bh cL) (aY cL) (af cL) .none kV22 dc22 pm22 an22 cd22 ct22),sl22⟩) (c22:PySem.W.codeIn K cd22 "_law_take"=true) (k22:PySem.W.keepIn K (.ref f22)=true)
 (a23:PySem.W.nsIn K mainGlobals "_law_number"=some (some (.ref f23))) (l23:K.lookup f23=some ⟨oc23,od23,.func (PySem.W.fnOf "_law_number" "_law_number" (bh dE) (aY dE) (af dE) .none kV23 dc23 pm23 an23 cd23 ct23),sl23⟩) (c23:PySem.W.codeIn K cd23 "_law_number"=true) (k23:PySem.W.keepIn K (.ref f23)=true)
 (a24:PySem.W.nsIn K mainGlobals "_law_common"=some (some (.ref f24))) (l24:K.lookup f24=some ⟨oc24,od24,.func (PySem.W.fnOf "_law_common" "_law_common" (bh cC) (aY cC) (af cC) .none kV24 dc24 pm24 an24 cd24 ct24),sl24⟩) (c24:PySem.W.codeIn K cd24 "_law_common"=true) (k24:PySem.W.keepIn K (.ref f24)=true)
 (a25:PySem.W.nsIn K mainGlobals "_law_turned"=some (some (.ref f25))) (l25:K.lookup f25=some ⟨oc25,od25,.func (PySem.W.fnOf "_law_turned" "_law_turned" (bh cA) (aY cA) (af cA) .none kV25 dc25 pm25 an25 cd25 ct25),sl25⟩) (c25:PySem.W.codeIn K cd25 "_law_turned"=true) (k25:PySem.W.keepIn K (.ref f25)=true)
 (a26:PySem.W.nsIn K mainGlobals "_law_form"=some (some (.ref f26))) (l26:K.lookup f26=some ⟨oc26,od26,.func (PySem.W.fnOf "_law_form" "_law_form" (bh fi) (aY fi) (af fi) .none kV26 dc26 pm26 an26 cd26 ct26),sl26⟩) (c26:PySem.W.codeIn K cd26 "_law_form"=true) (k26:PySem.W.keepIn K (.ref f26)=true)
 (a27:PySem.W.nsIn K mainGlobals "_law_fall"=some (some (.ref f27))) (l27:K.lookup f27=some ⟨oc27,od27,.func (PySem.W.fnOf "_law_fall" "_law_fall" (bh dW) (aY dW) (af dW) .none kV27 dc27 pm27 an27 cd27 ct27),sl27⟩) (c27:PySem.W.codeIn K cd27 "_law_fall"=true) (k27:PySem.W.keepIn K (.ref f27)=true)
 (a28:PySem.W.nsIn K mainGlobals "_law_leads"=some (some (.ref f28))) (l28:K.lookup f28=some ⟨oc28,od28,.func (PySem.W.fnOf "_law_leads" "_law_leads" (bh eJ) (aY eJ) (af eJ) .none kV28 dc28 pm28 an28 cd28 ct28),sl28⟩) (c28:PySem.W.codeIn K cd28 "_law_leads"=true) (k28:PySem.W.keepIn K (.ref f28)=true)
 (a29:PySem.W.nsIn K mainGlobals "_law_standing"=some (some (.ref f29))) (l29:K.lookup f29=some ⟨oc29,od29,.func (PySem.W.fnOf "_law_standing" "_law_standing" (bh dq) (aY dq) (af dq) .none kV29 dc29 pm29 an29 cd29 ct29),sl29⟩) (c29:PySem.W.codeIn K cd29 "_law_standing"=true) (k29:PySem.W.keepIn K (.ref f29)=true)
 (a30:PySem.W.nsIn K mainGlobals "_law_row"=some (some (.ref f30))) (l30:K.lookup f30=some ⟨oc30,od30,.func (PySem.W.fnOf "_law_row" "_law_row" (bh eN) (aY eN) (af eN) .none kV30 dc30 pm30 an30 cd30 ct30),sl30⟩) (c30:PySem.W.codeIn K cd30 "_law_row"=true) (k30:PySem.W.keepIn K (.ref f30)=true)
 (a31:PySem.W.nsIn K mainGlobals "_law_due"=some (some (.ref f31))) (l31:K.lookup f31=some ⟨oc31,od31,.func (PySem.W.fnOf "_law_due" "_law_due" (bh eX) (aY eX) (af eX) .none kV31 dc31 pm31 an31 cd31 ct31),sl31⟩) (c31:PySem.W.codeIn K cd31 "_law_due"=true) (k31:PySem.W.keepIn K (.ref f31)=true)
 (a32:PySem.W.nsIn K mainGlobals "_law_same"=some (some (.ref f32))) (l32:K.lookup f32=some ⟨oc32,od32,.func (PySem.W.fnOf "_law_same" "_law_same" (bh dX) (aY dX) (af dX) .none kV32 dc32 pm32 an32 cd32 ct32),sl32⟩) (c32:PySem.W.codeIn K cd32 "_law_same"=true) (k32:PySem.W.keepIn K (.ref f32)=true)
 (a33:PySem.W.nsIn K mainGlobals "_law_grid_right"=some (some (.ref f33))) (l33:K.lookup f33=some ⟨oc33,od33,.func (PySem.W.fnOf "_law_grid_right" "_law_grid_right" (bh cg) (aY cg) (af cg) .none kV33 dc33 pm33 an33 cd33 ct33),sl33⟩) (c33:PySem.W.codeIn K cd33 "_law_grid_right"=true) (k33:PySem.W.keepIn K (.ref f33)=true)
 (a34:PySem.W.nsIn K mainGlobals "_law_noughts_right"=some (some (.ref f34))) (l34:K.lookup f34=some ⟨oc34,od34,.func (PySem.W.fnOf "_law_noughts_right" "_law_noughts_right" (bh cm) (aY cm) (af cm) .none kV34 dc34 pm34 an34 cd34 ct34),sl34⟩) (c34:PySem.W.codeIn K cd34 "_law_noughts_right"=true) (k34:PySem.W.keepIn K (.ref f34)=true)
 (a35:PySem.W.nsIn K mainGlobals "law"=some (some (.ref f35))) (l35:K.lookup f35=some ⟨oc35,od35,.func (PySem.W.fnOf "law" "law" (bh gn) (aY gn) (af gn) .none kV35 dc35 pm35 an35 cd35 ct35),sl35⟩) (c35:PySem.W.codeIn K cd35 "law"=true) (k35:PySem.W.keepIn K (.ref f35)=true)
 (z_tuple:PySem.W.nsIn K mainGlobals "tuple"=some none)
 (z_zip:PySem.W.nsIn K mainGlobals "zip"=some none)
 (z_range:PySem.W.nsIn K mainGlobals "range"=some none)
 (z_enumerate:PySem.W.nsIn K mainGlobals "enumerate"=some none)
 (z_list:PySem.W.nsIn K mainGlobals "list"=some none)
 (z_len:PySem.W.nsIn K mainGlobals "len"=some none)
 (z_abs:PySem.W.nsIn K mainGlobals "abs"=some none)
 (z_sorted:PySem.W.nsIn K mainGlobals "sorted"=some none)
 (z_int:PySem.W.nsIn K mainGlobals "int"=some none)
 (z_max:PySem.W.nsIn K mainGlobals "max"=some none)
 (z_min:PySem.W.nsIn K mainGlobals "min"=some none)
 (z_any:PySem.W.nsIn K mainGlobals "any"=some none)
 (z_isinstance:PySem.W.nsIn K mainGlobals "isinstance"=some none)
 (z_bool:PySem.W.nsIn K mainGlobals "bool"=some none)
 (ca_Bench:PySem.W.nsIn K mainGlobals "Bench"=some (some (.ref aq))) (cb_Bench:PySem.W.plainGet K aq Str.empty=true) (cc_Bench:PySem.W.hasDictIn K aq=true) (cd_Bench:PySem.W.plainOver K aq=true) (ce_Bench:PySem.W.findIn K (.ref aq) "__setattr__"=some (some (.builtin "object.__setattr__"))) (cf_Bench:PySem.W.makesIn K aq=true) (cg_Bench:PySem.W.keepIn K (.ref aq)=true)
 (bD:PySem.W.findIn K (.ref aq) "body"=some none)
 (cR:PySem.W.findIn K (.ref aq) "turn"=some none)
 (bC:PySem.W.findIn K (.ref aq) "back_columns"=some none)
 (nl:vn K=true):
 ∃fd:FuncData,(∀(s:Shared) (v:Value),BindsTo s fd ⟨[v],[]⟩ [("_law_script",v)])∧∀base:Heap,K.In base→base.Ns mainGlobals mg→aw l.prog w K mg base aJ 9 fa fd ["_law_script"] (qT K [(107,105)]):=by
 have e:=hfa.symm.trans (PySem.W.mg_of X G a35)
 cases e
 have B:Bl mg:=⟨PySem.W.mg_none_of X G z_tuple,PySem.W.mg_none_of X G z_zip,PySem.W.mg_none_of X G z_range,PySem.W.mg_none_of X G z_enumerate,PySem.W.mg_none_of X G z_list,PySem.W.mg_none_of X G z_len,PySem.W.mg_none_of X G z_abs,PySem.W.mg_none_of X G z_sorted,PySem.W.mg_none_of X G z_int,PySem.W.mg_none_of X G z_max,PySem.W.mg_none_of X G z_min,PySem.W.mg_none_of X G z_any,PySem.W.mg_none_of X G z_isinstance,PySem.W.mg_none_of X G z_bool⟩
 have Q:Kl K mg:=⟨⟨⟨cb_Bench,cc_Bench,cd_Bench,ce_Bench⟩,PySem.W.mg_of X G ca_Bench,cf_Bench,cg_Bench⟩,bD,cR,bC⟩
 have F0:=bO (st:=fq) l0 c0 k0
 have D0:aB K mg "as_rows" "as_rows" fq ["rows"] f0 _:=⟨F0,PySem.W.mg_of X G a0,pY F0 fun _ _ _ _ _ _ _=>rfl⟩
 have F1:=bO (st:=gI) l1 c1 k1
 have D1:aB K mg "added" "added" gI ["row","times","other"] f1 _:=⟨F1,PySem.W.mg_of X G a1,xG F1 fun _ _ _ _ _ _ _ _ _=>rfl⟩
 have F2:=bO (st:=gd) l2 c2 k2
 have D2:aB K mg "column" "column" gd ["rows","place"] f2 _:=⟨F2,PySem.W.mg_of X G a2,jF F2 fun _ _ _ _ _ _ _ _=>rfl⟩
 have F3:=bO (st:=dg) l3 c3 k3
 have D3:aB K mg "turned_over" "turned_over" dg ["rows","wide"] f3 _:=⟨F3,PySem.W.mg_of X G a3,jF F3 fun _ _ _ _ _ _ _ _=>rfl⟩
 have F4:=bO (st:=eG) l4 c4 k4
 have D4:aB K mg "unit_row" "unit_row" eG ["n","place"] f4 _:=⟨F4,PySem.W.mg_of X G a4,jF F4 fun _ _ _ _ _ _ _ _=>rfl⟩
 have F5:=bO (st:=dS) l5 c5 k5
 have D5:aB K mg "unit_rows" "unit_rows" dS ["n"] f5 _:=⟨F5,PySem.W.mg_of X G a5,pY F5 fun _ _ _ _ _ _ _=>rfl⟩
 have F6:=bO (st:=fU) l6 c6 k6
 have D6:aB K mg "lead_of" "lead_of" fU ["row"] f6 _:=⟨F6,PySem.W.mg_of X G a6,pY F6 fun _ _ _ _ _ _ _=>rfl⟩
 have F7:=bO (st:=cz) l7 c7 k7
 have D7:aB K mg "nearest_quotient" "nearest_quotient" cz ["top","bottom"] f7 _:=⟨F7,PySem.W.mg_of X G a7,jF F7 fun _ _ _ _ _ _ _ _=>rfl⟩
 have F8:=bO (st:=eL) l8 c8 k8
 have D8:aB K mg "exchanged" "exchanged" eL ["rows","k","other"] f8 _:=⟨F8,PySem.W.mg_of X G a8,xG F8 fun _ _ _ _ _ _ _ _ _=>rfl⟩
 have F9:=bO (st:=fo) l9 c9 k9
 have D9:aB K mg "negated" "negated" fo ["row"] f9 _:=⟨F9,PySem.W.mg_of X G a9,pY F9 fun _ _ _ _ _ _ _=>rfl⟩
 have F10:=bO (st:=bX) l10 c10 k10
 have D10:MethAt K aq "__init__" "Bench.__init__" bX ["self","rows"] f10 _:=⟨F10,⟨a10,i10,k10⟩,jF F10 fun _ _ _ _ _ _ _ _=>rfl⟩
 have F11:=bO (st:=dF) l11 c11 k11
 have D11:MethAt K aq "take" "Bench.take" dF ["self","k","times","other"] f11 _:=⟨F11,⟨a11,i11,k11⟩,KL F11 fun _ _ _ _ _ _ _ _ _ _=>rfl⟩
 have F12:=bO (st:=cM) l12 c12 k12
 have D12:MethAt K aq "exchange" "Bench.exchange" cM ["self","k","other"] f12 _:=⟨F12,⟨a12,i12,k12⟩,xG F12 fun _ _ _ _ _ _ _ _ _=>rfl⟩
 have F13:=bO (st:=cn) l13 c13 k13
 have D13:MethAt K aq "change_sign" "Bench.change_sign" cn ["self","k"] f13 _:=⟨F13,⟨a13,i13,k13⟩,jF F13 fun _ _ _ _ _ _ _ _=>rfl⟩
 have F14:=bO (st:=bP) l14 c14 k14
 have D14:MethAt K aq "live_rows" "Bench.live_rows" bP ["self","top","place"] f14 _:=⟨F14,⟨a14,i14,k14⟩,xG F14 fun _ _ _ _ _ _ _ _ _=>rfl⟩
 have F15:=bO (st:=di) l15 c15 k15
 have D15:MethAt K aq "gather" "Bench.gather" di ["self","top","place"] f15 _:=⟨F15,⟨a15,i15,k15⟩,xG F15 fun _ _ _ _ _ _ _ _ _=>rfl⟩
 have F16:=bO (st:=cq) l16 c16 k16
 have D16:MethAt K aq "lower_above" "Bench.lower_above" cq ["self","top","place"] f16 _:=⟨F16,⟨a16,i16,k16⟩,xG F16 fun _ _ _ _ _ _ _ _ _=>rfl⟩
 have F17:=bO (st:=fh) l17 c17 k17
 have D17:aB K mg "standing" "standing" fh ["rows"] f17 _:=⟨F17,PySem.W.mg_of X G a17,pY F17 fun _ _ _ _ _ _ _=>rfl⟩
 have F18:=bO (st:=gY) l18 c18 k18
 have D18:aB K mg "common" "common" gY ["one","other"] f18 _:=⟨F18,PySem.W.mg_of X G a18,jF F18 fun _ _ _ _ _ _ _ _=>rfl⟩
 have F19:=bO (st:=fV) l19 c19 k19
 have D19:aB K mg "form_of" "form_of" fV ["rows"] f19 _:=⟨F19,PySem.W.mg_of X G a19,pY F19 fun _ _ _ _ _ _ _=>rfl⟩
 have F20:=bO (st:=cQ) l20 c20 k20
 have D20:aB K mg "rest_order" "rest_order" cQ ["rows","row"] f20 _:=⟨F20,PySem.W.mg_of X G a20,jF F20 fun _ _ _ _ _ _ _ _=>rfl⟩
 have F21:=bO (st:=dZ) l21 c21 k21
 have D21:aB K mg "_law_source" "_law_source" dZ ["_law_script","_law_k"] f21 _:=⟨F21,PySem.W.mg_of X G a21,jF F21 fun _ _ _ _ _ _ _ _=>rfl⟩
 have F22:=bO (st:=cL) l22 c22 k22
 have D22:aB K mg "_law_take" "_law_take" cL ["_law_source_here","_law_many"] f22 _:=⟨F22,PySem.W.mg_of X G a22,jF F22 fun _ _ _ _ _ _ _ _=>rfl⟩
 have F23:=bO (st:=dE) l23 c23 k23
 have D23:aB K mg "_law_number" "_law_number" dE ["_law_source_here"] f23 _:=⟨F23,PySem.W.mg_of X G a23,pY F23 fun _ _ _ _ _ _ _=>rfl⟩
 have F24:=bO (st:=cC) l24 c24 k24
 have D24:aB K mg "_law_common" "_law_common" cC ["_law_one","_law_other"] f24 _:=⟨F24,PySem.W.mg_of X G a24,jF F24 fun _ _ _ _ _ _ _ _=>rfl⟩
 have F25:=bO (st:=cA) l25 c25 k25
 have D25:aB K mg "_law_turned" "_law_turned" cA ["_law_source_here","_law_rows"] f25 _:=⟨F25,PySem.W.mg_of X G a25,jF F25 fun _ _ _ _ _ _ _ _=>rfl⟩
 have F26:=bO (st:=fi) l26 c26 k26
 have D26:aB K mg "_law_form" "_law_form" fi ["_law_source_here","_law_leads_here"] f26 _:=⟨F26,PySem.W.mg_of X G a26,jF F26 fun _ _ _ _ _ _ _ _=>rfl⟩
 have F27:=bO (st:=dW) l27 c27 k27
 have D27:aB K mg "_law_fall" "_law_fall" dW ["_law_form_here","_law_row_here"] f27 _:=⟨F27,PySem.W.mg_of X G a27,jF F27 fun _ _ _ _ _ _ _ _=>rfl⟩
 have F28:=bO (st:=eJ) l28 c28 k28
 have D28:aB K mg "_law_leads" "_law_leads" eJ ["_law_source_here","_law_most"] f28 _:=⟨F28,PySem.W.mg_of X G a28,jF F28 fun _ _ _ _ _ _ _ _=>rfl⟩
 have F29:=bO (st:=dq) l29 c29 k29
 have D29:aB K mg "_law_standing" "_law_standing" dq ["_law_source_here","_law_most"] f29 _:=⟨F29,PySem.W.mg_of X G a29,jF F29 fun _ _ _ _ _ _ _ _=>rfl⟩
 have F30:=bO (st:=eN) l30 c30 k30
 have D30:aB K mg "_law_row" "_law_row" eN ["_law_source_here","_law_wide"] f30 _:=⟨F30,PySem.W.mg_of X G a30,jF F30 fun _ _ _ _ _ _ _ _=>rfl⟩
 have F31:=bO (st:=eX) l31 c31 k31
 have D31:aB K mg "_law_due" "_law_due" eX ["_law_form_here","_law_row_here"] f31 _:=⟨F31,PySem.W.mg_of X G a31,jF F31 fun _ _ _ _ _ _ _ _=>rfl⟩
 have F32:=bO (st:=dX) l32 c32 k32
 have D32:aB K mg "_law_same" "_law_same" dX ["_law_found","_law_due_here"] f32 _:=⟨F32,PySem.W.mg_of X G a32,jF F32 fun _ _ _ _ _ _ _ _=>rfl⟩
 have F33:=bO (st:=cg) l33 c33 k33
 have D33:aB K mg "_law_grid_right" "_law_grid_right" cg ["_law_source_here"] f33 _:=⟨F33,PySem.W.mg_of X G a33,pY F33 fun _ _ _ _ _ _ _=>rfl⟩
 have F34:=bO (st:=cm) l34 c34 k34
 have D34:aB K mg "_law_noughts_right" "_law_noughts_right" cm ["_law_row_here"] f34 _:=⟨F34,PySem.W.mg_of X G a34,pY F34 fun _ _ _ _ _ _ _=>rfl⟩
 have F35:=bO (st:=gn) l35 c35 k35
 have D35:aB K mg "law" "law" gn ["_law_script"] fa _:=⟨F35,PySem.W.mg_of X G a35,pY F35 fun _ _ _ _ _ _ _=>rfl⟩
 refine⟨PySem.W.fnOf "law" "law" (bh gn) (aY gn) (af gn) .none kV35 dc35 pm35 an35 cd35 ct35,fun s v=> .of_eq rfl,fun base _ _=>?_⟩
 have G0:aw l.prog w K mg base aJ 1 f0 _ ["rows"] (aO je):=x8 B Q D0
 have G1:aw l.prog w K mg base aJ 1 f1 _ ["row","times","other"] (aO iC):=AV B Q D1
 have G2:aw l.prog w K mg base aJ 1 f2 _ ["rows","place"] (aO lQ):=Ae B Q D2
 have G3:aw l.prog w K mg base aJ 2 f3 _ ["rows","wide"] (aO g6):=sG B Q D3 D2 G2
 have G4:aw l.prog w K mg base aJ 1 f4 _ ["n","place"] (aO jj):=wL B Q D4
 have G5:aw l.prog w K mg base aJ 2 f5 _ ["n"] (aO g8):=u0 B Q D5 D4 G4
 have G6:aw l.prog w K mg base aJ 1 f6 _ ["row"] (aO i7):=xS B Q D6
 have G7:aw l.prog w K mg base aJ 1 f7 _ ["top","bottom"] (aO eS):=nW B Q D7
 have G8:aw l.prog w K mg base aJ 1 f8 _ ["rows","k","other"] (aO gc):=ve B Q D8
 have G9:aw l.prog w K mg base aJ 1 f9 _ ["row"] (aO iq):=x5 B Q D9
 have G10:aw l.prog w K mg base aJ 3 f10 _ ["self","rows"] (aO fB):=pH B Q D10 D5 G5
 have G11:aw l.prog w K mg base aJ 2 f11 _ ["self","k","times","other"] (aO fA):=tP B Q D11 D1 G1
 have G12:aw l.prog w K mg base aJ 2 f12 _ ["self","k","other"] (aO fz):=pP B Q D12 D8 G8
 have G13:aw l.prog w K mg base aJ 2 f13 _ ["self","k"] (aO eh):=nr B Q D13 D9 G9
 have G14:aw l.prog w K mg base aJ 3 f14 _ ["self","top","place"] (aO d9):=oz B Q D14 ⟨⟨_,_,_,_,_,_,_,_,rfl,l14,c14⟩⟩ hC14
 have G15:aw l.prog w K mg base aJ 4 f15 _ ["self","top","place"] (aO gE):=rf B Q D15 D14 G14 D7 G7 D11 G11 D12 G12 D13 G13
 have G16:aw l.prog w K mg base aJ 3 f16 _ ["self","top","place"] (aO eg):=nv B Q D16 D11 G11
 have G17:aw l.prog w K mg base aJ 5 f17 _ ["rows"] (aO jE):=wK B Q D17 D10 G10 D15 G15 D16 G16 D3 G3 D0 G0
 have G18:aw l.prog w K mg base aJ 1 f18 _ ["one","other"] (aO lK):=y_ B Q D18
 have G19:aw l.prog w K mg base aJ 6 f19 _ ["rows"] (aO kq):=yb B Q D19 D17 G17
 have G20:aw l.prog w K mg base aJ 7 f20 _ ["rows","row"] (aO cZ):=tT B Q D20 D19 G19 D6 G6 D18 G18 D1 G1
 have G21:aw l.prog w K mg base aJ 1 f21 _ ["_law_script","_law_k"] (aO iu):=tW B Q D21
 have G22:aw l.prog w K mg base aJ 1 f22 _ ["_law_source_here","_law_many"] (aO aW):=we B Q D22
 have G23:aw l.prog w K mg base aJ 2 f23 _ ["_law_source_here"] (aO eR):=tY B Q D23 D22 G22
 have G24:aw l.prog w K mg base aJ 1 f24 _ ["_law_one","_law_other"] (aO eW):=tQ B Q D24
 have G25:aw l.prog w K mg base aJ 2 f25 _ ["_law_source_here","_law_rows"] (aO fx):=tX B Q D25 D22 G22
 have G26:aw l.prog w K mg base aJ 2 f26 _ ["_law_source_here","_law_leads_here"] (aO jC):=wm B Q D26 D22 G22
 have G27:aw l.prog w K mg base aJ 1 f27 _ ["_law_form_here","_law_row_here"] (aO iF):=wC B Q D27
 have G28:aw l.prog w K mg base aJ 2 f28 _ ["_law_source_here","_law_most"] (aO iU):=vo B Q D28 D22 G22
 have G29:aw l.prog w K mg base aJ 3 f29 _ ["_law_source_here","_law_most"] (aO gv):=q_ B Q D29 D28 G28 D26 G26 D22 G22 D25 G25
 have G30:aw l.prog w K mg base aJ 3 f30 _ ["_law_source_here","_law_wide"] (aO ij):=yn B Q D30 D23 G23
 have G31:aw l.prog w K mg base aJ 2 f31 _ ["_law_form_here","_law_row_here"] (aO j_):=xQ B Q D31 D27 G27
 have G32:aw l.prog w K mg base aJ 1 f32 _ ["_law_found","_law_due_here"] (aO dY):=wG B Q D32
 have G33:aw l.prog w K mg base aJ 8 f33 _ ["_law_source_here"] (aO fD):=pE B Q D33 D22 G22 D30 G30 D24 G24 D25 G25 D20 G20 D32 G32
 have G34:aw l.prog w K mg base aJ 8 f34 _ ["_law_row_here"] (aO eB):=nF B Q D34 D20 G20 D32 G32
 have G35:aw l.prog w K mg base aJ 9 fa _ ["_law_script"] (aO yV):=Ho B Q D35 D21 G21 D29 G29 D30 G30 D22 G22 D31 G31 D20 G20 D32 G32 D23 G23 D24 G24 D33 G33 D34 G34
 exact G35.imp fun vs H Q E h=>zp (tl:=[(105,⟨53,32,53,66⟩,"Bench.live_rows.<locals>.<lambda>")]) nl rfl (by decide) h
theorem walk{l:PySem.W.OpenLaw}{q:Program}{loose:List Str}{XP:(Str→Option Value)→Heap→Prop}{YP:World→Heap→Prop}{d:DefRec}{K:Params→PySem.W.Frag}(hn:l.most=some 63)(hdf:d.params.defaults=[])(hq:importsNone q=true)(hgt:l.prog.given.tree=none)
 (hY:∀(w:World) (h:Heap),YP w h→(K w.params).In h∧Cb (K w.params) [(107,105)] h)
 (F:∀(w:World) (mg:Str→Option Value) (fa:Addr) (h:Heap),(K w.params).In h→h.Ns mainGlobals mg→mg d.name=some (.ref fa)→
   ∃fd:FuncData,(∀(s:Shared) (u:Value),BindsTo s fd ⟨[u],[]⟩ [("_law_script",u)])∧∀base:Heap,(K w.params).In base→base.Ns mainGlobals mg→aw l.prog w (K w.params) mg base aJ 9 fa fd ["_law_script"] (qT (K w.params) [(107,105)])):
 PySem.W.WalkO q loose XP YP l.row.toRowW d [] (fun f vs=>PySem.call f vs):=
 L2.Ij (n:=63) (k:=9) (x:="_law_script") (ts:=[(107,105)]) (sp:=fun w=>qT (K w.params) [(107,105)]) hn (by decide) hdf ⟨rfl,by decide,by decide⟩ hq hgt hY F fun _ _ a ns hl hE=>⟨a,ns,rfl,hE,hl,fun _=>rfl⟩
end Row
open PySem PySem.W PyProof.Rows PySem.W.X PySem.W.ZRun
set_option maxRecDepth 100000 in
set_option maxHeartbeats 0 in
theorem PySem.Challenge.cw_latticeworks_k28_how_often_it_comes_roun_holds : PySem.Challenge.rw_latticeworks_k28_how_often_it_comes_roun.Holds := by
 w_on;o_law;z_head;(case hw=>w_witness2)
 k_fill
 have TB:∀w:World,L2.Tb (PySem.Challenge.cw_latticeworks_k28_how_often_it_comes_roun_holds.heap_278 w.params) 105:=fun w=>⟨by kernel_rfl⟩
 refine' L2.BO (K0:=PySem.Challenge.cw_latticeworks_k28_how_often_it_comes_roun_holds.heap_278) ?m ?y
 case y=>
  intro w s0 s1 args vals as y L
  z_open y L KX ZH ZN ZT
  exact KX
 refine Row.walk (l:=PySem.Challenge.rw_latticeworks_k28_how_often_it_comes_roun) (K:=fun P=>L2.gw 105 (PySem.Challenge.cw_latticeworks_k28_how_often_it_comes_roun_holds.heap_278 P)) rfl rfl (by first|rfl|kernel_rfl|decide+kernel) rfl (fun w h Y=>⟨L2.GF Y,⟨(fun q hq=>by rcases List.mem_cons.mp hq with rfl|hq;exact(TB w).hd (by first|kernel_rfl|k_is);cases hq),(fun q hq=>by rcases List.mem_cons.mp hq with rfl|hq;exact L2.uP _ _;cases hq),(fun q hq=>by rcases List.mem_cons.mp hq with rfl|hq;exact Y _ _ (TB w).ob;cases hq)⟩⟩) ?F
 case F=>
  intro w mg fa h KX G hmg
  refine' Row.all_mk KX G hmg ?a0 ?l0 ?c0 ?k0 ?a1 ?l1 ?c1 ?k1 ?a2 ?l2 ?c2 ?k2 ?a3 ?l3 ?c3 ?k3 ?a4 ?l4 ?c4 ?k4 ?a5 ?l5 ?c5 ?k5 ?a6 ?l6 ?c6 ?k6 ?a7 ?l7 ?c7 ?k7 ?a8 ?l8 ?c8 ?k8 ?a9 ?l9 ?c9 ?k9 ?a10 ?i10 ?l10 ?c10 ?k10 ?a11 ?i11 ?l11 ?c11 ?k11 ?a12 ?i12 ?l12 ?c12 ?k12 ?a13 ?i13 ?l13 ?c13 ?k13 ?a14 ?i14 ?l14 ?c14 ?k14 ?hC14 ?a15 ?i15 ?l15 ?c15 ?k15 ?a16 ?i16 ?l16 ?c16 ?k16 ?a17 ?l17 ?c17 ?k17 ?a18 ?l18 ?c18 ?k18 ?a19 ?l19 ?c19 ?k19 ?a20 ?l20 ?c20 ?k20 ?a21 ?l21 ?c21 ?k21 ?a22 ?l22 ?c22 ?k22 ?a23 ?l23 ?c23 ?k23 ?a24 ?l24 ?c24 ?k24 ?a25 ?l25 ?c25 ?k25 ?a26 ?l26 ?c26 ?k26 ?a27 ?l27 ?c27 ?k27 ?a28 ?l28 ?c28 ?k28 ?a29 ?l29 ?c29 ?k29 ?a30 ?l30 ?c30 ?k30 ?a31 ?l31 ?c31 ?k31 ?a32 ?l32 ?c32 ?k32 ?a33 ?l33 ?c33 ?k33 ?a34 ?l34 ?c34 ?k34 ?a35 ?l35 ?c35 ?k35 ?z_tuple ?z_zip ?z_range ?z_enumerate ?z_list ?z_len ?z_abs ?z_sorted ?z_int ?z_max ?z_min ?z_any ?z_isinstance ?z_bool ?ca_Bench ?cb_Bench ?cc_Bench ?cd_Bench ?ce_Bench ?cf_Bench ?cg_Bench ?bD ?cR ?bC ?nl
  (case a0=>refine L2.Tb.ns (TB w) ?_;k_is)
  (case l0=>refine L2.Tb.lk (TB w) (by k_is) (by intro z;cases z))
  (case c0=>refine L2.Tb.code (TB w) ?_;k_is)
  (case k0=>refine L2.Tb.keep (TB w) ?_;k_is)
  (case a1=>refine L2.Tb.ns (TB w) ?_;k_is)
  (case l1=>refine L2.Tb.lk (TB w) (by k_is) (by intro z;cases z))
  (case c1=>refine L2.Tb.code (TB w) ?_;k_is)
  (case k1=>refine L2.Tb.keep (TB w) ?_;k_is)
  (case a2=>refine L2.Tb.ns (TB w) ?_;k_is)
  (case l2=>refine L2.Tb.lk (TB w) (by k_is) (by intro z;cases z))
  (case c2=>refine L2.Tb.code (TB w) ?_;k_is)
  (case k2=>refine L2.Tb.keep (TB w) ?_;k_is)
  (case a3=>refine L2.Tb.ns (TB w) ?_;k_is)
  (case l3=>refine L2.Tb.lk (TB w) (by k_is) (by intro z;cases z))
  (case c3=>refine L2.Tb.code (TB w) ?_;k_is)
  (case k3=>refine L2.Tb.keep (TB w) ?_;k_is)
  (case a4=>refine L2.Tb.ns (TB w) ?_;k_is)
  (case l4=>refine L2.Tb.lk (TB w) (by k_is) (by intro z;cases z))
  (case c4=>refine L2.Tb.code (TB w) ?_;k_is)
  (case k4=>refine L2.Tb.keep (TB w) ?_;k_is)
  (case a5=>refine L2.Tb.ns (TB w) ?_;k_is)
  (case l5=>refine L2.Tb.lk (TB w) (by k_is) (by intro z;cases z))
  (case c5=>refine L2.Tb.code (TB w) ?_;k_is)
  (case k5=>refine L2.Tb.keep (TB w) ?_;k_is)
  (case a6=>refine L2.Tb.ns (TB w) ?_;k_is)
  (case l6=>refine L2.Tb.lk (TB w) (by k_is) (by intro z;cases z))
  (case c6=>refine L2.Tb.code (TB w) ?_;k_is)
  (case k6=>refine L2.Tb.keep (TB w) ?_;k_is)
  (case a7=>refine L2.Tb.ns (TB w) ?_;k_is)
  (case l7=>refine L2.Tb.lk (TB w) (by k_is) (by intro z;cases z))
  (case c7=>refine L2.Tb.code (TB w) ?_;k_is)
  (case k7=>refine L2.Tb.keep (TB w) ?_;k_is)
  (case a8=>refine L2.Tb.ns (TB w) ?_;k_is)
  (case l8=>refine L2.Tb.lk (TB w) (by k_is) (by intro z;cases z))
  (case c8=>refine L2.Tb.code (TB w) ?_;k_is)
  (case k8=>refine L2.Tb.keep (TB w) ?_;k_is)
  (case a9=>refine L2.Tb.ns (TB w) ?_;k_is)
  (case l9=>refine L2.Tb.lk (TB w) (by k_is) (by intro z;cases z))
  (case c9=>refine L2.Tb.code (TB w) ?_;k_is)
  (case k9=>refine L2.Tb.keep (TB w) ?_;k_is)
  (case a10=>refine L2.Tb.find (TB w) ?_;k_is)
  (case i10=>refine L2.Tb.fn (TB w) ?_;k_is)
  (case l10=>refine L2.Tb.lk (TB w) (by k_is) (by intro z;cases z))
  (case c10=>refine L2.Tb.code (TB w) ?_;k_is)
  (case k10=>refine L2.Tb.keep (TB w) ?_;k_is)
  (case a11=>refine L2.Tb.find (TB w) ?_;k_is)
  (case i11=>refine L2.Tb.fn (TB w) ?_;k_is)
  (case l11=>refine L2.Tb.lk (TB w) (by k_is) (by intro z;cases z))
  (case c11=>refine L2.Tb.code (TB w) ?_;k_is)
  (case k11=>refine L2.Tb.keep (TB w) ?_;k_is)
  (case a12=>refine L2.Tb.find (TB w) ?_;k_is)
  (case i12=>refine L2.Tb.fn (TB w) ?_;k_is)
  (case l12=>refine L2.Tb.lk (TB w) (by k_is) (by intro z;cases z))
  (case c12=>refine L2.Tb.code (TB w) ?_;k_is)
  (case k12=>refine L2.Tb.keep (TB w) ?_;k_is)
  (case a13=>refine L2.Tb.find (TB w) ?_;k_is)
  (case i13=>refine L2.Tb.fn (TB w) ?_;k_is)
  (case l13=>refine L2.Tb.lk (TB w) (by k_is) (by intro z;cases z))
  (case c13=>refine L2.Tb.code (TB w) ?_;k_is)
  (case k13=>refine L2.Tb.keep (TB w) ?_;k_is)
  (case a14=>refine L2.Tb.find (TB w) ?_;k_is)
  (case i14=>refine L2.Tb.fn (TB w) ?_;k_is)
  (case l14=>refine L2.Tb.lk (TB w) (by k_is) (by intro z;cases z))
  (case c14=>refine L2.Tb.code (TB w) ?_;k_is)
  (case k14=>refine L2.Tb.keep (TB w) ?_;k_is)
  (case hC14=>first|kernel_rfl|k_is)
  (case a15=>refine L2.Tb.find (TB w) ?_;k_is)
  (case i15=>refine L2.Tb.fn (TB w) ?_;k_is)
  (case l15=>refine L2.Tb.lk (TB w) (by k_is) (by intro z;cases z))
  (case c15=>refine L2.Tb.code (TB w) ?_;k_is)
  (case k15=>refine L2.Tb.keep (TB w) ?_;k_is)
  (case a16=>refine L2.Tb.find (TB w) ?_;k_is)
  (case i16=>refine L2.Tb.fn (TB w) ?_;k_is)
  (case l16=>refine L2.Tb.lk (TB w) (by k_is) (by intro z;cases z))
  (case c16=>refine L2.Tb.code (TB w) ?_;k_is)
  (case k16=>refine L2.Tb.keep (TB w) ?_;k_is)
  (case a17=>refine L2.Tb.ns (TB w) ?_;k_is)
  (case l17=>refine L2.Tb.lk (TB w) (by k_is) (by intro z;cases z))
  (case c17=>refine L2.Tb.code (TB w) ?_;k_is)
  (case k17=>refine L2.Tb.keep (TB w) ?_;k_is)
  (case a18=>refine L2.Tb.ns (TB w) ?_;k_is)
  (case l18=>refine L2.Tb.lk (TB w) (by k_is) (by intro z;cases z))
  (case c18=>refine L2.Tb.code (TB w) ?_;k_is)
  (case k18=>refine L2.Tb.keep (TB w) ?_;k_is)
  (case a19=>refine L2.Tb.ns (TB w) ?_;k_is)
  (case l19=>refine L2.Tb.lk (TB w) (by k_is) (by intro z;cases z))
  (case c19=>refine L2.Tb.code (TB w) ?_;k_is)
  (case k19=>refine L2.Tb.keep (TB w) ?_;k_is)
  (case a20=>refine L2.Tb.ns (TB w) ?_;k_is)
  (case l20=>refine L2.Tb.lk (TB w) (by k_is) (by intro z;cases z))
  (case c20=>refine L2.Tb.code (TB w) ?_;k_is)
  (case k20=>refine L2.Tb.keep (TB w) ?_;k_is)
  (case a21=>refine L2.Tb.ns (TB w) ?_;k_is)
  (case l21=>refine L2.Tb.lk (TB w) (by k_is) (by intro z;cases z))
  (case c21=>refine L2.Tb.code (TB w) ?_;k_is)
  (case k21=>refine L2.Tb.keep (TB w) ?_;k_is)
  (case a22=>refine L2.Tb.ns (TB w) ?_;k_is)
  (case l22=>refine L2.Tb.lk (TB w) (by k_is) (by intro z;cases z))
  (case c22=>refine L2.Tb.code (TB w) ?_;k_is)
  (case k22=>refine L2.Tb.keep (TB w) ?_;k_is)
  (case a23=>refine L2.Tb.ns (TB w) ?_;k_is)
  (case l23=>refine L2.Tb.lk (TB w) (by k_is) (by intro z;cases z))
  (case c23=>refine L2.Tb.code (TB w) ?_;k_is)
  (case k23=>refine L2.Tb.keep (TB w) ?_;k_is)
  (case a24=>refine L2.Tb.ns (TB w) ?_;k_is)
  (case l24=>refine L2.Tb.lk (TB w) (by k_is) (by intro z;cases z))
  (case c24=>refine L2.Tb.code (TB w) ?_;k_is)
  (case k24=>refine L2.Tb.keep (TB w) ?_;k_is)
  (case a25=>refine L2.Tb.ns (TB w) ?_;k_is)
  (case l25=>refine L2.Tb.lk (TB w) (by k_is) (by intro z;cases z))
  (case c25=>refine L2.Tb.code (TB w) ?_;k_is)
  (case k25=>refine L2.Tb.keep (TB w) ?_;k_is)
  (case a26=>refine L2.Tb.ns (TB w) ?_;k_is)
  (case l26=>refine L2.Tb.lk (TB w) (by k_is) (by intro z;cases z))
  (case c26=>refine L2.Tb.code (TB w) ?_;k_is)
  (case k26=>refine L2.Tb.keep (TB w) ?_;k_is)
  (case a27=>refine L2.Tb.ns (TB w) ?_;k_is)
  (case l27=>refine L2.Tb.lk (TB w) (by k_is) (by intro z;cases z))
  (case c27=>refine L2.Tb.code (TB w) ?_;k_is)
  (case k27=>refine L2.Tb.keep (TB w) ?_;k_is)
  (case a28=>refine L2.Tb.ns (TB w) ?_;k_is)
  (case l28=>refine L2.Tb.lk (TB w) (by k_is) (by intro z;cases z))
  (case c28=>refine L2.Tb.code (TB w) ?_;k_is)
  (case k28=>refine L2.Tb.keep (TB w) ?_;k_is)
  (case a29=>refine L2.Tb.ns (TB w) ?_;k_is)
  (case l29=>refine L2.Tb.lk (TB w) (by k_is) (by intro z;cases z))
  (case c29=>refine L2.Tb.code (TB w) ?_;k_is)
  (case k29=>refine L2.Tb.keep (TB w) ?_;k_is)
  (case a30=>refine L2.Tb.ns (TB w) ?_;k_is)
  (case l30=>refine L2.Tb.lk (TB w) (by k_is) (by intro z;cases z))
  (case c30=>refine L2.Tb.code (TB w) ?_;k_is)
  (case k30=>refine L2.Tb.keep (TB w) ?_;k_is)
  (case a31=>refine L2.Tb.ns (TB w) ?_;k_is)
  (case l31=>refine L2.Tb.lk (TB w) (by k_is) (by intro z;cases z))
  (case c31=>refine L2.Tb.code (TB w) ?_;k_is)
  (case k31=>refine L2.Tb.keep (TB w) ?_;k_is)
  (case a32=>refine L2.Tb.ns (TB w) ?_;k_is)
  (case l32=>refine L2.Tb.lk (TB w) (by k_is) (by intro z;cases z))
  (case c32=>refine L2.Tb.code (TB w) ?_;k_is)
  (case k32=>refine L2.Tb.keep (TB w) ?_;k_is)
  (case a33=>refine L2.Tb.ns (TB w) ?_;k_is)
  (case l33=>refine L2.Tb.lk (TB w) (by k_is) (by intro z;cases z))
  (case c33=>refine L2.Tb.code (TB w) ?_;k_is)
  (case k33=>refine L2.Tb.keep (TB w) ?_;k_is)
  (case a34=>refine L2.Tb.ns (TB w) ?_;k_is)
  (case l34=>refine L2.Tb.lk (TB w) (by k_is) (by intro z;cases z))
  (case c34=>refine L2.Tb.code (TB w) ?_;k_is)
  (case k34=>refine L2.Tb.keep (TB w) ?_;k_is)
  (case a35=>refine L2.Tb.ns (TB w) ?_;k_is)
  (case l35=>refine L2.Tb.lk (TB w) (by k_is) (by intro z;cases z))
  (case c35=>refine L2.Tb.code (TB w) ?_;k_is)
  (case k35=>refine L2.Tb.keep (TB w) ?_;k_is)
  (case z_tuple=>refine L2.Tb.ns (TB w) ?_;k_is)
  (case z_zip=>refine L2.Tb.ns (TB w) ?_;k_is)
  (case z_range=>refine L2.Tb.ns (TB w) ?_;k_is)
  (case z_enumerate=>refine L2.Tb.ns (TB w) ?_;k_is)
  (case z_list=>refine L2.Tb.ns (TB w) ?_;k_is)
  (case z_len=>refine L2.Tb.ns (TB w) ?_;k_is)
  (case z_abs=>refine L2.Tb.ns (TB w) ?_;k_is)
  (case z_sorted=>refine L2.Tb.ns (TB w) ?_;k_is)
  (case z_int=>refine L2.Tb.ns (TB w) ?_;k_is)
  (case z_max=>refine L2.Tb.ns (TB w) ?_;k_is)
  (case z_min=>refine L2.Tb.ns (TB w) ?_;k_is)
  (case z_any=>refine L2.Tb.ns (TB w) ?_;k_is)
  (case z_isinstance=>refine L2.Tb.ns (TB w) ?_;k_is)
  (case z_bool=>refine L2.Tb.ns (TB w) ?_;k_is)
  (case ca_Bench=>refine L2.Tb.ns (TB w) ?_;k_is)
  (case cb_Bench=>refine L2.Tb.get (TB w) ?_;k_is)
  (case cc_Bench=>refine L2.Tb.dict (TB w) ?_;k_is)
  (case cd_Bench=>refine L2.Tb.over (TB w) ?_;k_is)
  (case ce_Bench=>refine L2.Tb.find (TB w) ?_;k_is)
  (case cf_Bench=>refine L2.Tb.makes (TB w) ?_;k_is)
  (case cg_Bench=>refine L2.Tb.keep (TB w) ?_;k_is)
  (case bD=>refine L2.Tb.find (TB w) ?_;k_is)
  (case cR=>refine L2.Tb.find (TB w) ?_;k_is)
  (case bC=>refine L2.Tb.find (TB w) ?_;k_is)
  (case nl=>exact L2.HB (by first|(with_unfolding_all rfl)|kernel_rfl))
